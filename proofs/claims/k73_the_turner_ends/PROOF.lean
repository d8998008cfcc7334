import PyProof.Rows.All
import KE.KSortTup
import KE.KDictOf
import KE.KNestM
import KE.KItemsList
import KE.KIsAll
import KE.KLam
import KE.KRevIter
import KE.KSortedM
import PySem.Challenge.RW_lendrule_k73_the_turner_ends
set_option maxHeartbeats 0
set_option Elab.async false
set_option linter.all false
set_option maxRecDepth 100000
noncomputable section
section
open PySem PySem.Spec PyProof.Rows
def yp:=@List.findIdx?_eq_some_iff_getElem
def mv:=@PyProof.Rows.slot_tuple_getitem
def EV:=@List.eraseIdx_eq_take_drop_succ
def yq:=@PyProof.Rows.callWith_builtin1
def j1:=@List.eq_nil_of_length_eq_zero
def yr:=@wpAny_typeNameOfWhole_keyiter
def EW:=@PySem.F.slot_dict_setdefault
def EX:=@F.args_tuple_iterator_next_1
def yt:=@F.slot_dict_keyiterator_next
def EY:=@F.entry_tuple_iterator_next
def eW:=@PyProof.Rows.callWith_type1
def yu:=@List.getElem?_append_right
def EZ:=@wpAny_newFunctionEnv_cells
def tM:=@F.slot_tuple_iterator_next
def E2:=@Array.perm_iff_toList_perm
def E3:=@Calls.Name_function_global
def yv:=@List.mem_or_eq_of_mem_set
def j2:=@List.getElem?_eq_none_iff
def yw:=@F.slot_tuple_getattribute
def j3:=@List.getElem?_append_left
def ie:=@Array.getElem?_eq_getElem
def yx:=@Calls.call_function_entry
def b6:=@List.getElem?_eq_some_iff
def tN:=@List.drop_eq_getElem_cons
def yy:=@List.pairwise_iff_getElem
def yz:=@PySem.F.args_tuple_add_2
def yA:=@wpAny_typeNameOf_keyiter
def b8:=@List.getElem?_eq_getElem
def iX:=@AutoSeq1.wpAny_loadPart'
def eX:=@wpAny_callSpecial?_slot
def oA:=@PySem.F.plainAttrs_list
def yB:=@PySem.F.plainAttrs_dict
def yC:=@PySem.F.entry_tuple_add
def yD:=@F.plain_set_update_loop
def yE:=@PySem.F.slot_tuple_add
def aG:=@Heap.get?_push_of_some
def yF:=@wpAny_pyIter_rangeiter
def mw:=@Array.getElem?_eq_none
def iY:=@Heap.get?_update_other
def mx:=@List.take_of_length_le
def gy:=@Option.map_eq_some_iff
def j4:=@List.getElem?_set_self
def ig:=@Nat.le_of_ble_eq_true
def yG:=@PySem.F.slot_dict_get
def gz:=@List.getElem?_eq_none
def eY:=@List.mem_append_right
def oB:=@builtinLookup_eq_fast
def yH:=@F.slot_range_reversed
def yI:=@wpAny_notOrdered_dict
def oC:=@Array.getElem?_toList
def fD:=@Heap.get?_update_self
def tO:=@Obj.isFreed_of_fields
def oE:=@List.mem_iff_getElem?
def yJ:=@wpAny_updateSeq_pair
def iZ:=@Around.under_plainId
def gA:=@Bool.and_eq_true_iff
def bF:=@List.mem_cons_of_mem
def yK:=@Obj.data_mapDictKeys
def tP:=@List.getElem_eq_getD
def fO:=@List.mem_of_getElem?
def gB:=@List.getElem?_set_ne
def oF:=@List.mem_append_left
def dQ:=@PySem.mem_of_lookup
def oG:=@List.getElem?_range
def bc:=@Heap.get?_push_size
def yL:=@List.length_reverse
def yM:=@List.filterMap_cons
def i3:=@List.replicate_succ
def fE:=@Array.length_toList
def yN:=@List.mergeSort_perm
def my:=@beq_eq_false_iff_ne
def oH:=@List.getElem_of_mem
def tQ:=@F.plain_extend_loop
def ij:=@Heap.SameBut.update
def cH:=@List.mem_singleton
def j5:=@tupleKind_room_in1
def oI:=@List.mem_filterMap
def yO:=@List.pairwise_cons
def dg:=@Bool.false_ne_true
def yP:=@of_decide_eq_false
def j6:=@wpAny_setField_rec
def tV:=@Nat.lt_of_le_of_lt
def tW:=@Int.emod_lt_of_pos
def bQ:=@List.mem_cons_self
def i4:=@Obj.data_mapFields
def ez:=@Bool.false_eq_true
def yQ:=@wpAny_pyIter_tuple
def fP:=@wpAny_Call_Name_kw
def cq:=@List.length_append
def bR:=@Nat.lt_of_lt_of_le
def oJ:=@wpAny_pyIter_list
def i5:=@wpAny_truthy_bool
def j8:=@List.map_inj_left
def tY:=@List.ext_getElem?
def tZ:=@List.flatMap_cons
def t5:=@List.pairwise_map
def t6:=@F.args_zip_next_1
def gC:=@List.length_range
def t7:=@Obj.cls_mapFields
def mB:=@Nat.lt_succ_of_lt
def yR:=@wpAny_pyIter_slot
def oK:=@Bool.not_eq_true'
def dv:=@of_decide_eq_true
def oM:=@Heap.get?_push_ne
def i6:=@wpAny_setState_of
def j9:=@decide_eq_true_eq
def eF:=@wpAny_newObj_type
def eZ:=@Int.toNat_natCast
def kc:=@List.flatten_cons
def oO:=@wpAny_dictEntries
def t8:=@List.reverse_cons
def oP:=@List.append_assoc
def cU:=@List.size_toArray
def bK:=@List.getElem?_map
def kf:=@beq_self_eq_true
def oQ:=@decide_eq_decide
def yS:=@Heap.IsList.push
def i8:=@Heap.size_update
def oR:=@Around.in1_units
def t9:=@List.isEmpty_iff
def oS:=@Nat.le_of_not_lt
def yT:=@wpAny_askSetting
def ua:=@F.entry_zip_next
def oT:=@List.length_take
def aQ:=@List.not_mem_nil
def yU:=@List.le_antisymm
def yV:=@List.getElem_mem
def yW:=@noFill_tuple_add
def ub:=@List.drop_length
def yX:=@List.flatMap_nil
def dh:=@List.length_cons
def eG:=@List.all_eq_true
def mC:=@wpAny_isInstance
def mD:=@List.mem_flatMap
def gD:=@List.lookup_cons
def ud:=@List.getElem_inj
def ue:=@Nat.le_add_right
def cV:=@wpAny_call_entry
def mE:=@Nat.lt_succ_self
def aE:=@Bool.and_eq_true
def yY:=@Option.getD_none
def ik:=@Option.bind_some
def gE:=@List.map_append
def yZ:=@codeAny_of_tree
def y0:=@Nat.min_eq_left
def mF:=@decide_eq_false
def uf:=@Nat.not_lt_zero
def oU:=@List.find?_cons
def ug:=@Bool.or_eq_true
def i9:=@F.slot_zip_next
def fg:=@List.append_nil
def il:=@codeAny_builtin
def oV:=@typeLookup_type
def uh:=@List.mem_filter
def oW:=@List.forIn_cons
def ui:=@List.of_mem_zip
def aJ:=@List.length_map
def y2:=@wpAny_ite_split
def mG:=@Int.emod_nonneg
def bB:=@Option.some.inj
def uj:=@wpAny_execs_nil
def oX:=@Option.map_some
def oY:=@wpAny_updateSeq
def y9:=@List.range_succ
def za:=@List.cons.injEq
def oZ:=@List.length_nil
def kh:=@List.nodup_cons
def uk:=@List.foldl_cons
def ip:=@List.length_set
def um:=@wpAny_specialOf
def ki:=@wpAny_passesOwn
def fQ:=@List.mem_append
def dR:=@List.mem_range
def fU:=@wpAny_seqItems
def o6:=@isSubtype_stop
def eJ:=@Heap.size_push
def kj:=@wpAny_setField
def uo:=@List.nodup_nil
def uq:=@List.forIn_nil
def uu:=@isSubtype_type
def eK:=@decide_eq_true
def mH:=@List.any_cons
def cD:=@wpAny_holding
def dX:=@Nat.lt_irrefl
def kl:=@Prod.mk.injEq
def fF:=@List.all_cons
def bz:=@List.map_cons
def ja:=@wpAny_attempt
def km:=@plainId_quiet
def aF:=@List.mem_cons
def uv:=@wpAny_onRaise
def mI:=@Paired.length
def aR:=@Nat.ne_of_lt
def bh:=@Nat.le_trans
def gF:=@Nat.le_of_eq
def iq:=@Nat.le_of_lt
def kn:=@Nat.lt_trans
def di:=@List.mem_map
def mJ:=@Nat.ne_of_gt
def kq:=@Nat.zero_add
def jb:=@codeAny_mono
def aC:=@Heap.lt_size
def uw:=@Nat.succ_pos
def kr:=@wpAny_typeOf
def ku:=@List.map_map
def mK:=@List.map_nil
def az:=@Nat.le_refl
def cw:=@wpAny_field
def mL:=@wpAny_letGo
def jc:=@sizeLine_eq
def ux:=@IsRange.new
def kz:=@List.not_lt
def o7:=@Prod.mk.inj
def fj:=@wpAny_of_eq
def eL:=@Nat.zero_le
def o8:=@boot_range
def o9:=@wpAny_call
def pd:=@intsAre_of
def ah:=@wpAny_pure
def gG:=@call_meets
def gH:=@wpAny_rule
def ae:=@wpAny_bind
def ir:=@wpAny_mono
def aO:=@eq_of_beq
def cW:=@if_false
def mM:=@tail_any
def aU:=@or_false
def fV:=@congrArg
def fW:=@if_true
def cx:=@Ne.symm
end
namespace PSh
end PSh
section
namespace L2
open PySem PySem.Spec PyProof.Rows
abbrev da:=Sum Int Str
inductive V where
 | bL | bl (b:Bool) | int (i:Int) | str (x:Str) | Sv (b:Array UInt8) | W2 (b:UInt64) | ref (a:Addr) | ty (n:String)
 deriving DecidableEq
def RelV:V->Value->Prop
 | .bL,u=>u=Value.none
 | .bl b,u=>u=Value.bool b
 | .int i,u=>∃t,u=Value.int i t
 | .str x,u=>∃t,u=Value.str x t
 | .Sv b,u=>∃t,u=Value.bytes b t
 | .W2 b,u=>∃t,u=Value.float b t
 | .ref a,u=>u=Value.ref a
 | .ty n,u=>u=Value.type n
abbrev Vals:List V->List Value->Prop:=Paired RelV
def kV:da->V
 | .inl i=>.int i
 | .inr x=>.str x
inductive HO where
 /-- a list -/
 | lst (xs:List V)
 /-- a tuple (never W3) -/
 | aw (xs:List V)
 /-- a dict MM keys X4 ints and Tf;one MM keys X4 tuples of ints and Tf (MN empty one is acq) -/
 | dK (kvs:List (da×V)) | dT (xs:List (List da×Addr×Value))
 /-- a set of ints: aA W4,aA size -/
 | set (S:Int->Bool) (n:Nat)
 /-- an instance of MN class at C,aA dict at dx,aA NS -/
 | ins (C dx:Addr) (fs:List (Str×V))
 /-- MN dict of MN instance at x -/
 | own (x:Addr)
 /-- MN dict of an Sw -/
 | xd (fs:List (Str×V))
 /-- a bound method,f of x -/
 | W5 (f x:Addr)
 /-- a range E4 lo,lo+1,.. below hi -/
 | W6 (lo hi:Int)
 /-- a Th acr is gk to MN E4 (MN X5;a dict while a loop aa0 it): acs,never written while it is so -/
 | nk (o:Obj) (u:HO)
 /-- a code Ti table -/
 | zb (q:Str)
 /-- any other Th,by what is true of aA one E4 (a def of aa1 own: acu a S n:=HO.ext λh=>..) -/
 | ext (φ:Heap->Prop)
abbrev Hp:=Addr->Option HO
def Rd(H:Hp)(a:Addr)(u:HO):Prop:=H a=some u\/∃o,H a=some (.nk o u)
def cX:List Str:=["arrivals","empties","needs","held"]
def fX(K:W.Frag)(H:Hp)(a:Addr)(xs:List V):Prop :=
 Rd H a (.aw xs) \/
  ∃(o:Obj) (aA:Array Value) (n:Nat),K.lookup a=some o/\o.cls=.type "tuple"/\o.data=.seq aA n/\aA.size<=sizeLine/\Vals xs aA.toList
def iu(K:W.Frag)(H:Hp)(a:Addr)(xs:List V):Prop :=
 Rd H a (.lst xs)\/∃(aA:List Value) (n:Nat),K.lookup a=some {cls:=.type "list",data:=.seq aA.toArray n}/\aA.length<=sizeLine/\Vals xs aA
structure CF (K:W.Frag) (C:Addr):Prop where
 pg:W.plainGet K C Str.empty=true
 hd:W.hasDictIn K C=true
 po:W.plainOver K C=true
 sa:W.findIn K (.ref C) "__setattr__"=some (some (.builtin "object.__setattr__"))
def iw(K:W.Frag)(C:Addr)(f:Str):Prop:=W.findIn K (.ref C) f=some none
section
variable {X:Cx} {CX:EG} {k:Nat} {f C:Addr} {fd:FuncData} {ps:List Str} {sp:Sp} {MO:List V} {ds:List Value} {E:XK} {x m:Str} {p pos kZ:Pos} {e o:Expr} {es:List Expr} {ta:TE} {t:TA}
structure Mk (K:W.Frag) (C f:Addr):Prop where
 makes:W.makesIn K C=true
 init:W.findIn K (.ref C) "__init__"=some (some (.ref f))
 fn:W.isFn K (.ref f)=true
 kp:W.keepIn K (.ref C)=true
end
structure dj (N P:List Str) (sc:Scope):Prop where
 kind:sc.kind=.function
 co:sc.isCoroutine=false
 gen:sc.isGenerator=false
 nd:N.Nodup
 pre:N.take P.length=P
 par:∀x∈P,sc.names.lookup x=some .local\/sc.names.lookup x=some .cell
 nofree:∀y∈sc.names,y.2≠.free
def gm(s:Stmt):Arguments:=match s with
 | .FunctionDef _ a _ _ _ _ _ _ _ _=>a
 | _=>{posonlyargs:=[],args:=[],vararg:=none,kwonlyargs:=[],kw_defaults:=[],kwarg:=none,defaults:=[]}
def cO(s:Stmt):List Stmt:=match s with
 | .FunctionDef _ _ b _ _ _ _ _ _ _=>b
 | _=>[]
def ao(s:Stmt):Scope:=match s with
 | .FunctionDef _ _ _ _ _ _ sc _ _ _=>sc
 | _=>{kind:=.function,names:=[],isGenerator:=false,isCoroutine:=false}
structure zc (K:W.Frag) (x qual:Str) (st:Stmt) (f:Addr) (fd:FuncData):Prop where
 ex:∃(oc:Value) (od:Option Addr) (kV doc pm:Value) (an:Option Addr) (cC ct:Value) (rM:Array (Option Value)),
  fd=W.fnOf x qual (gm st) (cO st) (ao st) .none kV doc pm an cC ct/\K.lookup f=some ⟨oc,od,.func fd,rM⟩/\W.codeIn K cC qual=true
 kp:W.keepIn K (.ref f)=true
section
variable {P:Program} {w:World} {K:W.Frag} {mg:Str->Option Value} {base:Heap}
def E5{st:Stmt}{oc:Value}{od an:Option Addr}{rM:Array (Option Value)}{kV doc pm cC ct:Value}(l:K.lookup f=some ⟨oc,od,.func (W.fnOf x qual (gm st) (cO st) (ao st) .none kV doc pm an cC ct),rM⟩)
  (c:W.codeIn K cC qual=true) (k:W.keepIn K (.ref f)=true):zc K x qual st f (W.fnOf x qual (gm st) (cO st) (ao st) .none kV doc pm an cC ct):=⟨⟨oc,od,kV,doc,pm,an,cC,ct,rM,rfl,l,c⟩,k⟩
end
section
variable {X:Cx} {af:List (Addr×Obj)} {σ:St} {H:Hp} {s:Shared} {a b:Addr} {k:List da} {v:V} {r:Value} {A:Around} {E:Value->Shared->Prop} {xs:List (List da×Addr×Value)}
def dB(K:W.Frag)(H:Hp)(xs:List (List da×Addr×Value)):Prop:=∀x∈xs,fX K H x.2.1 (x.1.map kV)
end
end L2
namespace L2.U
open PySem PySem.Spec PyProof.Rows
inductive Kd where
 | aw | lst | ins (C:Str) (ns:List Str) | iy (t:Bool) (ks:List (List da))
inductive PV where
 | bL | bl (b:Bool) | int (i:Int) | str (x:Str) | ref (n:Nat) | fn (x:Str) | nd (k:Kd) (ps:List PV)
abbrev PV.aw (ps:List PV):PV:=.nd .aw ps
structure Fz where
 F:Hp
 μ:List Addr
def ClsAt(K:W.Frag)(C:Str)(cls:Value):Prop:=W.nsIn K mainGlobals C=some (some cls)
def jK(K:W.Frag)(F H:Hp)(a:Addr)(x:Bool):Kd->List V->Prop
 | .aw,vs=>x=false/\fX K H a vs
 | .lst,vs=>if x=true then H a=some (.lst vs)else iu K H a vs
 | .ins C ns,vs=>∃Ca dx fs,ClsAt K C (.ref Ca)/\CF K Ca/\(∀f∈ns,iw K Ca f)/\H a=some (.ins Ca dx fs)/\fs.map (·.1)=ns/\fs.map (·.2)=vs
 | .iy false ks,vs=>∃kvs:List (da×V),H a=some (.dK kvs)/\kvs.map (λy=>[y.1])=ks/\kvs.map (·.2)=vs
 | .iy true ks,vs=>∃xs,H a=some (.dT xs)/\dB K F xs/\xs.map (·.1)=ks/\Vals vs (xs.map (·.2.2))
mutual
def bu(K:W.Frag)(F:Fz):PV->V->Prop
 | .bL,v=>v=.bL
 | .bl b,v=>v=.bl b
 | .int i,v=>v=.int i
 | .str x,v=>v=.str x
 | .ref n,v=>∃a,F.μ[n]?=some a/\v=.ref a
 | .fn x,v=>∃a,v=.ref a/\W.nsIn K mainGlobals x=some (some (.ref a))
 | .nd k ps,v=>∃a vs,v=.ref a/\jK K F.F F.F a false k vs/\ax K F ps vs
def ax(K:W.Frag)(F:Fz):List PV->List V->Prop
 | [],vs=>vs=[]
 | p::ps,vs=>∃v r,vs=v::r/\bu K F p v/\ax K F ps r
end
section
variable {K:W.Frag} {F F':Fz}
def ax.nil:ax K F [] []:=by simp[ax]
def ax.cons(h:bu K F p v)(t:ax K F ps vs):ax K F (p::ps) (v::vs):=by
 simp only[ax];exact⟨v,vs,rfl,h,t⟩
def cR:bu K F .bL v↔v=.bL:=by simp only[bu]
def bC:bu K F (.bl b) v↔v=.bl b:=by simp only[bu]
def aD:bu K F (.int i) v↔v=.int i:=by simp only[bu]
def b7:bu K F (.str i) v↔v=.str i:=by simp only[bu]
def iz:bu K F (.nd k ps) v↔∃a vs,v=.ref a/\jK K F.F F.F a false k vs/\ax K F ps vs:=by simp only[bu]
def bH:bu K F (.aw ps) v↔∃a vs,v=.ref a/\fX K F.F a vs/\ax K F ps vs :=
 iz.trans ⟨(by rintro⟨a,vs,h1,h2,h3⟩;exact⟨a,vs,h1,h2.2,h3⟩),(by rintro⟨a,vs,h1,h2,h3⟩;exact⟨a,vs,h1,⟨rfl,h2⟩,h3⟩)⟩
end
structure Pg where
 defs:List (Str×Stmt)
 cons:List (Str×PV):=[]
 cP:List Str:=[]
 tabs:List (Str×List (Str×Str)):=[]
 dO:List (Str×List (Str×PV)):=[]
 cls:List (Str×Stmt):=[]
 flds:List Str:=[]
 mN:List Str:=[]
 Tj:List (Str×List (Str×Nat)):=[]
def params(st:Stmt):List Str:=(gm st).args.map λa=>a.arg
def Tn:NameKind->Bool
 | .local=>true
 | .cell=>true
 | _=>false
def bX(st:Stmt):List Str:=params st++((ao st).names.filter λy=>Tn y.2&&!(params st).contains y.1).map λy=>y.1
structure E6 (K:W.Frag) (x:Str) (st:Stmt):Prop where
 ex:∃f fd,W.nsIn K mainGlobals x=some (some (.ref f))/\zc K x x st f fd/\∀us:List Value,us.length=(params st).length->bindArgs fd ⟨us,[]⟩=pure ((params st).zip us)
 sc:dj (bX st) (params st) (ao st)
def CG(K:W.Frag)(P:Params)(T:Str)(rows:List (Str×Str)):Prop :=
 ∃a es n,W.nsIn K mainGlobals T=some (some (.ref a))/\K.lookup a=some ⟨.type "dict",none,.dict es n,#[]⟩/\W.KeysLit P es.toList/\∀d∈rows,∃f,W.nsIn K a d.1=some (some (.ref f))/\W.nsIn K mainGlobals d.2=some (some (.ref f))
def X6{K:W.Frag}{P:Params}{T:Str}{rows:List (Str×Str)}{a:Addr}{es:Array DictEntry}{n:Nat}(h1:W.nsIn K mainGlobals T=some (some (.ref a)))(h2:K.lookup a=some ⟨.type "dict",none,.dict es n,#[]⟩)(h3:W.KeysLit P es.toList)
  (h4:∀d∈rows,∃f,W.nsIn K a d.1=some (some (.ref f))/\W.nsIn K mainGlobals d.2=some (some (.ref f))):CG K P T rows:=⟨a,es,n,h1,h2,h3,h4⟩
def MP:PV->Value->Bool
 | .int i,.int j _=>i==j
 | .str x,.str y _=>x==y
 | .bl a,.bool b=>a==b
 | .bL,.none=>true
 | _,_=>false
def uy:List PV->List Value->Bool
 | [],[]=>true
 | p::r,u::q=>MP p u&&uy r q
 | _,_=>false
def NT{K:W.Frag}{p:PV}{u:Value}(h:MP p u=true):∃v,RelV v u/\∀F,bu K F p v:=by
 cases p<;>cases u<;>first | exact absurd h dg | skip
 ·exact⟨.bL,rfl,λF=>cR.mpr rfl⟩
 ·cases aO h;exact⟨.bl _,rfl,λF=>bC.mpr rfl⟩
 ·cases aO h;exact⟨.int _,⟨_,rfl⟩,λF=>aD.mpr rfl⟩
 ·cases aO h;exact⟨.str _,⟨_,rfl⟩,λF=>b7.mpr rfl⟩
def Jr{K:W.Frag}{ps:List PV}{us:List Value}(h:uy ps us=true):∃vs,Vals vs us/\∀F,ax K F ps vs:=by
 induction ps generalizing us with
 | nil=>cases us;exact⟨[],.nil,λ_=>.nil⟩;cases h
 | cons p r ih =>
  cases us with
  | nil=>cases h
  | cons u q =>
   have h:=gA.mp h;obtain⟨v,a,b⟩:=NT (K:=K) h.1;obtain⟨vs,h1,h2⟩:=ih h.2;exact⟨v::vs,.cons a h1,λF=>.cons (b F) (h2 F)⟩
def Js{K:W.Frag}{g:Addr}{x:Str}{a:Addr}{ps:List PV}{us:List Value}{n:Nat}{dd:Option Addr}{sl:Array (Option Value)}(h1:W.nsIn K g x=some (some (.ref a)))(h2:K.lookup a=some ⟨.type "tuple",dd,.seq us.toArray n,sl⟩)(h3:uy ps us=true)(h4:us.length<=100) :
  ∃u v,W.nsIn K g x=some (some u)/\RelV v u/\∀F,bu K F (.aw ps) v:=by
 obtain⟨vs,r,b⟩:=Jr h3;exact⟨_,.ref a,h1,rfl,λF=>bH.mpr ⟨a,vs,rfl,.inr ⟨_,us.toArray,n,h2,rfl,rfl,by rw[cU];exact bh h4 (by decide),by grind⟩,b F⟩⟩
def Jt{K:W.Frag}{g:Addr}{x:Str}{y:Str}{t:Tok}(a:W.nsIn K g x=some (some (.str y t))):∃u v,W.nsIn K g x=some (some u)/\RelV v u/\∀F,bu K F (.str y) v:=⟨_,.str y,a,⟨t,rfl⟩,λF=>b7.mpr rfl⟩
def Ju{K:W.Frag}{g:Addr}{x:Str}{i:Int}{t:Tok}(a:W.nsIn K g x=some (some (.int i t))):∃u v,W.nsIn K g x=some (some u)/\RelV v u/\∀F,bu K F (.int i) v:=⟨_,.int i,a,⟨t,rfl⟩,λF=>aD.mpr rfl⟩
def vT(K:W.Frag)(P:Params)(T:Str)(rows:List (Str×PV)):Prop :=
 ∃a es n,W.nsIn K mainGlobals T=some (some (.ref a))/\K.lookup a=some ⟨.type "dict",none,.dict es n,#[]⟩/\W.KeysLit P es.toList/\∀d∈rows,∃u v,W.nsIn K a d.1=some (some u)/\RelV v u/\∀F,bu K F d.2 v
def NU(K:W.Frag)(C:Str)(st:Stmt)(flds:List Str):Prop:=∃Ca f fd,W.nsIn K mainGlobals C=some (some (.ref Ca))/\Mk K Ca f/\CF K Ca/\(∀g∈flds,iw K Ca g)/\zc K "__init__" (C++".__init__") st f fd/\(∀us:List Value,us.length=(params st).length->bindArgs fd ⟨us,[]⟩=pure ((params st).zip us))/\dj (bX st) (params st) (ao st)
def NV(K:W.Frag)(x:Str):Prop:=x∈cX/\∃c T,W.tabIn K x=some (c,T)/\W.codeHdIn K c T=true
def E7(K:W.Frag):Prop:=∃bm o,W.nsIn K mainGlobals "__builtins__"=some (some (.ref bm))/\bm≠builtinsNs/\bm≠mainGlobals/\K.lookup bm=some o/\o.cls=.type "module"/\o.dict=some builtinsNs/\o.data=.plain
structure k0 (K:W.Frag) (h:Heap):Prop where
 at_:∀x∈cX,∀c T,W.tabIn K x=some (c,T)->W.codeHdIn K c T=true/\h.get? T=some {cls:=.none,data:=.fields #[]}/\K.lookup T=none
 nd:(cX.filterMap λx=>(W.tabIn K x).map (·.2)).Nodup
def k0.keeps{K:W.Frag}{h h':Heap}(t:k0 K h)(k:∀b o,h.get? b=some o->h'.get? b=some o):k0 K h':=⟨λx hx c T e=>let ⟨h1,h2,h3⟩:=t.at_ x hx c T e;⟨h1,k _ _ h2,h3⟩,t.nd⟩
structure E8 (P:Pg) (w:World) (K:W.Frag):Prop where
 hd:∀d∈P.defs,E6 K d.1 d.2
 hc:∀d∈P.cons,∃u v,W.nsIn K mainGlobals d.1=some (some u)/\RelV v u/\∀F,bu K F d.2 v
 hb:∀x∈P.cP,W.nsIn K mainGlobals x=some none
 ht:∀d∈P.tabs,CG K w.params d.1 d.2
 hcl:∀d∈P.cls,NU K d.1 d.2 P.flds
 hct:∀d∈P.dO,vT K w.params d.1 d.2
 X7:∀x∈P.mN,NV K x
 hbm:P.mN≠[]->E7 K
def vU:Value->List Addr
 | .ref a=>[a]
 | _=>[]
def rN:Option Obj->List Addr
 | some ⟨_,_,.dict es _,_⟩=>es.toList.flatMap λe=>vU e.val
 | some ⟨_,_,.func fd,_⟩=>vU fd.code
 | some ⟨_,_,.cls cd,_⟩=>cd.ns::cd.mro.flatMap vU
 | _=>[]
def CH:Obj->Bool
 | ⟨.none,none,.fields vs,sl⟩=>vs.isEmpty&&sl.isEmpty
 | _=>false
def fragOf(h:Heap):List Addr->W.Frag
 | []=>[]
 | a::r=>match h.get? a with
  | some o=>if CH o=true then fragOf h r else(a,o)::fragOf h r
  | none=>fragOf h r
theorem fM(h:Heap):∀(as:List Addr) (b:Addr) (o:Obj),(fragOf h as).lookup b=some o->h.get? b=some o/\CH o=false
 | [],_,_,e=>nomatch e
 | a::r,b,o,e=>by
  unfold fragOf at e;split at e
  ·rename_i o' ho;split at e
   ·exact fM h r b o e
   ·rename_i ht;rw[gD]at e;cases z:b==a with
    | true =>
     rw[z]at e;cases e;rw[aO z];exact⟨ho,by simpa using ht⟩
    | false =>
     rw[z]at e;exact fM h r b o e
  ·exact fM h r b o e
theorem CI(h:Heap)(as:List Addr):(fragOf h as).In h:=λb o e=>(fM h as b o e).1
theorem A6(h:Heap){b:Addr}{o:Obj}(h1:h.get? b=some o)(h2:CH o=false):∀as:List Addr,b∈as->(fragOf h as).lookup b=some o
 | a::r,hb=>by
  unfold fragOf;by_cases e:b=a
  ·subst e;rw[h1];show(if CH o=true then _ else _:W.Frag).lookup b=_
   rw[h2,if_neg dg,gD,kf]
  ·have ih:=A6 h h1 h2 r ((aF.mp hb).resolve_left e);split
   ·split
    ·exact ih
    ·rw[gD,my.mpr e];exact ih
   ·exact ih
theorem mO{h:Heap}{as bs:List Addr}{b:Addr}{o:Obj}(e:(fragOf h as).lookup b=some o)(hb:b∈bs):(fragOf h bs).lookup b=some o:=A6 h (fM h as b o e).1 (fM h as b o e).2 bs hb
def nsO:Option Obj->List Addr
 | some ⟨_,_,.cls cd,_⟩=>[cd.ns]
 | _=>[]
def NW(h:Heap)(a:Addr):List Addr:=a::(rN (h.get? a)++(nsO (h.get? a)).flatMap λb=>(rN (h.get? b)).flatMap λc=>c::rN (h.get? c))
def d9(h:Heap):W.Frag:=fragOf h (mainGlobals::(rN (h.get? mainGlobals)).flatMap (NW h))
def Jv(K:W.Frag)(x:Str):Option FuncData:=match W.nsIn K mainGlobals x with
 | some (some (.ref f))=>(match K.lookup f with
  | some ⟨_,_,.func fd,_⟩=>(match W.codeIn K fd.code x with
   | true=>some {fd with kwdefaults:=.none,doc:=.none,pyModule:=.none,annotations:=none,code:=.none,closureTuple:=.none}
   | false=>none)
  | _=>none)
 | _=>none
def E9(h:Heap)(x:Str):Option FuncData:=match W.nsIn (fragOf h [mainGlobals]) mainGlobals x with
 | some (some (.ref f))=>(match(fragOf h [f]).lookup f with
  | some ⟨_,_,.func fd,_⟩=>(match W.codeIn (fragOf h (vU fd.code)) fd.code x with
   | true=>some {fd with kwdefaults:=.none,doc:=.none,pyModule:=.none,annotations:=none,code:=.none,closureTuple:=.none}
   | false=>none)
  | _=>none)
 | _=>none
def Fb{h:Heap}{x:Str}{v:FuncData}(e:E9 h x=some v):Jv (d9 h) x=some v:=by
 unfold E9 at e;split at e
 ·rename_i f hf;split at e
  ·rename_i oc od fd rM hl;split at e
   ·rename_i hc;have hg:W.nsIn (d9 h) mainGlobals x=some (some (.ref f))/\f∈rN (h.get? mainGlobals):=by
     unfold W.nsIn at hf ⊢;split at hf
     ·rename_i gc gd es gn gs hk;have k2:(d9 h).lookup mainGlobals=_:=mO hk bQ;rw[k2,(fM _ _ _ _ hk).1];refine⟨hf,?_⟩;split at hf
      ·rename_i en hen;have hv:en.val=.ref f:=bB (bB hf);exact mD.mpr ⟨en,List.mem_of_find?_eq_some hen,by rw[hv];exact bQ⟩
      ·split at hf<;>cases hf
     ·cases hf
    have mf:∀b∈NW h f,b∈mainGlobals::(rN (h.get? mainGlobals)).flatMap (NW h):=λb hb=>bF _ (mD.mpr ⟨f,hg.2,hb⟩)
    have k3:(d9 h).lookup f=some ⟨oc,od,.func fd,rM⟩:=mO hl (mf f bQ);have k4:W.codeIn (d9 h) fd.code x=true:=by
     unfold W.codeIn at hc ⊢;split at hc
     ·rename_i c yl;split at hc
      ·rename_i cc cdd vs csl hk;have:(d9 h).lookup c=_:=mO hk (mf c (bF _ (oF _ (by rw[(fM _ _ _ _ hl).1];show c∈vU fd.code;rw[yl];exact bQ))))
       rw[this];exact hc
      ·cases hc
     ·cases hc
    unfold Jv;rw[hg.1];dsimp only
    rw[k3];dsimp only
    rw[k4];exact e
   ·cases e
  ·cases e
 ·cases e
def Fc(x:Str)(st:Stmt):FuncData:=W.fnOf x x (gm st) (cO st) (ao st) .none .none .none .none none .none .none
def Jw{K:W.Frag}{x:Str}{st:Stmt}(h:Jv K x=some (Fc x st)):∃f fd,W.nsIn K mainGlobals x=some (some (.ref f))/\zc K x x st f fd:=by
 unfold Jv at h;split at h
 ·rename_i f hf;split at h
  ·rename_i oc od fd rM hl;split at h
   ·rename_i hc;have h:=bB h;obtain⟨a1,a2,a3,a4,a5,a6,a7,a8,a9,a10,a11,a12,a13,a14,a15⟩:=fd;unfold Fc at h;simp only[FuncData.mk.injEq]at h;obtain⟨e1,e2,e3,e4,e5,e6,e7,e8,-,-,-,-,-,-,X8⟩:=h;subst e1 e2 e3 e4 e5 e6 e7 e8 X8;exact⟨f,_,hf,E5 hl hc (by unfold W.keepIn;dsimp only;rw[hl])⟩
   ·cases h
  ·cases h
 ·cases h
def A7(K:W.Frag)(g:Addr)(d:Str×PV):Bool:=match W.nsIn K g d.1 with
 | some (some (.int j _))=>(match d.2 with | .int i=>i==j | _=>false)
 | some (some (.str y _))=>(match d.2 with | .str x=>x==y | _=>false)
 | some (some (.ref a))=>(match K.lookup a with
  | some ⟨.type t,_,.seq us _,_⟩=>(match d.2 with | .nd .aw ps=>(t=="tuple")&&(uy ps us.toList&&decide (us.toList.length<=100)) | _=>false)
  | _=>false)
 | _=>false
def vV{K:W.Frag}{g:Addr}{x:Str}{p:PV}(h:A7 K g (x,p)=true):∃u v,W.nsIn K g x=some (some u)/\RelV v u/\∀F,bu K F p v:=by
 unfold A7 at h;dsimp only at h
 split at h
 ·rename_i j t hn;split at h
  ·obtain rfl:=aO h;exact Ju hn
  ·cases h
 ·rename_i y t hn;split at h
  ·obtain rfl:=aO h;exact Jt hn
  ·cases h
 ·rename_i a hn;split at h
  ·rename_i t dd us n sl hl;split at h
   ·rw[aE,aE]at h;obtain⟨h1,h2,h3⟩:=h;obtain rfl:=aO h1;obtain⟨us⟩:=us;exact Js hn hl h2 (dv h3)
   ·cases h
  ·cases h
 ·cases h
def Fe(K:W.Frag)(x:Str):Bool:=match W.nsIn K mainGlobals x with
 | some none=>true
 | _=>false
def Ff{K:W.Frag}{x:Str}(h:Fe K x=true):W.nsIn K mainGlobals x=some none:=by
 unfold Fe at h;split at h
 ·assumption
 ·cases h
abbrev OV:=Option (Option Value)
def A8(e:DictEntry):Option Str×Int:=(match e.key with
 | .str x _=>some x
 | _=>none,e.hash)
def Fg(K:W.Frag)(a:Addr)(d:Str×Str):Bool:=match W.nsIn K a d.1,W.nsIn K mainGlobals d.2 with
 | some (some (.ref f)),some (some (.ref g))=>f==g
 | _,_=>false
def Fh(K:W.Frag)(T:Str)(rows:List (Str×Str)):Option (Value×Option Addr×Array (Option Value)×List (Option Str×Int)×Bool):=match W.nsIn K mainGlobals T with
 | some (some (.ref a))=>(match K.lookup a with
  | some ⟨c,dd,.dict es _,sl⟩=>some (c,dd,sl,es.toList.map A8,rows.all (Fg K a))
  | _=>none)
 | _=>none
def zd(P:Params)(rows:List (Str×Str)):Option (Value×Option Addr×Array (Option Value)×List (Option Str×Int)×Bool):=some (.type "dict",none,#[],rows.map (λd=>(some d.1,PyData.keyHash P d.1)),true)
theorem pe{β:Type}{P:Params}:∀{es:List DictEntry} {rows:List (Str×β)},es.map A8=rows.map (λd=>(some d.1,PyData.keyHash P d.1))->W.KeysLit P es
 | [],_,_=>trivial
 | _::_,[],h=>by cases h
 | e::es,d::rows,h=>by
  rw[bz,bz,za]at h;obtain⟨h1,h2⟩:=h;refine⟨?_,pe h2⟩;unfold A8 at h1;rw[kl]at h1;obtain⟨h3,h4⟩:=h1;split at h3
  ·grind
  ·cases h3
def Fj{K:W.Frag}{a:Addr}{d:Str×Str}(h:Fg K a d=true):∃f,W.nsIn K a d.1=some (some (.ref f))/\W.nsIn K mainGlobals d.2=some (some (.ref f)):=by
 unfold Fg at h;split at h
 ·grind
 ·cases h
def Fl{K:W.Frag}{P:Params}{T:Str}{rows:List (Str×Str)}(h:Fh K T rows=zd P rows):CG K P T rows:=by
 unfold Fh zd at h;split at h
 ·rename_i a hn;split at h
  ·rename_i c dd es n sl hl;have h:=bB h;simp only[kl]at h;obtain⟨rfl,rfl,rfl,h4,h5⟩:=h;exact X6 hn hl (pe h4) λd hd=>Fj (eG.mp h5 d hd)
  ·cases h
 ·cases h
abbrev Jx:=Option (Value×Option Addr×Array (Option Value)×List (Option Str×Int)×Bool)
def zf(K:W.Frag)(f:Addr)(qual:Str):Option FuncData:=match K.lookup f with
 | some ⟨_,_,.func fd,_⟩=>(match W.codeIn K fd.code qual with
  | true=>some {fd with kwdefaults:=.none,doc:=.none,pyModule:=.none,annotations:=none,code:=.none,closureTuple:=.none}
  | false=>none)
 | _=>none
def Fm(x qual:Str)(st:Stmt):FuncData:=W.fnOf x qual (gm st) (cO st) (ao st) .none .none .none .none none .none .none
def CJ{K:W.Frag}{x qual:Str}{st:Stmt}{f:Addr}(h:zf K f qual=some (Fm x qual st)):∃fd,zc K x qual st f fd:=by
 unfold zf at h;split at h
 ·rename_i oc od fd rM hl;split at h
  ·rename_i hc;have h:=bB h;obtain⟨a1,a2,a3,a4,a5,a6,a7,a8,a9,a10,a11,a12,a13,a14,a15⟩:=fd;unfold Fm at h;simp only[FuncData.mk.injEq]at h;obtain⟨e1,e2,e3,e4,e5,e6,e7,e8,-,-,-,-,-,-,X8⟩:=h;subst e1 e2 e3 e4 e5 e6 e7 e8 X8;exact⟨_,E5 hl hc (by unfold W.keepIn;dsimp only;rw[hl])⟩
  ·cases h
 ·cases h
abbrev NX:=Option (Bool×OV×List OV×Option FuncData)
def Fo(K:W.Frag)(flds:List Str)(C:Str):NX:=match W.nsIn K mainGlobals C with
 | some (some (.ref a))=>(match W.findIn K (.ref a) "__init__" with
  | some (some (.ref f))=>some (W.makesIn K a&&(W.isFn K (.ref f)&&(W.keepIn K (.ref a)&&(W.plainGet K a Str.empty&&(W.hasDictIn K a&&W.plainOver K a)))),W.findIn K (.ref a) "__setattr__",flds.map (λg=>W.findIn K (.ref a) g),zf K f (C++".__init__"))
  | _=>none)
 | _=>none
def zg(flds:List Str)(C:Str)(st:Stmt):NX:=some (true,some (some (.builtin "object.__setattr__")),flds.map (λ_=>some none),some (Fm "__init__" (C++".__init__") st))
def uz:List Str->Bool
 | []=>true
 | x::r=>!r.contains x&&uz r
theorem rO:∀{l:List Str},uz l=true->l.Nodup
 | [],_=>uo
 | x::r,h=>by
  simp only[uz,aE,oK,List.contains_eq_mem,decide_eq_false_iff_not]at h;exact kh.mpr ⟨h.1,rO h.2⟩
def X9:Option NameKind->Bool
 | some .local=>true
 | some .cell=>true
 | _=>false
def To:NameKind->Bool
 | .free=>false
 | _=>true
def Tp:ScopeKind->Bool
 | .function=>true
 | _=>false
def Jy(st:Stmt):Bool:=Tp (ao st).kind&&(!(ao st).isCoroutine&&(!(ao st).isGenerator&&(uz (bX st)&&((params st).all (λx=>X9 ((ao st).names.lookup x))&&(ao st).names.all λy=>To y.2))))
def Fp{st:Stmt}(h:Jy st=true):dj (bX st) (params st) (ao st):=by
 unfold Jy at h;rw[aE,aE,aE,aE,aE]at h;obtain⟨h1,h2,h3,h4,h5,h6⟩:=h;refine⟨?_,by grind,by grind,rO h4,?_,λx hx=>?_,λy hy=>?_⟩
 ·cases z:(ao st).kind<;>rw[z]at h1<;>first | rfl | cases h1
 ·exact List.take_left
 ·have k:=eG.mp h5 x hx;cases z:(ao st).names.lookup x with
  | none=>rw[z]at k;cases k
  | some b =>
   rw[z]at k;cases b<;>first | exact .inl rfl | exact .inr rfl | cases k
 ·have k:=eG.mp h6 y hy;intro z;rw[z]at k;cases k
def A9(P:Pg):Prop:=∀(kV doc pm:Value) (an:Option Addr) (cC ct:Value) (u:Nat->Value),
 P.defs.map (λd=>bindArgs (W.fnOf d.1 d.1 (gm d.2) (cO d.2) (ao d.2) .none kV doc pm an cC ct) ⟨(List.range (params d.2).length).map u,[]⟩)=P.defs.map λd=>pure ((params d.2).zip ((List.range (params d.2).length).map u))
def vW{us:List Value}{n:Nat}(h:us.length=n):(List.range n).map (λi=>us.getD i .none)=us:=by
 subst h;apply List.ext_getElem
 ·simp
 ·intro i h1 h2;simp[h2]
def NY{K:W.Frag}{x:Str}{st:Stmt}{f:Addr}{fd:FuncData}{P:Pg}(hb:A9 P)(hd:(x,st)∈P.defs)(F:zc K x x st f fd)(us:List Value)(hl:us.length=(params st).length):bindArgs fd ⟨us,[]⟩=pure ((params st).zip us):=by
 obtain⟨oc,od,kV,doc,pm,an,cC,ct,rM,rfl,lk,yl⟩:=F.ex;have k:=j8.mp (hb kV doc pm an cC ct λi=>us.getD i .none) (x,st) hd
 dsimp only at k
 rw[vW hl]at k;exact k
def Jz(P:Pg):Prop:=∀(kV doc pm:Value) (an:Option Addr) (cC ct:Value) (u:Nat->Value),
 P.cls.map (λd=>bindArgs (W.fnOf "__init__" (d.1++".__init__") (gm d.2) (cO d.2) (ao d.2) .none kV doc pm an cC ct) ⟨(List.range (params d.2).length).map u,[]⟩)=P.cls.map λd=>pure ((params d.2).zip ((List.range (params d.2).length).map u))
def Fq{K:W.Frag}{P:Pg}{C:Str}{st:Stmt}(NZ:Jy st=true)(hb:Jz P)(hd:(C,st)∈P.cls)(h:Fo K P.flds C=zg P.flds C st):NU K C st P.flds:=by
 unfold Fo zg at h;split at h
 ·rename_i a hn;split at h
  ·rename_i f hf;have h:=bB h;simp only[kl,aE]at h;obtain⟨⟨h1,h2,h3,h4,h5,h6⟩,h7,h8,h9⟩:=h;obtain⟨fd,F⟩:=CJ h9;refine⟨a,f,fd,hn,⟨h1,hf,h2,h3⟩,⟨h4,h5,h6,h7⟩,λg hg=>j8.mp h8 g hg,F,λus hl=>?_,Fp NZ⟩
   obtain⟨oc,od,kV,doc,pm,an,cC,ct,rM,rfl,lk,yl⟩:=F.ex;have k:=j8.mp (hb kV doc pm an cC ct λi=>us.getD i .none) (C,st) hd
   dsimp only at k
   rw[vW hl]at k;exact k
  ·cases h
 ·cases h
def zh(K:W.Frag)(h:Heap)(x:Str):Bool:=match W.tabIn K x with
 | none=>true
 | some (c,T)=>W.codeHdIn K c T&&(match h.get? T with
  | some o=>CH o
  | _=>false)
def N1(K:W.Frag):Bool:=match W.nsIn K mainGlobals "__builtins__" with
 | some (some (.ref bm))=>!(bm==builtinsNs)&&(!(bm==mainGlobals)&&(match K.lookup bm with
  | some ⟨.type m,some d,.plain,_⟩=>(m=="module")&&(d==builtinsNs)
  | _=>false))
 | _=>false
def Ft(P:Pg)(K:W.Frag)(h:Heap):Bool:=cX.all (zh K h)&&(decide (cX.filterMap λx=>(W.tabIn K x).map (·.2)).Nodup&&((P.mN.isEmpty || N1 K)&&P.mN.all λx=>cX.contains x&&(W.tabIn K x).isSome))
def rP{h:Heap}{x:Str}{c T:Addr}(e:zh (d9 h) h x=true)(t:W.tabIn (d9 h) x=some (c,T)):W.codeHdIn (d9 h) c T=true/\h.get? T=some {cls:=.none,data:=.fields #[]}/\(d9 h).lookup T=none:=by
 unfold zh at e;rw[t]at e;simp only[aE]at e;obtain⟨h1,h3⟩:=e;split at h3
 ·rename_i o ho;refine⟨h1,?_,?_⟩
  ·unfold CH at h3;split at h3
   ·grind
   ·cases h3
  ·cases k:(d9 h).lookup T with
   | none=>rfl
   | some o' =>
    obtain⟨k1,k2⟩:=fM _ _ _ _ k;rw[ho]at k1;cases k1;rw[h3]at k2;cases k2
 ·cases h3
def JA{K:W.Frag}(e:N1 K=true):E7 K:=by
 unfold N1 at e;split at e
 ·rename_i bm hb;simp only[aE]at e;obtain⟨h1,h2,h3⟩:=e;split at h3
  ·rename_i m d sl z;rw[aE]at h3;obtain rfl:=aO h3.1;obtain rfl:=aO h3.2;exact⟨bm,_,hb,by grind,by grind,z,rfl,rfl,rfl⟩
  ·cases h3
 ·cases e
def Fu{P:Pg}{h:Heap}(e:Ft P (d9 h) h=true):k0 (d9 h) h/\(∀x∈P.mN,NV (d9 h) x)/\(P.mN≠[]->E7 (d9 h)):=by
 unfold Ft at e;simp only[aE]at e;obtain⟨h1,h2,h3,h4⟩:=e;have all:=eG.mp h1;refine⟨⟨λx hx c T t=>rP (all x hx) t,dv h2⟩,λx hx=>?_,λz=>?_⟩
 ·have:=eG.mp h4 x hx;rw[aE]at this;have hm:x∈cX:=by grind
  cases t:W.tabIn (d9 h) x with
  | none=>rw[t]at this;cases this.2
  | some cT=>exact⟨hm,cT.1,cT.2,t,(rP (all x hm) t).1⟩
 ·rcases Bool.or_eq_true_iff.mp h3 with y | y
  ·grind
  ·exact JA y
def zi(K:W.Frag)(T:Str)(rows:List (Str×PV)):Jx:=match W.nsIn K mainGlobals T with
 | some (some (.ref a))=>(match K.lookup a with
  | some ⟨c,dd,.dict es _,sl⟩=>some (c,dd,sl,es.toList.map A8,rows.all (A7 K a))
  | _=>none)
 | _=>none
def uA(P:Params)(rows:List (Str×PV)):Jx:=some (.type "dict",none,#[],rows.map (λd=>(some d.1,PyData.keyHash P d.1)),true)
def CK{K:W.Frag}{P:Params}{T:Str}{rows:List (Str×PV)}(h:zi K T rows=uA P rows):vT K P T rows:=by
 unfold zi uA at h;split at h
 ·rename_i a hn;split at h
  ·rename_i c dd es n sl hl;have h:=bB h;simp only[kl]at h;obtain⟨rfl,rfl,rfl,h4,h5⟩:=h;exact⟨a,es,n,hn,hl,pe h4,λd hd=>vV (eG.mp h5 d hd)⟩
  ·cases h
 ·cases h
abbrev N2:=List (Option FuncData)×Bool×List Jx×List NX×List Jx
def zj(P:Pg)(K:W.Frag)(hp:Heap):N2:=(P.defs.map (λd=>E9 hp d.1),P.cons.all (A7 K mainGlobals)&&(P.cP.all (Fe K)&&Ft P K hp),P.tabs.map (λd=>Fh K d.1 d.2),P.cls.map (λd=>Fo K P.flds d.1),P.dO.map λd=>zi K d.1 d.2)
def zk(P:Pg)(w:World):N2:=(P.defs.map (λd=>some (Fc d.1 d.2)),true,P.tabs.map (λd=>zd w.params d.2),P.cls.map (λd=>zg P.flds d.1 d.2),P.dO.map λd=>uA w.params d.2)
def CL{P:Pg}{w:World}(NZ:P.defs.all (λd=>Jy d.2)=true)(Tq:A9 P)(Fv:P.cls.all (λd=>Jy d.2)=true)(Fw:Jz P){hp:Heap}(h:zj P (d9 hp) hp=zk P w):E8 P w (d9 hp)/\k0 (d9 hp) hp:=by
 unfold zj zk at h;simp only[kl]at h;obtain⟨h1,h2,h5,h6,h7⟩:=h;rw[aE,aE]at h2;obtain⟨l1,l2,l3⟩:=Fu h2.2.2;refine⟨⟨λd hd=>?_,λd hd=>vV (eG.mp h2.1 d hd),λx hx=>Ff (eG.mp h2.2.1 x hx),λd hd=>Fl (j8.mp h5 d hd),λd hd=>Fq (eG.mp Fv d hd) Fw hd (j8.mp h6 d hd),λd hd=>CK (j8.mp h7 d hd),l2,l3⟩,l1⟩
 obtain⟨f,fd,a,F⟩:=Jw (Fb (j8.mp h1 d hd));exact⟨⟨f,fd,a,F,λus hl=>NY Tq hd F us hl⟩,Fp (eG.mp NZ d hd)⟩
def JB(P:Pg)(NZ:P.defs.all (λd=>Jy d.2)=true)(Tq:A9 P)(Fv:P.cls.all (λd=>Jy d.2)=true)(Fw:Jz P):W.Hook :=
 ⟨N2,λs=>zj P (d9 s.heap) s.heap,λw=>zk P w,λw h=>∃K:W.Frag,K.In h/\E8 P w K/\k0 K h,λw s e=>⟨_,CI _ _,CL NZ Tq Fv Fw e⟩,λ_ _ _ ⟨K,a,b,c⟩ k=>⟨K,a.keeps k,b,c.keeps k⟩⟩
def CM(p:Program)(row:String)(b:Bool)(N:Nat)(w:World):Option Shared:=(W.fencedOpening treeTable p w N).bind λs₀=>W.topFrom treeTable p (w.withFollow row b) N s₀
def CN{p q:Program}{loose:List Str}{Xt:Shared->Bool}{α:Type}{Yf:Shared->α}{Ya:World->α}{N:Nat}{g0:Bool}(row:String)
  (h1:∀w,(CM p row false N w).map (W.openSeen q loose (importedModules p.main.body) Xt g0)=some (W.openGood q loose)) (h2:∀w,(CM p row true N w).map (W.openSeen q loose (importedModules p.main.body) Xt g0)=some (W.openGood q loose))
  (h3:∀w,(CM p row false N w).map Yf=some (Ya (w.withFollow row false))) (h4:∀w,(CM p row true N w).map Yf=some (Ya (w.withFollow row true))):W.LeftO p q loose Xt Yf Ya N g0:=by
 refine W.LeftO.of_split row λw=>?_
 obtain⟨sA,a1,a2⟩:=gy.mp (h1 w);obtain⟨sB,b1,b2⟩:=gy.mp (h2 w);obtain⟨sC,c1,c2⟩:=gy.mp (h3 w);obtain⟨sD,d1,d2⟩:=gy.mp (h4 w);rw[a1]at c1;rw[b1]at d1;cases c1;cases d1;obtain⟨s0,f0,tA⟩:=Option.bind_eq_some_iff.mp a1;obtain⟨s1,f1,tB⟩:=Option.bind_eq_some_iff.mp b1;rw[f0]at f1;cases f1;rw[f0,oX,tA,tB,oX,oX,a2,b2,c2,d2]
end L2.U
noncomputable section
namespace L2.U
open PySem PySem.W
def topQ(p:Program)(w:World)(m:Nat)(Sx:Option Value):Nat->SharedT->Thread->Option SharedT
 | 0,_,_=>none
 | n+1,s,t=>match through t with
  | true=>some s
  | false=>match Fast.tw6613529449190102663 m Sx t with
   | false=>none
   | true=>match Fast.tw10156331382660048174 (Fast.tw11892475500146522536 Fast.tw14364793385576792824) p w s t with
    | some (s',t')=>topQ p w m Sx n s' t'
    | none=>none
theorem topQ_of{p:Program}{w:World}{m:Nat}{Sx:Option Value}:∀{n:Nat} {s r:SharedT} {t:Thread},topQ p w m Sx n s t=some r->topRun treeTable p w m Sx n s.abs t=some r.abs
 | 0,_,_,_,h=>by cases h
 | n+1,s,r,t,h=>by
  unfold topQ at h;unfold topRun;rw[<-Fast.te6613529449190102663,<-Fast.te10156331382660048174,<-Fast.te11892475500146522536,<-Fast.te14364793385576792824]at h;cases a:through t with
  | true=>rw[a]at h;cases h;rfl
  | false =>
   rw[a]at h;cases b:stepOk m Sx t with
   | false=>rw[b]at h;cases h
   | true =>
    rw[b]at h;cases c:stepT (denote treeTable) p w s t with
    | none=>rw[c]at h;cases h
    | some y=>rw[c]at h;rw[stepT_spec c];exact topQ_of h
def Ts(l:List Obj):BT:=(l.foldl (fun(x:BT×Nat) o=>(x.1.ins x.2 o,x.2+1)) (.nil,0)).1
theorem JC(P:Params):absHeap (Ts (boot_heap P).objs.toList) (boot_heap P).objs.size (boot_heap P).life=boot_heap P:=by kernel_rfl
theorem JD(P:Params):(boot_heap P).isNs mainGlobals=true:=by kernel_rfl
def Fx(p:Program)(row:String)(b:Bool)(N:Nat)(w:World)(os:OsState):Option SharedT :=
 topQ p (w.withFollow row b) (boot_heap w.params).objs.size ((boot_heap w.params).nsMap mainGlobals "__annotations__") N ⟨Ts (boot_heap w.params).objs.toList,(boot_heap w.params).objs.size,(boot_heap w.params).life,.mk [],boot_drawn,boot_toks,os⟩ (topStub p)
def Sy(p:Program)(w:World)(s:SharedT):Bool:=staticsOk (importedModules p.main.body) (boot_heap w.params) s.abs.heap&&namesBound p s.abs.heap&&gensDone s.abs&&laidKept (boot_heap w.params) s.abs.heap
theorem n8{p:Program}{row:String}{b:Bool}{N:Nat}{w:World}{α:Type}{g:Shared->α}{a:α}(e:opening p=plainProg p.main.scope.names)(hN:Nat.ble 600 N=true)(f:∀s,fenceModules? p s=some s)
 (h:∀os,(Fx p row b N w os).map (λs=>(Sy p w s,g s.abs))=some (true,a)):(CM p row b N w).map g=some a:=by
 obtain⟨⟨hp,gs,d,k,os⟩,h1,h2⟩:=gy.mp (boot_open e hN f w);obtain⟨rfl,rfl,rfl,rfl⟩:hp=boot_heap w.params/\gs=.mk []/\d=boot_drawn/\k=boot_toks:=by simpa using h2
 obtain⟨s,h3,h4⟩:=gy.mp (h os);have h5:=topQ_of h3;unfold SharedT.abs at h5;rw[JC]at h5;unfold CM;rw[h1];show Option.map g (topFrom treeTable p (w.withFollow row b) N _)=_;unfold topFrom;dsimp only
 rw[JD,h5];have h6:=(o7 h4).1;unfold Sy SharedT.abs at h6;show Option.map g (match staticsOk (importedModules p.main.body) (boot_heap w.params) (absHeap s.tree s.n s.life)&&namesBound p (absHeap s.tree s.n s.life)&&gensDone ⟨absHeap s.tree s.n s.life,s.gens,s.drawn,s.toks,s.os⟩&&laidKept (boot_heap w.params) (absHeap s.tree s.n s.life)with | true=>_ | false=>_)=_
 rw[h6];exact fV some (o7 h4).2
theorem N3{p q:Program}{loose:List Str}{Xt:Shared->Bool}{α:Type}{Yf:Shared->α}{Ya:World->α}{N:Nat}{g0:Bool}(row:String)(e:opening p=plainProg p.main.scope.names)(hN:Nat.ble 600 N=true)(f:∀s,fenceModules? p s=some s)
 (h0:∀w os,(Fx p row false N w os).map (λs=>(Sy p w s,openSeen q loose (importedModules p.main.body) Xt g0 s.abs,Yf s.abs))=some (true,openGood q loose,Ya (w.withFollow row false)))
 (h1:∀w os,(Fx p row true N w os).map (λs=>(Sy p w s,openSeen q loose (importedModules p.main.body) Xt g0 s.abs,Yf s.abs))=some (true,openGood q loose,Ya (w.withFollow row true))):LeftO p q loose Xt Yf Ya N g0:=by
 have fs:∀{β γ δ:Type} {o:Option δ} {a:δ->β} {b:δ->γ} {x:β} {y:γ},o.map (λs=>(a s,b s))=some (x,y)->o.map a=some x/\o.map b=some y:=λ{_ _ _ o _ _ _ _} h=>by
  cases o with
  | none=>cases h
  | some s=>cases h;exact⟨rfl,rfl⟩
 exact CN row (λw=>(fs (n8 e hN f λos=>h0 w os)).1) (λw=>(fs (n8 e hN f λos=>h1 w os)).1) (λw=>(fs (n8 e hN f λos=>h0 w os)).2) λw=>(fs (n8 e hN f λos=>h1 w os)).2
end L2.U
namespace cS
open PySem L2 L2.U
def top(i:Nat):Stmt:=PySem.Challenge.pw_lendrule_k73_the_turner_ends.main.body.getD i (.Pass ⟨0,0,0,0⟩)
def inC(i j:Nat):Stmt:=match top i with | .ClassDef _ _ _ b _ _ _ _ _ _ _=>b.getD j (.Pass ⟨0,0,0,0⟩) | s=>s
abbrev N4:Stmt:=inC 19 0
def aX:Pg where
 defs:=([("kind_of",5),("row_nexts",7),("pieces",10),("operands",11),("names_in",12),("names_of",13),("names_of_spot",14),("changes",15),("against",17),("turned",18),("is_of_form",20),("is_num_owner",21),("is_plain",22),("is_held",23),("is_load",24),("is_store",25),("puts_number",26),("is_again",27),("is_known",28),("is_over",29),("is_back",30),("is_unread",31),("is_past",32),("spot_of",33),("holder_of",34),("owner_of",35),("is_between",36),("stands_by_way",37),("stands_named",38),("stands_changed",39),("stands_lent",40),("stands_read",41),("turn_again",42),("turn_known",43),("turn_first",44),("turn_back",45),("turn_past",46),("turner",53),("good_paper",54),("papers_to_try",55),("_law_cell_at",57),("_law_names",58),("_law_whole",59),("_law_big",60),("_law_spot",61),("_law_plain",62),("_law_tame",63),("_law_wild",64),("_law_form",65),("_law_begin",66),("_law_filler",67),("_law_lets",68),("_law_called",69),("_law_lead",70),("_law_case",71),("_law_alone",72),("_law_is_paper",73),("_law_none_left",74),("_law_right",75),("law",76)]:List (String×Nat)).map λd=>(d.1,top d.2)
 cons:=[("RULES",.aw [(.str "again"),(.str "known"),(.str "over"),(.str "back"),(.str "unread")])]
 cP:=["all","any","bool","enumerate","int","isinstance","len","list","range","set","sorted","str","tuple","zip"]
 tabs:=[("FORMS",[("again","is_again"),("known","is_known"),("over","is_over"),("back","is_back"),("unread","is_unread"),("past","is_past")]),("STANDS",[("changed","stands_changed"),("lent","stands_lent"),("named","stands_named"),("read","stands_read"),("way","stands_by_way")]),("TURNS",[("again","turn_again"),("known","turn_known"),("over","turn_first"),("back","turn_back"),("unread","turn_first"),("past","turn_past")])]
 cls:=[("Case",N4)]
 flds:=["rule","function","rows","i","j"]
 dO:=[("SORTS",[("put",.aw [(.str "spot"),(.str "operand")]),("set",.aw [(.str "spot"),(.str "sign"),(.str "operand"),(.str "operand")]),("fill",.aw [(.str "spot"),(.str "operand")]),("copy",.aw [(.str "spot"),(.str "spot")]),("move",.aw [(.str "spot"),(.str "spot")]),("drop",.aw [(.str "spot")]),("lend",.aw [(.str "name"),(.str "spot")]),("sole",.aw [(.str "name"),(.str "spot")]),("call",.aw [(.str "name"),(.str "function"),(.str "args")]),("if",.aw [(.str "operand"),(.str "operand"),(.str "row")]),("go",.aw [(.str "row")]),("say",.aw [(.str "operand")]),("give",.aw [(.str "name")])]),("REASONS",[("again",.aw [(.str "changed"),(.str "lent"),(.str "named"),(.str "way")]),("known",.aw [(.str "changed"),(.str "lent"),(.str "named"),(.str "way")]),("over",.aw [(.str "named"),(.str "way")]),("back",.aw [(.str "changed"),(.str "lent"),(.str "named"),(.str "way")]),("unread",.aw [(.str "read")]),("past",.aw [(.str "changed"),(.str "lent"),(.str "named"),(.str "way")])])]
 mN:=[]
 Tj:=[("names_in",[("told",1)]),("against",[("told",1)]),("turned",[("rows",1)]),("turner",[("papers",1)]),("papers_to_try",[("told",1)]),("_law_names",[("_law_names_here",1),("[return]",1)]),("_law_wild",[("_law_some",1)]),("_law_begin",[("_law_rows",1),("[return]",1)]),("_law_case",[("_law_names_here",1),("_law_rows",1)]),("_law_alone",[("_law_rows",1)])]
section
end
end cS
noncomputable section
namespace cS
open PySem L2 L2.U
theorem NZ:aX.defs.all (λd=>Jy d.2)=true:=by kernel_rfl
theorem Tq:A9 aX:=by
 intro kV doc pm an cC ct u;kernel_rfl
theorem Fv:aX.cls.all (λd=>Jy d.2)=true:=by kernel_rfl
theorem Fw:Jz aX:=by
 intro kV doc pm an cC ct u;kernel_rfl
abbrev pp:Program:=W.OpenLaw.prog PySem.Challenge.rw_lendrule_k73_the_turner_ends
def qv:Program:=W.view pp [76]
def lo:List Str:=pp.boundNames.filter (· != "law")
def Xt(s:Shared):Bool:=W.xlAt qv [] s&&W.recOk (W.RowW.records (W.OpenRow.toRowW (W.OpenLaw.row PySem.Challenge.rw_lendrule_k73_the_turner_ends))) s
abbrev hk:W.Hook:=JB aX NZ Tq Fv Fw
theorem kq1(w:World)(os:OsState):(Fx pp "special-get-raises" false 5000 w os).map (λs=>(Sy pp w s,W.openSeen qv lo (importedModules pp.main.body) Xt true s.abs,W.Hook.obs hk s.abs))=some (true,W.openGood qv lo,W.Hook.val hk (w.withFollow "special-get-raises" false)):=by kernel_rfl
theorem kq2(w:World)(os:OsState):(Fx pp "special-get-raises" true 5000 w os).map (λs=>(Sy pp w s,W.openSeen qv lo (importedModules pp.main.body) Xt true s.abs,W.Hook.obs hk s.abs))=some (true,W.openGood qv lo,W.Hook.val hk (w.withFollow "special-get-raises" true)):=by kernel_rfl
theorem ws:W.OpenLaw.wellSaid PySem.Challenge.rw_lendrule_k73_the_turner_ends=true:=by kernel_rfl
end cS
open PySem PySem.W PyProof.Rows PySem.Calls
set_option maxRecDepth 100000 in
set_option maxHeartbeats 0 in
theorem cS.gh(hc:∀d:DefRec,d.name="law"->d.params.defaults=[]->W.WalkO cS.qv cS.lo (XL cS.qv []) (Hook.says cS.hk) (W.OpenRow.toRowW (W.OpenLaw.row PySem.Challenge.rw_lendrule_k73_the_turner_ends)) d [] (λf vs=>PySem.call f vs)):PySem.Challenge.rw_lendrule_k73_the_turner_ends.Holds:=by
 w_on;refine W.holds_law cS.ws λacG=>?_
 refine W.holds_open (q:=cS.qv) (loose:=cS.lo) (Xt:=cS.Xt) (XP:=XL cS.qv []) (Yf:=Hook.obs cS.hk) (Ya:=Hook.val cS.hk) (YP:=Hook.says cS.hk) (N:=5000) (L2.U.N3 "special-get-raises" (by kernel_rfl) (by decide) (λ_=>rfl) cS.kq1 cS.kq2) (Hook.of _) (Hook.keeps _) (λs e=>xl_of s (gA.mp e).1) XL.keeps (by rfl) (by rfl) (by rfl) (λs e=>recFacts_of (gA.mp e).2) (by rfl) (by first | assumption | decide +kernel) (by decide +kernel) ⟨rfl,rfl,rfl,rfl,rfl,by decide +kernel⟩ ?hw (hc _ rfl rfl)
 case hw=>w_witness2
end
namespace L2
open PySem PySem.Spec PyProof.Rows
def rQ:da->Value->Bool
 | .inl k,v=>Value.isInt k v
 | .inr x,v=>Value.isStrOf x v
def Yb(w:World):da->Int
 | .inl k=>hashInt k
 | .inr x=>hashStr w x
theorem cQ:∀{k:da} {v:Value},rQ k v=true->(∃i t,k=Sum.inl i/\v=Value.int i t)\/(∃x t,k=Sum.inr x/\v=Value.str x t)
 | .inl i,v,h=>by
  obtain⟨t,e⟩:=Value.isInt_shape h;exact .inl ⟨i,t,rfl,e⟩
 | .inr x,v,h=>by
  obtain⟨t,e⟩:=Value.isStrOf_shape h;exact .inr ⟨x,t,rfl,e⟩
def CO(i:Int)(t:Tok):rQ (.inl i) (.int i t)=true:=by simp[rQ,Value.isInt]
def CP(x:Str)(t:Tok):rQ (.inr x) (.str x t)=true:=by simp[rQ,Value.isStrOf]
def N5(a b:Int):decide ((Sum.inl a:da)=Sum.inl b)=(a==b):=by
 grind
def N6(a b:Str):decide ((Sum.inr a:da)=Sum.inr b)=decide (a=b):=by
 grind
def N7(a:Int)(b:Str):decide ((Sum.inl a:da)=Sum.inr b)=false:=by grind
def N8(a:Str)(b:Int):decide ((Sum.inr a:da)=Sum.inl b)=false:=by grind
def bE(prog:Program)(w:World):PySem.KeyKind prog w da where
 is:=rQ
 hash:=Yb w
 inj:=λv a b ha hb=>by
  rcases cQ ha with⟨i,t,rfl,rfl⟩ | ⟨x,t,rfl,rfl⟩
  ·rcases cQ hb with⟨j,u,rfl,e⟩ | ⟨y,u,rfl,e⟩
   ·injection e with e1 _;rw[e1]
   ·exact nomatch e
  ·rcases cQ hb with⟨j,u,rfl,e⟩ | ⟨y,u,rfl,e⟩
   ·exact nomatch e
   ·injection e with e1 _;rw[e1]
 byValue:=λk v h=>by
  rcases cQ h with⟨i,t,rfl,rfl⟩ | ⟨x,t,rfl,rfl⟩<;>rfl
 pyHash:=λhv h=>by
  rcases cQ hv with⟨i,t,rfl,rfl⟩ | ⟨x,t,rfl,rfl⟩
  ·exact wpAny_pyHash_int h
  ·exact wpAny_pyHash_str h
 eqBool:=λhu hv h=>by
  rcases cQ hu with⟨i,t,rfl,rfl⟩ | ⟨x,t,rfl,rfl⟩
  ·rcases cQ hv with⟨j,u,rfl,rfl⟩ | ⟨y,u,rfl,rfl⟩
   ·rw[N5]at h;exact wpAny_eqBool_int h
   ·rw[N7]at h;exact SeqAt.EqAt.int_str i t y u _ _ _ _ h
  ·rcases cQ hv with⟨j,u,rfl,rfl⟩ | ⟨y,u,rfl,rfl⟩
   ·rw[N8]at h;exact SeqAt.EqAt.str_int x t j u _ _ _ _ h
   ·rw[N6]at h;exact wpAny_eqBool_str h
 «strs» := λk x t v h=>by
  rcases cQ h with⟨i,u,rfl,e⟩ | ⟨y,u,rfl,e⟩
  ·exact nomatch e
  ·injection e with e1 _
   subst e1;cases v<;>rfl
def vX(prog:Program)(w:World)(i:Int)(t:Tok):(bE prog w).is (.inl i) (.int i t)=true:=CO i t
def vY(prog:Program)(w:World)(x:Str)(t:Tok):(bE prog w).is (.inr x) (.str x t)=true:=CP x t
def Vals.length(r:Vals xs us):xs.length=us.length:=mI r
theorem Vals.get:∀{xs:List V} {us:List Value} {i:Nat} {x:V},Vals xs us->xs[i]?=some x->∃u,us[i]?=some u/\RelV x u
 | _,_,_,_,.nil,e=>by simp at e
 | _,_,0,_,.cons r _,e=>by grind
 | _,_,i+1,x,.cons _ t,e=>by
  obtain⟨u,h1,h2⟩:=Vals.get t (by simpa using e)
  exact⟨u,by grind,h2⟩
theorem Vals.set(r:RelV x u):∀{xs:List V} {us:List Value} (i:Nat),Vals xs us->Vals (xs.set i x) (us.set i u)
 | _,_,_,.nil=>.nil
 | _,_,0,.cons _ t=>.cons r t
 | _,_,i+1,.cons q t=>.cons q (Vals.set r i t)
theorem Vals.append:∀{xs ys:List V} {us ws:List Value},Vals xs us->Vals ys ws->Vals (xs++ys) (us++ws)
 | _,_,_,_,.nil,s=>s
 | _,_,_,_,.cons r t,s=>.cons r (Vals.append t s)
theorem Vals.take:∀{xs:List V} {us:List Value} (n:Nat),Vals xs us->Vals (xs.take n) (us.take n)
 | _,_,0,_=>.nil
 | _,_,_+1,.nil=>.nil
 | _,_,n+1,.cons r t=>.cons r (Vals.take n t)
theorem Vals.drop:∀{xs:List V} {us:List Value} (n:Nat),Vals xs us->Vals (xs.drop n) (us.drop n)
 | _,_,0,r=>r
 | _,_,_+1,.nil=>.nil
 | _,_,n+1,.cons _ t=>Vals.drop n t
def pf:Option V->Option Value->Prop
 | some v,some u=>RelV v u
 | none,none=>True
 | _,_=>False
def KV{κ:Type}:List (κ×V)->List (κ×Value)->Prop:=Paired fun(p:κ×V) (q:κ×Value)=>p.1=q.1/\RelV p.2 q.2
def bM(H:Hp)(a:Addr)(o:HO):Hp:=λb=>if b=a then some o else H b
def aq:bM H a o a=some o:=by unfold bM;rw[if_pos rfl]
def aH(h:b≠a):bM H a o b=H b:=by unfold bM;rw[if_neg h]
def bG{H:Hp}{a b:Addr}{o:HO}(h:H a=some o)(h':H b=none):a≠b:=by
 grind
section
variable (P:Program) (w:World)
def eR(H:Hp)(h:Heap)(a:Addr):HO->Prop
 | .lst xs=>xs.length<=sizeLine/\∃(aA:List Value) (n:Nat),Vals xs aA/\h.get? a=some {cls:=.type "list",data:=.seq aA.toArray n}
 | .aw xs=>xs.length<=sizeLine/\∃aA:List Value,Vals xs aA/\IsTup h a aA.toArray
 | .dK kvs=>kvs.length<=sizeLine/\(a==sysModules)=false/\∃vs,KV kvs vs/\h.DictOf (bE P w) a vs
 | .dT xs=>xs.length<=sizeLine/\(a==sysModules)=false/\∃o es ep,h.get? a=some o/\o.ExactDict/\o.data=.dict es ep/\es.toList=xs.map (entryOfKey (tupleKind (bE P w)))/\(xs.map (·.1)).Nodup
 | .set S n=>h.SetOf (intKind P w) a S n
 | .ins C dx fs=>H dx=some (.own a)/\fs.length<=1000/\dx≠a/\h.get? a=some (W.instObj C dx) /\
   ∃mA,h.Ns1 dx mA/\(∀f,pf (fs.lookup f) (mA f))/\PySem.Within mA (fs.map (·.1))
 | .own _=>∃o,h.get? a=some o
 | .xd fs=>∃mA,h.Ns1 a mA/\∀f,pf (fs.lookup f) (mA f)
 | .W6 lo hi=>∃t u v,h.get? a=some {cls:=.type "range",data:=.fields #[.int lo t,.int hi u,.int 1 v]}
 | .nk o u=>h.get? a=some o/\eR H h a u
 | .zb q=>∃ps:Array Value,h.get? a=some {cls:=.none,data:=.fields ps}/\TriplesOk ps.toList/\∀(pos:Pos) (cv:Value),codeAmong pos ps.toList=some cv ->
   ∃(c:Addr) (oc:Obj) (u:HO) (vs:Array Value) (t:Tok),cv=.ref c/\H c=some (.nk oc u)/\oc.data=.fields vs/\vs[1]?=some (.str q t)
 | .W5 f x=>h.get? a=some (W.methodObj (.ref f) (.ref x))
 | .ext φ=>φ h/\(∃o,h.get? a=some o)/\∀h1 h2:Heap,φ h1->(∀o,h1.get? a=some o->h2.get? a=some o)->φ h2
def kA(H:Hp)(h:Heap):Prop:=∀a o,H a=some o->eR P w H h a o
end
section
variable {P:Program} {w:World} {H H':Hp} {h h':Heap} {a:Addr} {o:HO}
def eR.lt(x:eR P w H h a o):a<h.objs.size:=by
 cases o with
 | lst xs=>obtain⟨_,_,_,_,e⟩:=x;exact aC e
 | aw xs=>obtain⟨_,_,_,p⟩:=x;exact p.lt
 | dK kvs=>obtain⟨_,_,_,_,o,_,_,e,_⟩:=x;exact aC e
 | dT kvs=>obtain⟨_,_,o,_,_,e,_⟩:=x;exact aC e
 | set S n=>obtain⟨o,_,_,_,e,_⟩:=x;exact aC e
 | ins C dx fs=>obtain⟨_,_,_,e,_⟩:=x;exact aC e
 | own y=>obtain⟨_,e⟩:=x;exact aC e
 | xd fs=>obtain⟨_,⟨_,_,_,e,_⟩,_⟩:=x;exact aC e
 | W6 lo hi=>obtain⟨_,_,_,e⟩:=x;exact aC e
 | nk ob u=>obtain⟨e,_⟩:=x;exact aC e
 | zb q=>obtain⟨_,e,_⟩:=x;exact aC e
 | W5 f y=>exact aC (x)
 | ext φ=>obtain⟨_,⟨_,e⟩,_⟩:=x;exact aC e
def eR.uB(x:eR P w H h a o)(k:∀b u,(b=a\/H b=some (.own a))->h.get? b=some u->h'.get? b=some u)
  (ho:∀b,H b=some (.own a)->H' b=some (.own a)) (ht:∀b xs,H b=some (.aw xs)->H' b=some (.aw xs)) (hz:∀b ob u,H b=some (.nk ob u)->H' b=some (.nk ob u)):eR P w H' h' a o:=by
 induction o with
 | lst xs=>obtain⟨z,aA,n,r,e⟩:=x;exact⟨z,aA,n,r,k _ _ (.inl rfl) e⟩
 | aw xs=>obtain⟨z,aA,r,ob,e,c⟩:=x;exact⟨z,aA,r,ob,k _ _ (.inl rfl) e,c⟩
 | dK kvs=>obtain⟨z,y,vs,r,ob,es,ep,e,c⟩:=x;exact⟨z,y,vs,r,ob,es,ep,k _ _ (.inl rfl) e,c⟩
 | dT kvs=>obtain⟨z,y,ob,es,ep,e,c⟩:=x;exact⟨z,y,ob,es,ep,k _ _ (.inl rfl) e,c⟩
 | set S n=>obtain⟨ob,es,ep,t,e,c⟩:=x;exact⟨ob,es,ep,t,k _ _ (.inl rfl) e,c⟩
 | ins C dx fs =>
  obtain⟨d,z,ne,e,mA,⟨od,es,ep,e2,c⟩,r⟩:=x;exact⟨ho _ d,z,ne,k _ _ (.inl rfl) e,mA,⟨od,es,ep,k _ _ (.inr d) e2,c⟩,r⟩
 | own y=>obtain⟨ob,e⟩:=x;exact⟨ob,k _ _ (.inl rfl) e⟩
 | xd fs=>obtain⟨mA,⟨od,es,ep,e,c⟩,r⟩:=x;exact⟨mA,⟨od,es,ep,k _ _ (.inl rfl) e,c⟩,r⟩
 | W6 lo hi=>obtain⟨t,u,v,e⟩:=x;exact⟨t,u,v,k _ _ (.inl rfl) e⟩
 | nk ob u ih=>obtain⟨e,q⟩:=x;exact⟨k _ _ (.inl rfl) e,ih q⟩
 | zb q =>
  obtain⟨ps,e,t,c⟩:=x;exact⟨ps,k _ _ (.inl rfl) e,t,λpos cv z=>let ⟨c,oc,u,vs,tk,h1,h2,h3⟩:=c pos cv z;⟨c,oc,u,vs,tk,h1,hz _ _ _ h2,h3⟩⟩
 | W5 f y =>
  have e:=x;exact k a _ (.inl rfl) e
 | ext φ=>obtain⟨p,⟨o,e⟩,st⟩:=x;exact⟨st _ _ p λo q=>k _ _ (.inl rfl) q,⟨o,k _ _ (.inl rfl) e⟩,st⟩
def kA.lt(x:kA P w H h)(e:H a=some o):a<h.objs.size:=(x a o e).lt
def kA.fresh(x:kA P w H h)(e:h.objs.size<=a):H a=none:=by
 cases q:H a with
 | none=>rfl
 | some u=>exact absurd (bR (x.lt q) e) (dX _)
def kA.kept(x:kA P w H h)(k:∀b u,h.get? b=some u->h'.get? b=some u):kA P w H h':=λa o e =>
 (x a o e).uB (λb u _ q=>k b u q) (λ_ q=>q) (λ_ _ q=>q) λ_ _ _ q=>q
def kA.laid(x:kA P w H h)(k:∀b u,h.get? b=some u->h'.get? b=some u)(hp:h.objs.size<=a)(new:eR P w (bM H a o) h' a o):kA P w (bM H a o) h':=λb u e=>by
 have hn:=x.fresh hp;by_cases hb:b=a
 ·subst hb;rw[aq]at e;cases e;exact new
 ·rw[aH hb]at e;exact(x b u e).uB (λc v _ q=>k c v q) (λc q=>by rw[aH (bG q hn)];exact q) (λc xs q=>by rw[aH (bG q hn)];exact q) λc ob v q=>by rw[aH (bG q hn)];exact q
end
def Rd.ok(r:Rd H a u)(x:kA P w H h):eR P w H h a u:=by
 rcases r with r | ⟨o,r⟩
 ·exact x a u r
 ·obtain⟨_,q⟩:=x a _ r;exact q
def W7:Option HO->Prop
 | some (.lst _)=>True
 | some (.dK _)=>True
 | some (.dT _)=>True
 | some (.set _ _)=>True
 | some (.ins _ _ _)=>True
 | some (.ext _)=>True
 | _=>False
section
variable {P:Program} {w:World} {H:Hp} {h h':Heap} {x e:Addr} {o':HO}
def kA.write(ok:kA P w H h)(mu:W7 (H x))(he:e=x\/H e=some (.own x))(k:∀b u,b≠e->h.get? b=some u->h'.get? b=some u)(Sz:∃u,h'.get? e=some u)
  (new:eR P w (bM H x o') h' x o'):kA P w (bM H x o') h':=λb u q=>by
 have Tt:∀c y,H c=some (.own y)->c≠x:=λc y r z=>by subst z;rw[r]at mu;exact mu
 have Yc:∀c xs,H c=some (.aw xs)->c≠x:=λc xs r z=>by subst z;rw[r]at mu;exact mu
 have Yd:∀c ob v,H c=some (.nk ob v)->c≠x:=λc ob v r z=>by subst z;rw[r]at mu;exact mu
 by_cases hb:b=x
 ·subst hb;rw[aq]at q;cases q;exact new
 ·rw[aH hb]at q;by_cases N9:b=e
  ·have q':H b=some (.own x):=by
    rcases he with z | z
    ·exact absurd (N9.trans z) hb
    ·rw[N9];exact z
   rw[q]at q';cases q';obtain⟨v,hv⟩:=Sz;exact⟨v,by rw[N9];exact hv⟩
  ·refine(ok b u q).uB (λc v hc r=>k c v ?_ r) (λc r=>by rw[aH (Tt c b r)];exact r) (λc xs r=>by rw[aH (Yc c xs r)];exact r) λc ob v r=>by rw[aH (Yd c ob v r)];exact r
   rcases hc with rfl | hc
   ·exact N9
   ·rintro rfl
    rcases he with z | z
    ·exact Tt c b hc z
    ·rw[hc]at z;cases z;exact hb rfl
end
structure Un (fs ex:List Addr) (H H':Hp) (h h':Heap):Prop where
 keep:∀b o,h.get? b=some o->H b=none->b∉fs->b∉ex->h'.get? b=some o
 slot:∀b o,h.get? b=some o->H b=none->b∈fs->b∉ex->∃sl,h'.get? b=some {o with slots:=sl}
 free:∀b o,h.get? b=some o->H b=none->b∉ex->H' b=none
 there:∀b o,h.get? b=some o->b∉ex->∃o',h'.get? b=some o'
 tups:∀b xs,H b=some (.aw xs)->H' b=some (.aw xs)
 frzs:∀b o u,H b=some (.nk o u)->H' b=some (.nk o u)
 tbls:∀b q,H b=some (.zb q)->H' b=some (.zb q)
section
variable {fs fs' ex ex':List Addr} {H H1 H2:Hp} {h h1 h2 h':Heap} {a x e:Addr} {o:HO}
def Un.any(u:Un fs ex H H1 h h1)(q:h.get? b=some ob)(n:H b=none)(hx:b∉ex):∃sl,h1.get? b=some {ob with slots:=sl}:=by
 by_cases hb:b∈fs
 ·exact u.slot b ob q n hb hx
 ·exact⟨ob.slots,u.keep b ob q n hb hx⟩
def Un.trans(a:Un fs ex H H1 h h1)(b:Un fs ex H1 H2 h1 h2):Un fs ex H H2 h h2 where
 keep:=λc ob q n hc hx=>b.keep c ob (a.keep c ob q n hc hx) (a.free c ob q n hx) hc hx
 slot:=λc ob q n hc hx=>by
  obtain⟨sl,e1⟩:=a.slot c ob q n hc hx;obtain⟨Tu,e2⟩:=b.slot c _ e1 (a.free c ob q n hx) hc hx;exact⟨Tu,e2⟩
 free:=λc ob q n hx=>by
  obtain⟨o',e1⟩:=a.there c ob q hx;exact b.free c o' e1 (a.free c ob q n hx) hx
 there:=λc ob q hx=>by
  obtain⟨o',e1⟩:=a.there c ob q hx;exact b.there c o' e1 hx
 tups:=λc xs q=>b.tups c xs (a.tups c xs q)
 frzs:=λc ob xs q=>b.frzs c ob xs (a.frzs c ob xs q)
 tbls:=λc q e=>b.tbls c q (a.tbls c q e)
def Un.kept(k:∀b u,h.get? b=some u->h'.get? b=some u):Un fs ex H H h h' :=
 ⟨λb ob q _ _ _=>k b ob q,λb ob q _ _ _=>⟨ob.slots,k b ob q⟩,λ_ _ _ n _=>n,λb ob q _=>⟨ob,k b ob q⟩,λ_ _ q=>q,λ_ _ _ q=>q,λ_ _ q=>q⟩
def Un.refl:Un fs ex H H h h:=Un.kept λ_ _ q=>q
def Un.laid(k:∀b u,h.get? b=some u->h'.get? b=some u)(hp:h.objs.size<=a)(hn:H a=none):Un fs ex H (bM H a o) h h' where
 keep:=λb u q _ _ _=>k b u q
 slot:=λb u q _ _ _=>⟨u.slots,k b u q⟩
 free:=λb u q n _=>by rw[aH (aR (bR (aC q) hp))];exact n
 there:=λb u q _=>⟨u,k b u q⟩
 tups:=λb xs q=>by rw[aH (bG q hn)];exact q
 frzs:=λb u xs q=>by rw[aH (bG q hn)];exact q
 tbls:=λb ps q=>by rw[aH (bG q hn)];exact q
def Un.write(mu:W7 (H x))(he:e=x\/H e=some (.own x))(k:∀b u,b≠e->h.get? b=some u->h'.get? b=some u)(Sz:∃u,h'.get? e=some u):Un fs ex H (bM H x o) h h':=by
 have hx:∀b,H b=none->b≠x:=λb n z=>by subst z;rw[n]at mu;exact mu
 have hb:∀b,H b=none->b≠e:=λb n z=>by
  subst z;rcases he with r | r
  ·exact hx b n r
  ·rw[n]at r;cases r
 have hm:∀b u,H b=some u->¬W7 (some u)->b≠x:=λb u q nm z=>by subst z;rw[q]at mu;exact nm mu
 refine⟨λb u q n _ _=>k b u (hb b n) q,λb u q n _ _=>⟨u.slots,k b u (hb b n) q⟩,λb u q n _=>by rw[aH (hx b n)];exact n,λb u q _=>?_,
  λb xs q=>by rw[aH (hm b _ q λz=>z)];exact q,λb u xs q=>by rw[aH (hm b _ q λz=>z)];exact q,λb ps q=>by rw[aH (hm b _ q λz=>z)];exact q⟩
 by_cases N9:b=e
 ·subst N9;exact Sz
 ·exact⟨u,k b u N9 q⟩
end
def W8(h:Heap)(H:Hp):List Addr:=(List.range h.objs.size).filter λa=>(H a).isSome
def vZ(h:Heap)(H:Hp):Heap:=W.hideAll h (W8 h H)
def CQ(h:Heap)(H:Hp):(vZ h H).objs.size=h.objs.size:=W.hideAll_size _ _
def hidT_get(e:h.get? b=some o)(n:H b=none):(vZ h H).get? b=some o :=
 W.hideAll_get _ e λhm=>by
  have q:=(uh.mp hm).2;rw[n]at q;simp at q
def of_hidT(e:(vZ h H).get? b=some o):h.get? b=some o/\H b=none:=by
 have e':=W.of_hideAll (W8 h H) e;refine⟨e',?_⟩;cases q:H b with
 | none=>rfl
 | some x =>
  have hm:b∈W8 h H:=uh.mpr ⟨dR.mpr (aC e'),by simp[q]⟩
  have z:(vZ h H).get? b=none:=W.hideAll_none (W8 h H) hm;rw[z]at e;cases e
structure Mod (K:W.Frag) (mg:Str->Option Value) (base:Heap):Prop where
 kin:K.In base
 glob:base.Ns mainGlobals mg
 blt:∃mb,base.Ns builtinsNs mb/\∀x:Str,x≠"__name__"->mb x=bootBuiltins x
 nolimit:base.NoLimit
structure Cx where
 prog:Program
 w:World
 K:W.Frag
 mg:Str->Option Value
 base:Heap
 A:Around
 N:List Str
 s₀:Shared
 aa:Hp
 env:Env
 ay:List Env
 stack:List Env
 ex:List Addr
 fn:Str->Bool
 calm:Bool
 pn:List (Addr×Obj)
 xe:Value->Shared->Prop
def mP(l:List Env):List Addr:=l.filterMap (·.frame)
abbrev Cx.fs(X:Cx):List Addr:=mP X.ay
def Tv(sc:Scope)(x:Str):Prop:=sc.names.lookup x=some .local\/sc.names.lookup x=some .cell\/sc.names.lookup x=some .free
def MQ(sc:Scope)(x:Str):Prop:=sc.names.lookup x=some .local\/sc.names.lookup x=some .cell
def Ye(env:Env)(h:Heap)(m:Str->Option Value)(x:Str)(u:Value):Prop :=
 (env.kindOf x=some .local/\m x=some u)\/((env.kindOf x=some .cell\/env.kindOf x=some .free)/\∃c,env.cells.lookup x=some c/\h.IsCell c (some u))
def v3(x:Str):Str:=x++".<locals>."++"<lambda>"
def ph(K:W.Frag)(H:Hp):Prop:=∀x∈cX,∀c T,W.tabIn K x=some (c,T)->H T=some (.zb (v3 x))
structure Cx.Ok (X:Cx):Prop where
 mod:Mod X.K X.mg X.base
 kind:X.env.scope.kind=.function
 glob:X.env.globals=mainGlobals
 blt:X.env.builtins=builtinsNs
 above:X.s₀.heap.objs.size<=X.env.locals
 inj:∀x y c,X.env.cells.lookup x=some c->X.env.cells.lookup y=some c->x=y
 has:∀x,(X.env.kindOf x=some .cell\/X.env.kindOf x=some .free)->∃c,X.env.cells.lookup x=some c
 cab:∀x c,X.fn x=true->X.env.cells.lookup x=some c->X.s₀.heap.objs.size<=c
 hd:X.calm=true->X.A.handled=none
 frames:X.A.frames=some X.stack
 stk:X.stack=X.ay\/(X.stack=X.env::X.ay/\X.env.frame=some X.env.locals)
 exf:∀b∈X.ex,b≠X.env.locals/\∀x c,X.env.cells.lookup x=some c->c≠b
 bs:∀b o,X.base.get? b=some o->X.s₀.heap.get? b=some o/\X.aa b=none
 bsz:X.base.objs.size<=X.s₀.heap.objs.size
 noex:∀b o,X.base.get? b=some o->b∉X.ex
 exfs:∀b∈X.ex,b∉X.fs
 funs:X.s₀.heap.FunFrames X.base X.ay
 frf:∀b∈X.fs,X.aa b=none
 tabs:ph X.K X.aa
structure Inv (X:Cx) (af:List (Addr×Obj)) (σ:List (Option V)) (H:Hp) (s:Shared):Prop where
 ok:X.Ok
 os:s.os=X.s₀.os
 bare:AllBare s.gens
 base:Un X.fs X.ex X.aa H X.s₀.heap s.heap
 loc:∃m,s.heap.Ns X.env.locals m/\∀(i:Nat) (x:Str) (v:V),X.N[i]?=some x->σ[i]?=some (some v)->Tv X.env.scope x->∃u,RelV v u/\Ye X.env s.heap m x u
 cell:∀x c,X.env.cells.lookup x=some c->∃v,s.heap.IsCell c v
 free:H X.env.locals=none
 freeC:∀x c,X.env.cells.lookup x=some c->H c=none
 pin:∀p∈X.pn++af,s.heap.get? p.1=some p.2/\H p.1=none/\p.1≠X.env.locals/\p.1∉X.fs/\∀v,p.2.data≠.cell v
 hok:kA X.prog X.w H s.heap
 len:σ.length=X.N.length
section
variable {X:Cx} {af:List (Addr×Obj)} {σ:List (Option V)} {H H':Hp} {s:Shared} {h':Heap}
def Cx.Ok.Yg(ok:X.Ok)(e:X.base.get? b=some o):b∉X.fs:=λhb=>by
 have:=(ok.funs.mem hb).1;rw[e]at this;cases this
def Inv.bs(I:Inv X af σ H s):∀b o,X.base.get? b=some o->s.heap.get? b=some o/\H b=none:=λb o e =>
 ⟨I.base.keep b o (I.ok.bs b o e).1 (I.ok.bs b o e).2 (I.ok.Yg e) (I.ok.noex b o e),I.base.free b o (I.ok.bs b o e).1 (I.ok.bs b o e).2 (I.ok.noex b o e)⟩
def Inv.bk(I:Inv X af σ H s):∀b o,X.base.get? b=some o->s.heap.get? b=some o:=λb o e=>(I.bs b o e).1
def Inv.mod(I:Inv X af σ H s):Mod X.K X.mg X.base:=I.ok.mod
def Inv.n9(I:Inv X af σ H s):X.K.In s.heap:=I.ok.mod.kin.keeps I.bk
def Inv.lt(I:Inv X af σ H s):X.env.locals<s.heap.objs.size:=let ⟨_,hn,_⟩:=I.loc;hn.lt
def Inv.sz(I:Inv X af σ H s):X.s₀.heap.objs.size<=s.heap.objs.size:=bh I.ok.above (iq I.lt)
def Inv.Yh(I:Inv X af σ H s){a:Addr}(h:s.heap.objs.size<=a):a∉X.fs:=λhb=>by
 obtain⟨_,o,ho,_⟩:=I.ok.funs.mem hb;exact absurd (bR (aC ho) (bh I.sz h)) (dX _)
def Inv.Oa(I:Inv X af σ H s):∀x c,X.env.cells.lookup x=some c->c≠X.env.locals:=λx c e z=>by
 obtain⟨v,o,ho,hd⟩:=I.cell x c e;obtain⟨m,⟨o',es,ep,kX,Jg,_⟩,_⟩:=I.loc;rw[z,kX]at ho;cases ho;rw[Jg]at hd;cases hd
def Inv.funs(I:Inv X af σ H s):s.heap.FunFrames X.base X.ay:=by
 have all:∀l,(∀b∈mP l,b∈X.fs)->X.s₀.heap.FunFrames X.base l->s.heap.FunFrames X.base l:=by
  intro l;induction l with
  | nil=>intro _ _;trivial
  | cons env r ih =>
   intro hs hl;obtain⟨hk,⟨L,o,hf,hn,ho,hd⟩,hr⟩:=hl;have hL:=hs L (by unfold mP;rw[yM,hf];exact bQ)
   obtain⟨sl,e⟩:=I.base.slot L o ho (I.ok.frf L hL) hL λz=>I.ok.exfs L z hL
   exact⟨hk,⟨L,_,hf,hn,e,hd⟩,ih (λb hb=>hs b (by unfold mP;rw[yM,hf];exact bF _ hb)) hr⟩
 exact all X.ay (λ_ hb=>hb) I.ok.funs
def Inv.stack(I:Inv X af σ H s):s.heap.FunFrames X.base X.stack:=by
 rcases I.ok.stk with e | ⟨e,hf⟩
 ·rw[e];exact I.funs
 ·rw[e];obtain⟨m,hn,_⟩:=I.loc;refine .cons (by rw[I.ok.kind];decide) hf hn ?_ I.funs
  exact Heap.get?_none_of_le (bh I.ok.bsz I.ok.above)
def Inv.uC(I:Inv X af σ H s):∀b∈mP X.stack,b∈X.env.locals::X.fs:=λb hb=>by
 rcases I.ok.stk with e | ⟨e,hf⟩
 ·rw[e]at hb;exact bF _ hb
 ·rw[e]at hb;unfold mP at hb;rw[yM,hf]at hb;exact hb
def Inv.uD(I:Inv X af σ H s):∀b∈mP X.stack,H b=none:=λb hb=>by
 rcases aF.mp (I.uC b hb)with e | hb
 ·rw[e];exact I.free
 ·obtain⟨_,o,ho,_⟩:=I.ok.funs.mem hb;exact I.base.free b o ho (I.ok.frf b hb) λz=>I.ok.exfs b z hb
def Inv.tabs(I:Inv X af σ H s):ph X.K H:=λx hx c T e=>I.base.tbls T _ (I.ok.tabs x hx c T e)
def Inv.step{g':Array GenState}{t':Nat}{d':Drawn}{ch:List Addr}(I:Inv X af σ H s)
  (MR:∀b∈ch,(b∈X.ex\/X.s₀.heap.objs.size<=b)/\b≠X.env.locals/\(∀x c,X.env.cells.lookup x=some c->c≠b)/\∀p∈X.pn++af,p.1≠b)
  (keep:∀b o,b≠X.env.locals->b∉X.fs->b∉ch->s.heap.get? b=some o->H b=none->h'.get? b=some o)
  (slot:∀b o,b≠X.env.locals->b∈X.fs->b∉ch->s.heap.get? b=some o->H b=none->∃sl,h'.get? b=some {o with slots:=sl}) (free:∀b o,b∉ch->s.heap.get? b=some o->H b=none->H' b=none)
  (there:∀b o,b∉ch->s.heap.get? b=some o->∃o',h'.get? b=some o')
  (tups:∀b xs,H b=some (.aw xs)->H' b=some (.aw xs)) (frzs:∀b o u,H b=some (.nk o u)->H' b=some (.nk o u)) (tbls:∀b q,H b=some (.zb q)->H' b=some (.zb q))
  (ns:∀m,s.heap.Ns X.env.locals m->h'.Ns X.env.locals m) (hok:kA X.prog X.w H' h') (hg:AllBare g') :
  Inv X af σ H' {s with heap:=h',gens:=g',drawn:=d',toks:=t'}:=by
 have neL:∀b o,X.s₀.heap.get? b=some o->b≠X.env.locals:=λb o e=>aR (bR (aC e) I.ok.above)
 have W9:∀b o,X.s₀.heap.get? b=some o->b∉X.ex->b∉ch:=λb o e hx hb=>by
  rcases(MR b hb).1 with z | z
  ·exact hx z
  ·exact absurd (bR (aC e) z) (dX _)
 have cellK:∀x c,X.env.cells.lookup x=some c->∀v,s.heap.IsCell c v->h'.IsCell c v:=by
  rintro x c e v ⟨o,ho,hd⟩
  have Tw:c∉ch:=by grind
  by_cases hc:c∈X.fs
  ·obtain⟨sl,q⟩:=slot c o (I.Oa x c e) hc Tw ho (I.freeC x c e);exact⟨_,q,hd⟩
  ·exact⟨o,keep c o (I.Oa x c e) hc Tw ho (I.freeC x c e),hd⟩
 refine⟨I.ok,I.os,hg,⟨λb o e n hb hx=>?_,λb o e n hb hx=>?_,λb o e n hx=>?_,λb o e hx=>?_,λb xs e=>tups b xs (I.base.tups b xs e),λb o xs e=>frzs b o xs (I.base.frzs b o xs e),λb ps e=>?_⟩,?_,λx c e=>?_,?_,λx c e=>?_,λp hp=>?_,hok,I.len⟩
 ·exact keep b o (neL b o e) hb (W9 b o e hx) (I.base.keep b o e n hb hx) (I.base.free b o e n hx)
 ·obtain⟨sl,e1⟩:=I.base.slot b o e n hb hx;obtain⟨Tu,e2⟩:=slot b _ (neL b o e) hb (W9 b o e hx) e1 (I.base.free b o e n hx);exact⟨Tu,e2⟩
 ·obtain⟨o',e1⟩:=I.base.there b o e hx;exact free b o' (W9 b o e hx) e1 (I.base.free b o e n hx)
 ·obtain⟨o',e1⟩:=I.base.there b o e hx;exact there b o' (W9 b o e hx) e1
 ·exact tbls b ps (I.base.tbls b ps e)
 ·obtain⟨m,hn,hl⟩:=I.loc;refine⟨m,ns m hn,λi x v e1 e2 e3=>?_⟩
  obtain⟨u,r,l⟩:=hl i x v e1 e2 e3;refine⟨u,r,?_⟩;rcases l with l | ⟨k,c,e,z⟩
  ·exact .inl l
  ·exact .inr ⟨k,c,e,cellK x c e _ z⟩
 ·obtain⟨v,z⟩:=I.cell x c e;exact⟨v,cellK x c e v z⟩
 ·obtain⟨m,⟨o,_,_,ho,_⟩,_⟩:=I.loc;exact free _ o (λz=>(MR _ z).2.1 rfl) ho I.free
 ·obtain⟨v,o,ho,hd⟩:=I.cell x c e;exact free c o (λz=>(MR c z).2.2.1 x c e rfl) ho (I.freeC x c e)
 ·obtain⟨e,n,ne,nf,d⟩:=I.pin p hp;have Tw:p.1∉ch:=by grind
  exact⟨keep p.1 p.2 ne nf Tw e n,free p.1 p.2 Tw e n,ne,nf,d⟩
def Inv.un{t':Nat}(I:Inv X af σ H s)(u:Un X.fs [] H H' s.heap h')(hok:kA X.prog X.w H' h'):Inv X af σ H' {s with heap:=h',toks:=t'}:=by
 obtain⟨m,⟨o,es,ep,ho,r⟩,_⟩:=id I.loc;obtain⟨sl,hL⟩:=u.any ho I.free (by simp)
 exact I.step (ch:=[]) (λ_ z=>nomatch z) (λb o _ hb _ e n=>u.keep b o e n hb (by simp)) (λb o _ hb _ e n=>u.slot b o e n hb (by simp)) (λb o _ e n=>u.free b o e n (by simp)) (λb o _ e=>u.there b o e (by simp)) u.tups u.frzs u.tbls (λm' hm=>by
  obtain⟨o',SA,Yi,kX,r'⟩:=hm;rw[ho]at kX;cases kX;exact⟨_,SA,Yi,hL,r'⟩) hok I.bare
def Inv.call{g':Array GenState}{t':Nat}{d':Drawn}{ch:List Addr}(I:Inv X af σ H s)(u:Un (mP X.stack) ch H H' s.heap h')(hok:kA X.prog X.w H' h')(hg:AllBare g')
  (MR:∀b∈ch,(b∈X.ex\/X.s₀.heap.objs.size<=b)/\b≠X.env.locals/\(∀x c,X.env.cells.lookup x=some c->c≠b)/\∀p∈X.pn++af,p.1≠b) :
  Inv X af σ H' {s with heap:=h',gens:=g',drawn:=d',toks:=t'}:=by
 obtain⟨m,⟨o,es,ep,ho,r⟩,_⟩:=id I.loc;obtain⟨sl,hL⟩:=u.any ho I.free λz=>(MR _ z).2.1 rfl
 exact I.step MR (λb o hL hb hc e n=>u.keep b o e n (λz=>(aF.mp (I.uC b z)).elim hL hb) hc) (λb o _ _ hc e n=>u.any e n hc) (λb o hc e n=>u.free b o e n hc) (λb o hc e=>u.there b o e hc) u.tups u.frzs u.tbls (λm' hm=>by
  obtain⟨o',SA,Yi,kX,r'⟩:=hm;rw[ho]at kX;cases kX;exact⟨_,SA,Yi,hL,r'⟩) hok hg
def Inv.turned{t':Nat}(I:Inv X af σ H s)(k:∀b o,b≠it->s.heap.get? b=some o->h'.get? b=some o)(hn:H it=none)(hL:it≠X.env.locals)
  (h1:it∈X.ex\/X.s₀.heap.objs.size<=it) (h2:∀x c,X.env.cells.lookup x=some c->c≠it) (h3:∀p∈X.pn++af,p.1≠it):Inv X af σ H {s with heap:=h',toks:=t'}:=by
 have Tz:∀b u,H b=some u->b≠it:=λb u e z=>by rw[z,hn]at e;cases e
 refine I.step (ch:=[it]) (λb hb=>?_) (λb o _ _ hc e _=>k b o (λz=>hc (by simp[z])) e) (λb o _ _ hc e _=>⟨o.slots,k b o (λz=>hc (by simp[z])) e⟩) (λ_ _ _ _ n=>n)
  (λb o hc e=>⟨o,k b o (λz=>hc (by simp[z])) e⟩) (λ_ _ e=>e) (λ_ _ _ e=>e) (λ_ _ e=>e) (λm hm=>?_) (λb u e=>?_) I.bare
 ·have e:b=it:=by simpa using hb
  subst e;exact⟨h1,hL,h2,h3⟩
 ·obtain⟨o,es,ep,ho,r⟩:=hm;exact⟨o,es,ep,k _ o (cx hL) ho,r⟩
 ·refine(I.hok b u e).uB (λc v hc q=>k c v ?_ q) (λ_ q=>q) (λ_ _ q=>q) λ_ _ _ q=>q
  rcases hc with z | z
  ·rw[z];exact Tz b u e
  ·exact Tz c _ z
def Inv.tok(I:Inv X af σ H s)(t:Nat):Inv X af σ H {s with toks:=t}:=I.un Un.refl I.hok
def Inv.kept(I:Inv X af σ H s)(k:∀b u,s.heap.get? b=some u->h'.get? b=some u):Inv X af σ H {s with heap:=h',toks:=t'}:=I.un (Un.kept k) (I.hok.kept k)
def Inv.laid{a:Addr}{o:HO}{t':Nat}(I:Inv X af σ H s)(k:∀b u,s.heap.get? b=some u->h'.get? b=some u)(hp:s.heap.objs.size<=a)(new:eR X.prog X.w (bM H a o) h' a o) :
  Inv X af σ (bM H a o) {s with heap:=h',toks:=t'}:=I.un (Un.laid k hp (I.hok.fresh hp)) (I.hok.laid k hp new)
def Inv.write(I:Inv X af σ H s)(mu:W7 (H x))(he:e=x\/H e=some (.own x))(k:∀b u,b≠e->s.heap.get? b=some u->h'.get? b=some u)(Sz:∃u,h'.get? e=some u)
  (new:eR X.prog X.w (bM H x o) h' x o):Inv X af σ (bM H x o) {s with heap:=h',toks:=t'}:=I.un (Un.write mu he k Sz) (I.hok.write mu he k Sz new)
def Inv.k6(I:Inv X af σ H s)(h:∀p∈TC,s.heap.get? p.1=some p.2/\H p.1=none/\p.1≠X.env.locals/\p.1∉X.fs/\∀v,p.2.data≠.cell v):Inv X TC σ H s :=
 ⟨I.ok,I.os,I.bare,I.base,I.loc,I.cell,I.free,I.freeC,λp hp=>(fQ.mp hp).elim (λz=>I.pin p (oF _ z)) (h p),I.hok,I.len⟩
def v5{N:List Str}(hN:N.Nodup){i j:Nat}(a:N[i]?=some x)(b:N[j]?=some x):i=j:=by
 obtain⟨h1,e1⟩:=b6.mp a;obtain⟨h2,e2⟩:=b6.mp b;exact(ud hN).mp (e1.trans e2.symm)
def store_ok2{M:Model}{A:Around}{E:Value->Shared->Prop}{i:Nat}{v:V}{u:Value}{Q:Unit->Shared->Prop}(I:Inv X af σ H s)(hN:X.N.Nodup)(hi:X.N[i]?=some x)(hx:MQ X.env.scope x)(r:RelV v u)
  (h:∀s',Inv X af (σ.set i (some v)) H s'->(∃a,Heap.SameBut a s.heap s'.heap/\(a=X.env.locals\/X.env.cells.lookup x=some a))->Q () s') (hf:X.fn x=true\/X.env.scope.names.lookup x=some .local:=by first | exact .inl rfl | exact .inr rfl | assumption):wpAny M A (storeName X.env x u) Q E s:=by
 obtain⟨m,hn,hl⟩:=id I.loc;have Yj:(X.env.scope.kind==.class || (X.env.scope.kind==.module&&X.env.locals != X.env.globals))=false:=by rw[I.ok.kind];rfl
 have TF:i<σ.length:=by rw[I.len];exact(b6.mp hi).1
 have Oa:=I.Oa;have Ba:∀{a:Addr} {h':Heap},(∃o,s.heap.get? a=some o/\H a=none)->Heap.SameBut a s.heap h'->kA X.prog X.w H h':=λ{a h'} ha hs b ob e=>by
  obtain⟨_,_,v7⟩:=ha;refine(I.hok b ob e).uB (λc w' hc q=>(hs.2 c ?_).trans q) (λ_ q=>q) (λ_ _ q=>q) λ_ _ _ q=>q
  rintro rfl
  rcases hc with rfl | hc
  ·grind
  ·grind
 rcases hx with hk | hk
 ·refine wpAny_storeName_local hk hn (λh' Yk hs=>?_) Yj
  obtain⟨oL,_,_,JE,_⟩:=id hn;refine h _ ⟨I.ok,I.os,I.bare,⟨λb o e n hb hx=>?_,λb o e n hb hx=>?_,I.base.free,λb o e hx=>?_,I.base.tups,I.base.frzs,I.base.tbls⟩,⟨_,Yk,λj y v' e1 e2 e3=>?_⟩,λy c e=>?_,I.free,I.freeC,λp hp=>?_,Ba ⟨oL,JE,I.free⟩ hs,by simpa using I.len⟩ ⟨_,hs,.inl rfl⟩
  ·exact(hs.2 b (aR (bR (aC e) I.ok.above))).trans (I.base.keep b o e n hb hx)
  ·obtain⟨sl,e1⟩:=I.base.slot b o e n hb hx;exact⟨sl,(hs.2 b (aR (bR (aC e) I.ok.above))).trans e1⟩
  ·obtain⟨o',e1⟩:=I.base.there b o e hx;exact⟨o',(hs.2 b (aR (bR (aC e) I.ok.above))).trans e1⟩
  ·by_cases hj:j=i
   ·subst hj;rw[hi]at e1;cases e1;rw[j4 TF]at e2;cases e2;exact⟨u,r,.inl ⟨hk,by simp⟩⟩
   ·rw[gB (cx hj)]at e2;obtain⟨u',r',q⟩:=hl j y v' e1 e2 e3;refine⟨u',r',?_⟩;rcases q with⟨k,e⟩ | ⟨k,c,e,z⟩
    ·refine .inl ⟨k,?_⟩;have:y≠x:=λe=>hj (v5 hN e1 (e▸hi))
     simp[this,e]
    ·exact .inr ⟨k,c,e,z.sameBut hs (Oa y c e)⟩
  ·obtain⟨w',z⟩:=I.cell y c e;exact⟨w',z.sameBut hs (Oa y c e)⟩
  ·obtain⟨e,n,ne,nf,d⟩:=I.pin p hp;exact⟨(hs.2 p.1 ne).trans e,n,ne,nf,d⟩
 ·have Ob:X.fn x=true:=by
   grind
  obtain⟨c,hc⟩:=I.ok.has x (.inl hk);obtain⟨w',z⟩:=I.cell x c hc;refine wpAny_storeName_cell I.ok.kind hk hc z (λh' zl hs=>?_)
  obtain⟨oc,Xa,acI⟩:=id z;refine h {s with heap:=h'} ⟨I.ok,I.os,I.bare,⟨λb o e n hb hx=>?_,λb o e n hb hx=>?_,I.base.free,λb o e hx=>?_,I.base.tups,I.base.frzs,I.base.tbls⟩,⟨m,hn.sameBut hs (cx (Oa x c hc)),λj y v' e1 e2 e3=>?_⟩,λy c' e=>?_,I.free,I.freeC,λp hp=>?_,Ba ⟨oc,Xa,I.freeC x c hc⟩ hs,by simpa using I.len⟩ ⟨c,hs,.inr hc⟩
  ·exact(hs.2 b (aR (bR (aC e) (I.ok.cab x c Ob hc)))).trans (I.base.keep b o e n hb hx)
  ·obtain⟨sl,e1⟩:=I.base.slot b o e n hb hx;exact⟨sl,(hs.2 b (aR (bR (aC e) (I.ok.cab x c Ob hc)))).trans e1⟩
  ·obtain⟨o',e1⟩:=I.base.there b o e hx;exact⟨o',(hs.2 b (aR (bR (aC e) (I.ok.cab x c Ob hc)))).trans e1⟩
  ·by_cases hj:j=i
   ·subst hj;rw[hi]at e1;cases e1;rw[j4 TF]at e2;cases e2;exact⟨u,r,.inr ⟨.inl hk,c,hc,zl⟩⟩
   ·rw[gB (cx hj)]at e2;obtain⟨u',r',q⟩:=hl j y v' e1 e2 e3;refine⟨u',r',?_⟩;rcases q with q | ⟨k,c',e,z'⟩
    ·exact .inl q
    ·refine .inr ⟨k,c',e,z'.sameBut hs ?_⟩
     rintro rfl
     exact hj (v5 hN e1 (I.ok.inj _ _ _ e hc▸hi))
  ·by_cases MS:c'=c
   ·grind
   ·obtain⟨w2,z2⟩:=I.cell y c' e;exact⟨w2,z2.sameBut hs MS⟩
  ·obtain⟨e,n,ne,nf,d⟩:=I.pin p hp;refine⟨(hs.2 p.1 ?_).trans e,n,ne,nf,d⟩;intro q;rw[q,Xa]at e;have q':=bB e;exact d w' (by grind)
def pq(I:Inv X af σ H s)(hN:X.N.Nodup)(hi:X.N[i]?=some x)(hx:MQ X.env.scope x)(r:RelV v u)
  (h:∀s',Inv X af (σ.set i (some v)) H s'->Q () s') (hf:X.fn x=true\/X.env.scope.names.lookup x=some .local:=by first | exact .inl rfl | exact .inr rfl | assumption):wpAny M A (storeName X.env x u) Q E s :=
 store_ok2 I hN hi hx r (λs' I' _=>h s' I') hf
def Inv.MT(I:Inv X af σ H s)(ho:s'.os=s.os)(u:Un (mP X.stack) ch H H' s.heap s'.heap)(hok:kA X.prog X.w H' s'.heap)(hg:AllBare s'.gens)
  (MR:∀b∈ch,(b∈X.ex\/X.s₀.heap.objs.size<=b)/\b≠X.env.locals/\(∀x c,X.env.cells.lookup x=some c->c≠b)/\∀p∈X.pn++af,p.1≠b):Inv X af σ H' s':=by
 obtain⟨h',g',d',t',o'⟩:=s';have e:=ho;subst e;exact I.call u hok hg MR
end
abbrev XK:=Value->Option Addr->Hp->Prop
abbrev St:=List (Option V)
abbrev VK:=V->Hp->Prop
abbrev TE:=St->Hp->VK->Prop
abbrev TT:=St->Hp->(Bool->Hp->Prop)->Prop
abbrev TA:=St->Hp->(List V->Hp->Prop)->Prop
structure px where
 nx:St->Hp->Prop
 rt:VK
 bk:St->Hp->Prop:=λ_ _=>False
 ct:St->Hp->Prop:=λ_ _=>False
abbrev TS:=px->St->Hp->Prop
def EP(X:Cx)(af:List (Addr×Obj))(σ:St)(Q:VK)(u:Value)(s':Shared):Prop:=∃v H',Inv X af σ H' s'/\RelV v u/\Q v H'
def TP(X:Cx)(af:List (Addr×Obj))(σ:St)(Q:Bool->Hp->Prop)(b:Bool)(s':Shared):Prop:=∃H',Inv X af σ H' s'/\Q b H'
def AP(X:Cx)(af:List (Addr×Obj))(σ:St)(Q:List V->Hp->Prop)(us:List Value)(s':Shared):Prop:=∃vs H',Inv X af σ H' s'/\Vals vs us/\Q vs H'
def SP(X:Cx)(af:List (Addr×Obj))(D:px)(f:Flow)(s':Shared):Prop :=
 match f with
 | .next=>∃bj H',Inv X af bj H' s'/\D.nx bj H'
 | .brk=>∃bj H',Inv X af bj H' s'/\D.bk bj H'
 | .cont=>∃bj H',Inv X af bj H' s'/\D.ct bj H'
 | .ret u=>∃v bj H',Inv X af bj H' s'/\RelV v u/\D.rt v H'
def PE(X:Cx)(e:Expr)(t:TE):Prop :=
 ∀(af:List (Addr×Obj)) (s:Shared) (σ:St) (H:Hp) (Q:VK),Inv X af σ H s->t σ H Q->wpAny (model X.prog X.w) X.A (eval e X.env) (EP X af σ Q) X.xe s
def PT(X:Cx)(e:Expr)(t:TT):Prop :=
 ∀(af:List (Addr×Obj)) (s:Shared) (σ:St) (H:Hp) (Q:Bool->Hp->Prop),Inv X af σ H s->t σ H Q->wpAny (model X.prog X.w) X.A (isTrue e X.env (eval e X.env)) (TP X af σ Q) X.xe s
def PW(X:Cx)(e:Expr)(t:TT):Prop :=
 ∀(iI:Sem Value) (af:List (Addr×Obj)) (s:Shared) (σ:St) (H:Hp) (Q:Bool->Hp->Prop),Inv X af σ H s->t σ H Q->wpAny (model X.prog X.w) X.A (isTrue e X.env iI) (TP X af σ Q) X.xe s
def PW.pt(h:PW X e t):PT X e t:=h _
def PA(X:Cx)(es:List Expr)(t:TA):Prop :=
 ∀(pos:Pos) (af:List (Addr×Obj)) (s:Shared) (σ:St) (H:Hp) (Q:List V->Hp->Prop),Inv X af σ H s->t σ H Q->wpAny (model X.prog X.w) X.A (spliced (backTo pos (starEach es X.env))) (AP X af σ Q) X.xe s
def PS(X:Cx)(st:Stmt)(t:TS):Prop :=
 ∀(af:List (Addr×Obj)) (s:Shared) (σ:St) (H:Hp) (D:px),Inv X af σ H s->t D σ H->wpAny (model X.prog X.w) X.A (exec st X.env) (SP X af D) X.xe s
def PSs(X:Cx)(st:List Stmt)(t:TS):Prop :=
 ∀(af:List (Addr×Obj)) (s:Shared) (σ:St) (H:Hp) (D:px),Inv X af σ H s->t D σ H->wpAny (model X.prog X.w) X.A (execs st X.env) (SP X af D) X.xe s
def thn{α:Type}{t:Sem α}{Q Q':α->Shared->Prop}{M:Model}{A:Around}{E:Value->Shared->Prop}(h:wpAny M A t Q E s)(hQ:∀a s,Q a s->Q' a s):wpAny M A t Q' E s:=ir h hQ λ_ _ x=>x
section
variable {X:Cx}
def Oc(i:Nat):TE:=λσ H Q=>∃v,σ[i]?=some (some v)/\Q v H
def tC(v:V):TE:=λ_ H Q=>Q v H
def pe_var{i:Nat}{x:Str}{pos:Pos}(hN:X.N[i]?=some x)(hv:Tv X.env.scope x)(hd:(x==("__debug__":Str))=false:=by decide)(yl:(x==("__classdict__":Str))=false:=by decide):PE X (.Name x pos) (Oc i):=by
 intro af s σ H Q I h;obtain⟨v,e,h⟩:=h;obtain⟨m,hn,hl⟩:=I.loc;obtain⟨u,r,l⟩:=hl i x v hN e hv;have gh:EP X af σ Q u s:=⟨v,H,I,r,h⟩;rcases l with⟨hk,hm⟩ | ⟨hk,c,hc,rR⟩
 ·exact wpAny_Name (wpAny_loadName_local I.ok.kind hk hn hm gh) hd
 ·rcases hk with hk | hk
  ·exact wpAny_Name (wpAny_loadName_cell I.ok.kind hk hc rR gh) hd
  ·exact wpAny_Name (wpAny_loadName_free I.ok.kind hk hc rR gh yl) hd
def Od{i j pos}:PE X (.Constant (.int i) j pos) (tC (.int i)):=λ_ _ _ H _ I h=>wpAny_Constant_int ⟨.int i,H,I.tok _,⟨_,rfl⟩,h⟩
def TJ{b j pos}:PE X (.Constant (.bool b) j pos) (tC (.bl b)):=λ_ _ _ H _ I h=>Constant_bool ⟨.bl b,H,I,rfl,h⟩
def Oe{j pos}:PE X (.Constant .none j pos) (tC .bL):=λ_ _ _ H _ I h=>Constant_none ⟨.bL,H,I,rfl,h⟩
def Of{x j pos}:PE X (.Constant (.str x) j pos) (tC (.str x)):=λ_ _ _ H _ I h=>Calls.Constant_str ⟨.str x,H,I.tok _,⟨_,rfl⟩,h⟩
def Gl(X:Cx)(x:Str):Prop:=X.env.kindOf x=some .globalImplicit
def ld_glob{E:Value->Shared->Prop}{af:List (Addr×Obj)}{s:Shared}{σ:St}{H:Hp}{x:Str}{u:Value}{pos:Pos}{Q:Value->Shared->Prop}(I:Inv X af σ H s)(hg:Gl X x)(hm:X.mg x=some u)(h:Q u s)
  (hd:(x==("__debug__":Str))=false:=by decide):wpAny (model X.prog X.w) X.A (eval (.Name x pos) X.env) Q E s :=
 E3 I.ok.kind hg (Calls.loadGlobal_global (by rw[I.ok.glob];exact I.mod.glob.keeps I.bk) hm h) hd
def ld_blt{E:Value->Shared->Prop}{af:List (Addr×Obj)}{s:Shared}{σ:St}{H:Hp}{x:Str}{u:Value}{pos:Pos}{Q:Value->Shared->Prop}(I:Inv X af σ H s)(hg:Gl X x)(hm:X.mg x=none)(hv:bootBuiltins x=some u)(h:Q u s)
  (hn:x≠"__name__":=by decide) (hd:(x==("__debug__":Str))=false:=by decide):wpAny (model X.prog X.w) X.A (eval (.Name x pos) X.env) Q E s:=by
 obtain⟨mb,h1,h2⟩:=I.mod.blt;exact E3 I.ok.kind hg (Calls.loadGlobal_builtin (by rw[I.ok.glob];exact I.mod.glob.keeps I.bk) hm (by rw[I.ok.blt];exact h1.keeps I.bk) ((h2 x hn).trans hv) h) hd
def uE(hg:Gl X x)(hm:X.mg x=some u)(r:RelV v u)(hd:(x==("__debug__":Str))=false:=by decide):PE X (.Name x pos) (tC v) :=
 λ_ _ _ H _ I h=>ld_glob I hg hm ⟨v,H,I,r,h⟩ hd
def JF{x:Str}{v:V}{u:Value}{pos:Pos}(hg:Gl X x)(hm:X.mg x=none)(hv:bootBuiltins x=some u)(r:RelV v u)(hn:x≠"__name__":=by decide)(hd:(x==("__debug__":Str))=false:=by decide):PE X (.Name x pos) (tC v) :=
 λ_ _ _ H _ I h=>ld_blt I hg hm hv ⟨v,H,I,r,h⟩ hn hd
variable {a b:Expr} {ta tb:TE} {pos:Pos}
variable {tA Xb:TT} {rest:List Expr}
def Yl(t u:TT):TT:=λσ H Q=>t σ H λc H1=>if c=true then u σ H1 Q else Q false H1
def tOr(t u:TT):TT:=λσ H Q=>t σ H λc H1=>if c=true then Q true H1 else u σ H1 Q
def Ym(t:TT):TT:=λσ H Q=>t σ H λc H1=>Q (!c) H1
def JG(ha:PT X a tA):PW X (.BoolOp .And [a] pos) tA:=by
 intro wh af s σ H Q I h;refine isTrue_and (thn (ha af s σ H Q I h) λc s1 e=>?_)
 cases c with
 | true=>exact isTrue_and_nil e
 | false=>exact e
def Og(ha:PT X a tA):PW X (.BoolOp .Or [a] pos) tA:=by
 intro wh af s σ H Q I h;refine isTrue_or (thn (ha af s σ H Q I h) λc s1 e=>?_)
 cases c with
 | false=>exact isTrue_or_nil e
 | true=>exact e
def Oh(ha:PT X a tA)(hb:PW X (.BoolOp .And (b::rest) pos) Xb):PW X (.BoolOp .And (a::b::rest) pos) (Yl tA Xb):=by
 intro wh af s σ H Q I h;refine isTrue_and (thn (ha af s σ H _ I h) λc s1 ⟨H1,I1,q1⟩=>?_)
 cases c with
 | true=>exact hb wh af s1 σ H1 Q I1 q1
 | false=>exact⟨H1,I1,q1⟩
def TK(ha:PT X a tA)(hb:PW X (.BoolOp .Or (b::rest) pos) Xb):PW X (.BoolOp .Or (a::b::rest) pos) (tOr tA Xb):=by
 intro wh af s σ H Q I h;refine isTrue_or (thn (ha af s σ H _ I h) λc s1 ⟨H1,I1,q1⟩=>?_)
 cases c with
 | true=>exact⟨H1,I1,q1⟩
 | false=>exact hb wh af s1 σ H1 Q I1 q1
def Oi(ha:PT X a tA):PT X (.UnaryOp .Not a pos) (Ym tA):=by
 intro af s σ H Q I h;exact isTrue_not (ha af s σ H (λc H1=>Q (!c) H1) I h)
def TL(ta:TE):TE:=λσ H Q=>ta σ H λx H1=>∃c,x=.bl c/\Q (.bl (!c)) H1
def Fy{op}(h:PE X a t):PE X (.BoolOp op [a] pos) t:=λaf s σ H Q I hw=>BoolOp_one (h af s σ H Q I hw)
def Oj(ha:PE X a ta):PE X (.UnaryOp .Not a pos) (TL ta):=by
 intro af s σ H Q I h;refine UnaryOp_ (thn (ha af s σ H _ I h) λv s1 ⟨x,H1,I1,r1,q1⟩=>?_)
 obtain⟨c,rfl,q1⟩:=q1;cases r1;exact not_of (i5 ⟨.bl (!c),H1,I1,rfl,q1⟩)
def tIf(t:TT)(ta tb:TE):TE:=λσ H Q=>t σ H λc H1=>if c=true then ta σ H1 Q else tb σ H1 Q
def FC(hc:PT X c tA)(ha:PE X a ta)(hb:PE X b tb):PE X (.IfExp c a b pos) (tIf tA ta tb):=by
 intro af s σ H Q I h;refine wpAny_IfExp (thn (hc af s σ H _ I h) λd s1 ⟨H1,I1,q1⟩=>?_)
 cases d with
 | true=>exact ha af s1 σ H1 Q I1 q1
 | false=>exact hb af s1 σ H1 Q I1 q1
end
def uF(K:W.Frag)(H:Hp)(a:Addr)(xs:List V):Prop :=
 Rd H a (.lst xs) \/
  ∃(o:Obj) (aA:Array Value) (n:Nat),K.lookup a=some o/\o.cls=.type "list"/\o.dict=none/\o.data=.seq aA n/\aA.size<=sizeLine/\Vals xs aA.toList
def iu.sq{K:W.Frag}{H:Hp}{a:Addr}{xs:List V}(h:iu K H a xs):uF K H a xs:=by
 rcases h with h | ⟨aA,n,e,z,r⟩
 ·exact .inl h
 ·exact .inr ⟨_,aA.toArray,n,e,rfl,rfl,rfl,by grind,by grind⟩
def Yn:Value->Option V
 | .none=>some .bL
 | .bool b=>some (.bl b)
 | .int i _=>some (.int i)
 | .str x _=>some (.str x)
 | .bytes b _=>some (.Sv b)
 | .float b _=>some (.W2 b)
 | .ref a=>some (.ref a)
 | .type n=>some (.ty n)
 | _=>none
def RelV.abs(r:RelV x u):Yn u=some x:=by
 cases x with
 | bL=>cases r;rfl
 | bl _=>cases r;rfl
 | int _=>obtain⟨t,rfl⟩:=r;rfl
 | str _=>obtain⟨t,rfl⟩:=r;rfl
 | Sv _=>obtain⟨t,rfl⟩:=r;rfl
 | W2 _=>obtain⟨t,rfl⟩:=r;rfl
 | ref _=>cases r;rfl
 | ty _=>cases r;rfl
def RelV.inj(r:RelV x u)(q:RelV y u):x=y:=bB (r.abs.symm.trans q.abs)
theorem Vals.inj:∀{xs ys:List V} {us:List Value},Vals xs us->Vals ys us->xs=ys
 | _,_,_,.nil,.nil=>rfl
 | _,_,_,.cons r t,.cons r' t'=>by rw[r.inj r',Vals.inj t t']
section
variable {X:Cx} {af:List (Addr×Obj)} {σ:St} {H:Hp} {s:Shared} {a:Addr} {xs ys:List V}
def fX.of{K:W.Frag}(h:H a=some (.aw xs)):fX K H a xs:=.inl (.inl h)
def Inv.list(I:Inv X af σ H s)(h:uF X.K H a xs):∃aA:List Value,Vals xs aA/\PlainL s.heap a aA.toArray/\xs.length<=sizeLine:=by
 rcases h with h | ⟨o,aA,n,hk,hc,hd,hs,hz,r⟩
 ·obtain⟨z,aA,n,r,e⟩:=h.ok I.hok;exact⟨aA,r,⟨_,n,e,rfl,rfl,rfl⟩,z⟩
 ·refine⟨aA.toList,r,⟨o,n,I.n9 a o hk,hc,hd,by simp_all⟩,?_⟩
  have e:=r.length;simp only[fE]at e
  lia
def Inv.tuple(I:Inv X af σ H s)(h:fX X.K H a xs):∃aA:List Value,Vals xs aA/\IsTup s.heap a aA.toArray/\xs.length<=sizeLine:=by
 rcases h with h | ⟨o,aA,n,hk,hc,hs,hz,r⟩
 ·obtain⟨z,aA,r,p⟩:=h.ok I.hok;exact⟨aA,r,p,z⟩
 ·refine⟨aA.toList,r,⟨o,I.n9 a o hk,hc,n,by simp_all⟩,?_⟩
  have e:=r.length;simp only[fE]at e
  lia
def Inv.k7(I:Inv X af σ H s)(h:uF X.K H a xs)(h':uF X.K H a ys):xs=ys:=by
 obtain⟨aA,r,⟨o,n,e,_,_,d⟩,_⟩:=I.list h;obtain⟨nK,r',⟨o',n',e',_,_,d'⟩,_⟩:=I.list h';rw[e]at e';cases e';rw[d]at d';injection d' with d1 _
 have:aA=nK:=by grind
 subst this;exact r.inj r'
def Inv.jy(I:Inv X af σ H s)(h:fX X.K H a xs)(h':fX X.K H a ys):xs=ys:=by
 obtain⟨aA,r,⟨o,e,_,n,d⟩,_⟩:=I.tuple h;obtain⟨nK,r',⟨o',e',_,n',d'⟩,_⟩:=I.tuple h';rw[e]at e';cases e';rw[d]at d';injection d' with d1 _
 have:aA=nK:=by grind
 subst this;exact r.inj r'
end
section
variable {X:Cx} {st:Stmt} {rest:List Stmt} {t u:TS} {e:Expr} {te:TE} {pos:Pos}
def MU:TS:=λD σ H=>D.nx σ H
def Yo(t u:TS):TS:=λD σ H=>t {D with nx:=u D} σ H
def JH:PSs X [] MU:=λ_ _ σ H _ I h=>uj ⟨σ,H,I,h⟩
def FD(h1:PS X st t)(h2:PSs X rest u):PSs X (st::rest) (Yo t u):=by
 intro af s σ H D I h;refine wpAny_execs_cons (thn (h1 af s σ H {D with nx:=u D} I h) λf s1 q=>?_)
 cases f with
 | next =>
  obtain⟨bj,H',I',q⟩:=q;exact h2 af s1 bj H' D I' q
 | ret v=>exact q
 | brk=>exact q
 | cont=>exact q
def Bb(h1:PS X st t):PSs X [st] t:=by
 intro af s σ H D I h;refine wpAny_execs_cons (thn (h1 af s σ H D I h) λf s1 q=>?_)
 cases f with
 | next=>exact uj q
 | ret v=>exact q
 | brk=>exact q
 | cont=>exact q
def Ol:TS:=λD σ H=>D.bk σ H
def TM:TS:=λD σ H=>D.ct σ H
def JI:PS X (.Pass pos) MU:=λ_ _ σ H _ I h=>wpAny_Pass ⟨σ,H,I,h⟩
def FE:PS X (.Break pos) Ol:=λ_ _ σ H _ I h=>wpAny_Break ⟨σ,H,I,h⟩
def v9:PS X (.Continue pos) TM:=λ_ _ σ H _ I h=>wpAny_Continue ⟨σ,H,I,h⟩
def Inv.quiet{af:List (Addr×Obj)}{σ:St}{H:Hp}{s:Shared}(I:Inv X af σ H s):interactive X.env=false:=by simp[interactive,I.ok.kind]
def TN(te:TE):TS:=λD σ H=>te σ H λ_ H1=>D.nx σ H1
def JJ(he:PE X e te)(hs:swapsWith e none pos.line X.env=pure false:=by rfl):PS X (.Expr e pos) (TN te):=by
 intro af s σ H D I h;exact wpAny_Expr_any (thn (he af s σ H _ I h) (by rintro v s1 ⟨x,H1,I1,r1,q1⟩;exact⟨σ,H1,I1,q1⟩)) I.quiet hs
def Yp(te:TE):TS:=λD σ H=>te σ H D.rt
def Om(he:PE X e te):PS X (.Return (some e) pos) (Yp te):=by
 intro af s σ H D I h;exact wpAny_Return_some (thn (he af s σ H _ I h) (by rintro v s1 ⟨x,H1,I1,r1,q1⟩;exact⟨x,σ,H1,I1,r1,q1⟩))
def TQ:TS:=λD _ H=>D.rt .bL H
def JK:PS X (.Return none pos) TQ:=λ_ _ σ H _ I h=>wpAny_Return_none ⟨.bL,σ,H,I,rfl,h⟩
def Yq(c:TT)(t u:TS):TS:=λD σ H=>c σ H λb H1=>if b=true then t D σ H1 else u D σ H1
def TR(hc:PT X c tc)(ha:PSs X a t)(hb:PSs X b u):PS X (.If c a b pos) (Yq tc t u):=by
 intro af s σ H D I h;refine wpAny_If (thn (hc af s σ H _ I h) λd s1 ⟨H1,I1,q1⟩=>?_)
 cases d with
 | true=>exact ha af s1 σ H1 D I1 q1
 | false=>exact hb af s1 σ H1 D I1 q1
end
abbrev TG:=V->St->Hp->(St->Hp->Prop)->Prop
abbrev Oo:=List V->St->Hp->(St->Hp->Prop)->Prop
def PG(X:Cx)(target:Expr)(t:TG):Prop :=
 ∀(af:List (Addr×Obj)) (s:Shared) (σ:St) (H:Hp) (v:V) (u:Value) (Q:St->Hp->Prop),Inv X af σ H s->RelV v u->t v σ H Q ->
  wpAny (model X.prog X.w) X.A (assign target X.env u) (λ_ s'=>∃bj H',Inv X af bj H' s'/\Q bj H') X.xe s
def PGs(X:Cx)(ts:List Expr)(t:Oo):Prop :=
 ∀(af:List (Addr×Obj)) (s:Shared) (σ:St) (H:Hp) (vs:List V) (us:List Value) (Q:St->Hp->Prop),Inv X af σ H s->Vals vs us->t vs σ H Q ->
  wpAny (model X.prog X.w) X.A (assignInOrder ((assignEach ts X.env).map (·.2)) us) (λ_ s'=>∃bj H',Inv X af bj H' s'/\Q bj H') X.xe s
abbrev FF:=V->V->V->Hp->(Hp->Prop)->Prop
def FG(X:Cx)(t:FF):Prop :=
 ∀(af:List (Addr×Obj)) (s:Shared) (σ:St) (H:Hp) (o i v:V) (ov iv u:Value) (Q:Hp->Prop),Inv X af σ H s->RelV o ov->RelV i iv->RelV v u->t o i v H Q ->
  wpAny (model X.prog X.w) X.A (setItem ov iv u) (λ_ s'=>∃H',Inv X af σ H' s'/\Q H') X.xe s
abbrev TIp:=V->V->Hp->VK->Prop
def PIp(X:Cx)(op:Operator)(t:TIp):Prop :=
 ∀(af:List (Addr×Obj)) (s:Shared) (σ:St) (H:Hp) (x y:V) (v u:Value) (Q:VK),Inv X af σ H s->RelV x v->RelV y u->t x y H Q ->
  wpAny (model X.prog X.w) X.A (inplaceOp op v u) (EP X af σ Q) X.xe s
section
variable {X:Cx} {pos:Pos}
def gName(i:Nat):TG:=λv σ H Q=>Q (σ.set i (some v)) H
def JL(hN:X.N.Nodup)(hi:X.N[i]?=some x)(hx:MQ X.env.scope x)(hf:X.fn x=true\/X.env.scope.names.lookup x=some .local:=by first | exact .inl rfl | exact .inr rfl | assumption):PG X (.Name x pos) (gName i):=by
 intro af s σ H v u Q I r h;exact wpAny_assign_Name (pq I hN hi hx r (λs' I'=>⟨_,H,I',h⟩) hf)
def Yr:Oo:=λvs σ H Q=>vs=[]/\Q σ H
def TU(t:TG)(u:Oo):Oo:=λvs σ H Q=>∃v r,vs=v::r/\t v σ H λbj H'=>u r bj H' Q
def JM:PGs X [] Yr:=by
 intro af s σ H vs us Q I r h;obtain⟨e,h⟩:=h;subst e;cases r;exact assignInOrder_nil ⟨σ,H,I,h⟩
def FH(h1:PG X e t)(h2:PGs X es u)
  (hs:(assignEach (e::es) X.env).map (·.2)=assign e X.env::(assignEach es X.env).map (·.2):=by rfl):PGs X (e::es) (TU t u):=by
 intro af s σ H vs us Q I r h;obtain⟨v,vr,e1,h⟩:=h;subst e1;cases r with
 | cons r rr =>
  rw[hs];refine assignInOrder_cons (thn (h1 af s σ H _ _ _ I r h) λ_ s1 ⟨iA,H1,I1,q1⟩=>?_)
  exact h2 af s1 iA H1 _ _ Q I1 rr q1
def Ys(K:W.Frag)(n:Nat)(t:Oo):TG:=λv σ H Q=>∃a xs,v=.ref a/\fX K H a xs/\xs.length=n/\t xs σ H Q
def Oq{es:List Expr}{k:Nat}{t:Oo}{n:Nat}(hc:X.calm=true)(h:PGs X es t)
  (hn:(assignEach es X.env).length=n:=by rfl) (mQ:(assignEach es X.env).findIdx? (·.1)=none:=by rfl):PG X (.Tuple es k pos) (Ys X.K n t):=by
 intro af s σ H v u Q I r hw;obtain⟨a,xs,e1,hq,hl,hw⟩:=hw;subst e1;cases r;obtain⟨aA,rv,ht,hz⟩:=I.tuple hq;refine assign_Tuple_tuple (I.ok.hd hc) ht (by simp[hn,<-hl,rv.length]) mQ λh' hx=>?_
 have I1:=I.kept (t':=s.toks) λb o e=>hx b o (aR (aC e)) e
 exact h af _ σ H xs _ Q I1 (by grind) hw
def Yt(to ti:TE)(t:FF):TG:=λv σ H Q=>to σ H λo H1=>ti σ H1 λi H2=>t o i v H2 λH3=>Q σ H3
def Ot(ho:PE X o to)(hi:PE X i ti)(hs:FG X t)
  (ha:∀v,assign (.Subscript o i pos) X.env v=(do
   let ov <-holding [v] (eval o X.env)
   let iv <-holding [v,ov] (eval i X.env)
   standAt pos
   holding [v,ov,iv] (setItem ov iv v)
   release [v,ov,iv] []):=by intro _;rfl):PG X (.Subscript o i pos) (Yt to ti t):=by
 intro af s σ H v u Q I r h;rw[ha];refine ae (cD (thn (ho af s σ H _ I h) λov s1 ⟨x,H1,I1,r1,q1⟩=>?_))
 refine ae (cD (thn (hi af s1 σ H1 _ I1 q1) λiv s2 ⟨y,H2,I2,r2,q2⟩=>?_))
 refine ae (wpAny_standAt (ae (cD (thn (hs af s2 σ H2 x y v ov iv u _ I2 r1 r2 r q2) λ_ s3 ⟨H3,I3,q3⟩=>?_))))
 exact wpAny_release ⟨σ,H3,I3,q3⟩
def JN(te:TE)(g:TG):TS:=λD σ H=>te σ H λx H1=>g x σ H1 D.nx
def FI(he:PE X e te)(hg:PG X tg g)(hs:swapsWithSole [tg] e pos.line X.env=pure false:=by rfl)(hw:swappedStores [tg] e X.env=pure none:=by rfl)
  (h1:(assignEach [tg] X.env).map (·.2)=[assign tg X.env]:=by rfl):PS X (.Assign [tg] e pos) (JN te g):=by
 intro af s σ H D I h;refine wpAny_Assign_stores (thn (he af s σ H _ I h) λv s1 ⟨x,H1,I1,r1,q1⟩=>?_) hs hw
 rw[h1];exact thn (hg af s1 σ H1 x v _ I1 r1 q1) λ_ s2 q=>q
def Ou(hN:X.N.Nodup)(hi:X.N[i]?=some x)(hx:MQ X.env.scope x)(he:PE X e te)(hs:swapsWith e (some (.Name x qX)) pos.line X.env=pure false:=by rfl)(hf:X.fn x=true\/X.env.scope.names.lookup x=some .local:=by first | exact .inl rfl | exact .inr rfl | assumption) :
  PS X (.Assign [.Name x qX] e pos) (JN te (gName i)):=by
 intro af s σ H D I h;refine wpAny_Assign_Name (thn (he af s σ H _ I h) λv s1 ⟨y,H1,I1,r1,q1⟩=>?_) hs
 exact pq I1 hN hi hx r1 (λs2 I2=>⟨_,H1,I2,q1⟩) hf
def Yu(i:Nat)(te:TE)(ti:TIp):TS:=λD σ H=>∃x,σ[i]?=some (some x)/\te σ H λy H1=>ti x y H1 λz H2=>D.nx (σ.set i (some z)) H2
def Ov(hN:X.N.Nodup)(hi:X.N[i]?=some x)(hx:MQ X.env.scope x)(he:PE X e te)(ho:PIp X op ti)(hf:X.fn x=true\/X.env.scope.names.lookup x=some .local:=by first | exact .inl rfl | exact .inr rfl | assumption) :
  PS X (.AugAssign (.Name x qX) op e pos) (Yu i te ti):=by
 intro af s σ H D I h;obtain⟨v,e1,h⟩:=h;obtain⟨m,hn,hl⟩:=I.loc;have JO:Tv X.env.scope x:=by rcases hx with k | k;exact .inl k;exact .inr (.inl k)
 obtain⟨u,r,l⟩:=hl i x v hi e1 JO;refine wpAny_AugAssign_Name ?_;have go:wpAny (model X.prog X.w) X.A (eval e X.env) (λw CS=>wpAny (model X.prog X.w) X.A (inplaceOp op u w) (λr Yv=>wpAny (model X.prog X.w) X.A (storeName X.env x r) (λ_=>SP X af D .next) X.xe Yv) X.xe CS) X.xe s:=by
  refine thn (he af s σ H _ I h) λw s1 ⟨y,H1,I1,r1,q1⟩=>?_
  refine thn (ho af s1 σ H1 v y u w _ I1 r r1 q1) λz s2 ⟨zv,H2,I2,r2,q2⟩=>?_
  exact pq I2 hN hi hx r2 (λs3 I3=>⟨_,H2,I3,q2⟩) hf
 rcases l with⟨hk,hm⟩ | ⟨hk,c,hc,rR⟩
 ·exact wpAny_loadName_local I.ok.kind hk hn hm go
 ·rcases hk with hk | hk
  ·exact wpAny_loadName_cell I.ok.kind hk hc rR go
  ·rcases hx with k | k
   ·have:X.env.scope.names.lookup x=some .free:=hk;rw[k]at this;cases this
   ·have:X.env.scope.names.lookup x=some .free:=hk;rw[k]at this;cases this
end
section
variable {X:Cx} {pos:Pos}
def Ow(c:TT)(tb:TS):TS:=λD σ H=>∃W:Nat->St->Hp->Prop,(∃m,W m σ H)/\∀m σ H,W m σ H ->
 c σ H λb H1=>if b=true then ∃N:St->Hp->Prop,(∀bj H',N bj H'->∃m',m'<m/\W m' bj H')/\tb {D with nx:=N,ct:=N,bk:=D.nx} σ H1 else D.nx σ H1
def FJ(hp:PassesOwn (model X.prog X.w) X.A X.env X.xe)(hc:PT X c tc)(hb:PSs X body tb):PS X (.While c body [] pos) (Ow tc tb):=by
 intro af s σ H D I h;obtain⟨W,⟨m0,w0⟩,mR⟩:=h;refine wpAny_While (codeAny_whileLoop (λn s'=>∃bj H',Inv X af bj H' s'/\W n bj H') ?_ m0 ⟨σ,H,I,w0⟩)
 rintro n s1 ⟨iA,H1,I1,w1⟩
 refine ki hp (thn (hc af s1 iA H1 _ I1 (mR n iA H1 w1)) λb s2 ⟨H2,I2,q2⟩=>?_)
 cases b with
 | true =>
  obtain⟨N,hN,q2⟩:=q2;rw[if_pos rfl];refine ki hp (thn (hb af s2 iA H2 _ I2 q2) λf s3 q3=>?_)
  cases f with
  | next =>
   obtain⟨mn,H3,I3,n3⟩:=q3;obtain⟨m',hm,w3⟩:=hN mn H3 n3;exact⟨m',hm,mn,H3,I3,w3⟩
  | cont =>
   obtain⟨mn,H3,I3,n3⟩:=q3;obtain⟨m',hm,w3⟩:=hN mn H3 n3;exact⟨m',hm,mn,H3,I3,w3⟩
  | brk=>exact q3
  | ret v=>exact q3
 | false =>
  rw[if_neg dg];exact uj ⟨iA,H2,I2,q2⟩
end
structure It where
 go:Nat->Hp->Prop
 yld:Nat->Hp->V->Hp->Prop
 stop:Nat->Hp->Prop
def pz(X:Cx)(af:List (Addr×Obj))(H:Hp)(b:Addr):Prop :=
 H b=none/\b≠X.env.locals/\b∉X.fs/\(b∈X.ex\/X.s₀.heap.objs.size<=b)/\(∀x c,X.env.cells.lookup x=some c->c≠b)/\∀p∈X.pn++af,p.1≠b
def Inv.wa{X:Cx}{af:List (Addr×Obj)}{σ:St}{H H':Hp}{s:Shared}{b:Addr}(I:Inv X af σ H s)(hb:s.heap.objs.size<=b)(hn:H' b=none):pz X af H' b:=by
 refine⟨hn,mJ (bR I.lt hb),I.Yh hb,.inr (bh I.sz hb),λx c e z=>?_,λp hp z=>?_⟩
 ·obtain⟨v,q⟩:=I.cell x c e;exact absurd (bR q.lt (by grind)) (dX _)
 ·exact absurd (bR (aC (I.pin p hp).1) (by grind)) (dX _)
structure Turn (P:Program) (w:World) (K:W.Frag) (tg:Expr) (J:It) (fp:List Addr) (it:Addr) (tn:Nat->Heap->Prop):Prop where
 mem:it∈fp
 obj:∀i h,tn i h->∀b∈fp,∃o,h.get? b=some o/\∀v,o.data≠.cell v
 keep:∀i h h',tn i h->(∀b∈fp,∀o,h.get? b=some o->h'.get? b=some o)->tn i h'
 item:∀(X:Cx),X.prog=P->X.w=w->X.K=K->X.calm=true->∀(i:Nat) (af:List (Addr×Obj)) (s:Shared) (σ:St) (H:Hp) (E:Value->Shared->Prop),Inv X af σ H s->(∀b∈fp,pz X af H b)->tn i s.heap->J.go i H ->
  wpAny (model P w) X.A (pyNext (.ref it)) (λr s1=>∃u,r=some u /\
   wpAny (model P w) X.A (letOwnedTupleGo tg (.ref it) u) (λ_ s2=>∃x H',Inv X af σ H' s2/\RelV x u/\J.yld i H x H'/\tn (i+1) s2.heap/\∀b∈fp,H' b=none) E s1) E s
 done:∀(X:Cx),X.prog=P->X.w=w->X.K=K->X.calm=true->∀(i:Nat) (af:List (Addr×Obj)) (s:Shared) (σ:St) (H:Hp) (E:Value->Shared->Prop),Inv X af σ H s->(∀b∈fp,pz X af H b)->tn i s.heap->J.stop i H ->
  wpAny (model P w) X.A (pyNext (.ref it)) (λr s1=>r=none/\Inv X af σ H s1) E s
 self:∀(A:Around) (i:Nat) (s:Shared) (Q:Value->Shared->Prop) (E:Value->Shared->Prop),tn i s.heap->Q (.ref it) s->wpAny (model P w) A (pyIter (.ref it)) Q E s
abbrev TI:=St->Hp->(It->Hp->Prop)->Prop
def PIE(X:Cx)(af:List (Addr×Obj))(σ:St)(tg:Expr)(R:It->Hp->Prop)(Yw:Value)(s2:Shared):Prop :=
 ∃(it:Addr) (fp:List Addr) (tn:Nat->Heap->Prop) (J:It) (H':Hp),Yw=.ref it/\Inv X af σ H' s2/\Turn X.prog X.w X.K tg J fp it tn/\tn 0 s2.heap/\(∀b∈fp,pz X af H' b)/\R J H'
def PI(X:Cx)(tg iter:Expr)(wi:TI):Prop :=
 ∀(af:List (Addr×Obj)) (s:Shared) (σ:St) (H:Hp) (R:It->Hp->Prop),Inv X af σ H s->wi σ H R ->
  wpAny (model X.prog X.w) X.A (eval iter X.env) (λv s1=>wpAny (model X.prog X.w) X.A (pyIter v) (PIE X af σ tg R) X.xe s1) X.xe s
def wb(ho:s.heap.get? it=some o)(hc:o.cls=.type n)(hd:o.data=.fields vs)
  (hn:["enumerate","zip","dict_itemiterator","dict_reverseitemiterator","odict_iterator","itertools.zip_longest","itertools.pairwise"].contains n=false) (hQ:Q () s):wpAny M A (letOwnedTupleGo tg (.ref it) u) Q E s:=by
 unfold letOwnedTupleGo;cases tg<;>first
  | exact ah hQ
  | (cases u<;>first
    | exact ah hQ
    | (refine ae (wpAny_load ho ?_)
       rw[hc,hd];show wpAny M A (if(["enumerate","zip","dict_itemiterator","dict_reverseitemiterator","odict_iterator","itertools.zip_longest","itertools.pairwise"].contains n&&vs[0]?==some (rawInt _))=true then _ else _) Q E s
       rw[if_neg (by grind)]
       exact ah hQ))
def Xc(K:W.Frag)(a:Addr):It :=
 ⟨λi H=>∃xs x,uF K H a xs/\xs[i]?=some x,λi H x H'=>H'=H/\∀xs,uF K H a xs->xs[i]?=some x,λi H=>∃xs,uF K H a xs/\xs.length<=i⟩
def Yx(K:W.Frag)(a:Addr):It :=
 ⟨λi H=>∃xs x,fX K H a xs/\xs[i]?=some x,λi H x H'=>H'=H/\∀xs,fX K H a xs->xs[i]?=some x,λi H=>∃xs,fX K H a xs/\xs.length<=i⟩
def TV(lo:Int)(n:Nat):It:=⟨λi _=>i<n,λi H x H'=>H'=H/\x=.int (lo+i),λi _=>n<=i⟩
def CU{P:Program}{w:World}{K:W.Frag}{tg:Expr}(a it:Addr):Turn P w K tg (Xc K a) [it] it (λi h=>h.IsListIter it a i) where
 mem:=by simp
 obj:=λi h st b hb=>by
  have e:b=it:=by grind
  subst e;obtain⟨o,e,c,d⟩:=st;exact⟨o,e,λv z=>by grind⟩
 keep:=λi h h' st k=>st.at λo e=>k it (by simp) o e
 item:=by
  intro X hP hw hK hc i af s σ H E I hf st hg;subst hP hw hK;obtain⟨xs,x,hq,hx⟩:=hg;obtain⟨aA,rv,p,hz⟩:=I.list hq;obtain⟨u,hu,ru⟩:=rv.get hx;obtain⟨f0,f1,f2,f3,f4,f5⟩:=hf it (by simp)
  refine wpAny_pyNext_list_item st p.isList (by simpa using hu) λh' bI sb=>?_
  have I1:=I.turned (t':=s.toks) (λb o hb e=>(sb.2 b hb).trans e) f0 f1 f3 f4 f5
  obtain⟨o,e,c,d⟩:=id bI;exact⟨u,rfl,wb e c d (by decide) ⟨x,H,I1,ru,⟨rfl,λys hy=>by rw[I.k7 hy hq];exact hx⟩,bI,λb hb=>(hf b hb).1⟩⟩
 done:=by
  intro X hP hw hK hc i af s σ H E I hf st hg;subst hP hw hK;obtain⟨xs,hq,hx⟩:=hg;obtain⟨aA,rv,p,hz⟩:=I.list hq;obtain⟨f0,f1,f2,f3,f4,f5⟩:=hf it (by simp)
  have hl:=rv.length;exact wpAny_pyNext_list_end (I.ok.hd hc) st p.isList (by simp;lia) λh' eb=>⟨rfl,I.turned (λb o hb e=>eb b o hb e) f0 f1 f3 f4 f5⟩
 self:=λ_ _ _ _ _ st h=>wpAny_pyIter_listiter st h
def zm{P:Program}{w:World}{K:W.Frag}{tg:Expr}(a it:Addr):Turn P w K tg (Yx K a) [it] it (λi h=>h.IsTupleIter it a i) where
 mem:=by simp
 obj:=λi h st b hb=>by
  have e:b=it:=by grind
  subst e;obtain⟨o,e,c,d⟩:=st;exact⟨o,e,λv z=>by grind⟩
 keep:=λi h h' st k=>st.at λo e=>k it (by simp) o e
 item:=by
  intro X hP hw hK hc i af s σ H E I hf st hg;subst hP hw hK;obtain⟨xs,x,hq,hx⟩:=hg;obtain⟨aA,rv,p,hz⟩:=I.tuple hq;obtain⟨u,hu,ru⟩:=rv.get hx;obtain⟨f0,f1,f2,f3,f4,f5⟩:=hf it (by simp)
  refine wpAny_pyNext_tuple_item st (p) (by simpa using hu) λh' bI sb=>?_
  have I1:=I.turned (t':=s.toks) (λb o hb e=>(sb.2 b hb).trans e) f0 f1 f3 f4 f5
  obtain⟨o,e,c,d⟩:=id bI;exact⟨u,rfl,wb e c d (by decide) ⟨x,H,I1,ru,⟨rfl,λys hy=>by rw[I.jy hy hq];exact hx⟩,bI,λb hb=>(hf b hb).1⟩⟩
 done:=by
  intro X hP hw hK hc i af s σ H E I hf st hg;subst hP hw hK;obtain⟨xs,hq,hx⟩:=hg;obtain⟨aA,rv,p,hz⟩:=I.tuple hq;obtain⟨f0,f1,f2,f3,f4,f5⟩:=hf it (by simp)
  have hl:=rv.length;exact wpAny_pyNext_tuple_end (I.ok.hd hc) st (p) (by simp;lia) λh' eb=>⟨rfl,I.turned (λb o hb e=>eb b o hb e) f0 f1 f3 f4 f5⟩
 self:=λ_ _ _ _ _ st h=>wpAny_pyIter_tupleiter st h
def zo{P:Program}{w:World}{K:W.Frag}{tg:Expr}(it:Addr)(lo:Int)(n:Nat):Turn P w K tg (TV lo n) [it] it (λi h=>IsRangeIter h it (lo+(i:Nat)*1) ((n:Int)-(i:Nat)) 1) where
 mem:=by simp
 obj:=λi h st b hb=>by
  grind
 keep:=λi h h' st k=>k it (by simp) _ st
 item:=by
  intro X hP hw hK hc i af s σ H E I hf st hg;subst hP hw hK;obtain⟨f0,f1,f2,f3,f4,f5⟩:=hf it (by simp)
  have W:=Walks.range (prog:=X.prog) (w:=X.w) (I.ok.hd hc) it lo 1 n;refine W.item i s _ _ hg st λv h' tk hv bI kk=>?_
  obtain⟨t,rfl⟩:=hv;have I1:Inv X af σ H {s with heap:=h',toks:=tk}:=I.turned (λb o hb e=>kk b o (by grind) e) f0 f1 f3 f4 f5
  refine⟨_,rfl,wb bI rfl rfl (by decide) ⟨.int (lo+i),H,I1,⟨t,?_⟩,⟨rfl,rfl⟩,bI,λb hb=>(hf b hb).1⟩⟩
  rw[Int.mul_one]
 done:=by
  intro X hP hw hK hc i af s σ H E I hf st hg;subst hP hw hK;obtain⟨f0,f1,f2,f3,f4,f5⟩:=hf it (by simp)
  exact wpAny_pyNext_range_end (I.ok.hd hc) st (by have:n<=i:=hg;lia) λh' eb=>⟨rfl,I.turned (λb o hb e=>eb b o hb e) f0 f1 f3 f4 f5⟩
 self:=λ_ _ _ _ _ st h=>yF st h
section
variable {X:Cx} {tg:Expr}
def TX(K:W.Frag)(tl:TE):TI:=λσ H R=>tl σ H λx H1=>∃a,x=.ref a/\(∃xs,uF K H1 a xs)/\R (Xc K a) H1
def Yy(K:W.Frag)(tl:TE):TI:=λσ H R=>tl σ H λx H1=>∃a,x=.ref a/\(∃xs,fX K H1 a xs)/\R (Yx K a) H1
def uG{l:Expr}{tl:TE}(hl:PE X l tl):PI X tg l (TX X.K tl):=by
 intro af s σ H R I h;refine thn (hl af s σ H _ I h) λv s1 ⟨x,H1,I1,r1,q1⟩=>?_
 obtain⟨a,e,⟨xs,hq⟩,q⟩:=q1;subst e;cases r1;obtain⟨aA,rv,p,hz⟩:=I1.list hq;refine oJ p.isList ?_;refine⟨s1.heap.objs.size,[s1.heap.objs.size],_,_,H1,rfl,I1.kept λb o e=>aG _ e,CU a _,⟨_,bc _ rfl,rfl,rfl⟩,λb hb=>?_,q⟩
 have e:b=s1.heap.objs.size:=by grind
 subst e;exact I1.wa (az _) (I1.hok.fresh (az _))
def FK{l:Expr}{tl:TE}(hl:PE X l tl):PI X tg l (Yy X.K tl):=by
 intro af s σ H R I h;refine thn (hl af s σ H _ I h) λv s1 ⟨x,H1,I1,r1,q1⟩=>?_
 obtain⟨a,e,⟨xs,hq⟩,q⟩:=q1;subst e;cases r1;obtain⟨aA,rv,p,hz⟩:=I1.tuple hq;refine yQ (p) ?_;refine⟨s1.heap.objs.size,[s1.heap.objs.size],_,_,H1,rfl,I1.kept λb o e=>aG _ e,zm a _,⟨_,bc _ rfl,rfl,rfl⟩,λb hb=>?_,q⟩
 have e:b=s1.heap.objs.size:=by grind
 subst e;exact I1.wa (az _) (I1.hok.fresh (az _))
def wd{af:List (Addr×Obj)}{σ:St}{H:Hp}{s:Shared}{R:It->Hp->Prop}{E:Value->Shared->Prop}{lo hi:Int}{t u v:Tok}{tk:Nat}(I:Inv X af σ H s)(h1:-(2^62)<=lo)(h2:lo<2^62)(h3:-(2^62)<=hi)(h4:hi<2^62)
  (q:R (TV lo (hi-lo).toNat) H):wpAny (model X.prog X.w) X.A (pyIter (.ref s.heap.objs.size)) (PIE X af σ tg R) E {s with heap:=s.heap.push {cls:=.type "range",data:=.fields #[.int lo t,.int hi u,.int 1 v]},toks:=tk}:=by
 refine wpAny_pyIter_range (ux ..) (small_one h1 h2 h3 h4) ?_;have I1:Inv X af σ H {s with heap:=s.heap.push {cls:=.type "range",data:=.fields #[.int lo t,.int hi u,.int 1 v]},toks:=tk}:=I.kept λb o e=>aG _ e
 refine⟨(s.heap.push {cls:=.type "range",data:=.fields #[.int lo t,.int hi u,.int 1 v]}).objs.size,[(s.heap.push {cls:=.type "range",data:=.fields #[.int lo t,.int hi u,.int 1 v]}).objs.size],_,_,H,rfl,
  I1.kept λb o e=>aG _ e,zo _ lo (hi-lo).toNat,?_,λb hb=>?_,q⟩
 ·have e1:lo+(0:Nat)*1=lo:=by simp
  have e2:(((hi-lo).toNat:Nat):Int)-(0:Nat)=Builtin.Range.rangeSize lo hi 1:=by rw[rangeSize_one];split<;>lia
  rw[e1,e2];exact bc _ rfl
 ·have e:b=(s.heap.push {cls:=.type "range",data:=.fields #[.int lo t,.int hi u,.int 1 v]}).objs.size:=by grind
  subst e;exact I1.wa (az _) (I1.hok.fresh (az _))
def TY(ta:TA):TI:=λσ H R=>ta σ H λvs H1=>∃j:Int,vs=[.int j] /\ -(2^62)<=j/\j<2^62/\R (TV 0 j.toNat) H1
def TZ(ta:TA):TI:=λσ H R=>ta σ H λvs H1=>∃i j:Int,vs=[.int i,.int j]/\(-(2^62)<=i/\i<2^62 /\ -(2^62)<=j/\j<2^62)/\R (TV i (j-i).toNat) H1
def CV{a:Expr}{ta:TA}{p pos:Pos}(hg:Gl X "range")(hm:X.mg "range"=none)(ha:PA X [a] ta)(hs:starEach [a] X.env=[(false,eval a X.env)]:=by rfl):PI X tg (.Call (.Name "range" p) [a] [] pos) (TY ta):=by
 intro af s σ H R I h;refine Call_ (ld_blt I hg hm o8 (eW (thn (ha pos af s σ H _ I h) λus s1 ⟨vs,H1,I1,r1,q1⟩=>?_) hs rfl))
 obtain⟨j,e,q1,q2,q⟩:=q1;subst e;cases r1 with
 | cons r rr =>
  cases rr;obtain⟨t,rfl⟩:=r;exact call_range_1 (wd I1 (by lia) (by lia) q1 q2 (by grind))
def CW{a b:Expr}{ta:TA}{p pos:Pos}(hg:Gl X "range")(hm:X.mg "range"=none)(ha:PA X [a,b] ta)(hs:starEach [a,b] X.env=[(false,eval a X.env),(false,eval b X.env)]:=by rfl)(CY:starEach [b] X.env=[(false,eval b X.env)]:=by rfl) :
  PI X tg (.Call (.Name "range" p) [a,b] [] pos) (TZ ta):=by
 intro af s σ H R I h;refine Call_ (ld_blt I hg hm o8 (eW (thn (ha pos af s σ H _ I h) λus s1 ⟨vs,H1,I1,r1,q1⟩=>?_) (by grind) (by rw[CY];rfl)))
 obtain⟨i,j,e,⟨q1,q2,q3,q4⟩,q⟩:=q1;subst e;cases r1 with
 | cons r rr =>
  cases rr with
  | cons r' rr =>
   cases rr;obtain⟨t,rfl⟩:=r;obtain⟨t',rfl⟩:=r';exact call_range_2 (wd I1 q1 q2 q3 q4 q)
def Yz(wi:TI)(g:TG)(tb:TS):TS:=λD σ H=>wi σ H λJ H1=>∃W:Nat->Nat->St->Hp->Prop,(∃m,W 0 m σ H1)/\∀i m σ H,W i m σ H ->
 (J.stop i H/\D.nx σ H)\/(J.go i H/\∃N:St->Hp->Prop,(∀bj H',N bj H'->∃m',m'<m/\W (i+1) m' bj H')/\∀x H',J.yld i H x H'->g x σ H' λqR H2=>tb {D with nx:=N,ct:=N,bk:=D.nx} qR H2)
def pB(fp:List Addr)(h:Heap):List (Addr×Obj):=fp.filterMap λb=>(h.get? b).map λo=>(b,o)
def iB(hb:b∈fp)(e:h.get? b=some o):(b,o)∈pB fp h:=oI.mpr ⟨b,hb,by rw[e];rfl⟩
def CZ(hp:p∈pB fp h):p.1∈fp/\h.get? p.1=some p.2:=by
 obtain⟨b,hb,e⟩:=oI.mp hp;cases q:h.get? b with
 | none=>rw[q]at e;cases e
 | some o =>
  rw[q]at e;have e':=bB e;subst e';exact⟨hb,q⟩
def Inv.pinned{af:List (Addr×Obj)}{σ:St}{H:Hp}{s:Shared}{fp:List Addr}(I:Inv X af σ H s)(hf:∀b∈fp,pz X af H b)(ho:∀b∈fp,∃o,s.heap.get? b=some o/\∀v,o.data≠.cell v):Inv X (af++pB fp s.heap) σ H s :=
 I.k6 λp hp=>(fQ.mp hp).elim (λz=>I.pin p (eY _ z)) λz=>by
  obtain⟨hb,e⟩:=CZ z;obtain⟨f0,f1,f2,_⟩:=hf p.1 hb;obtain⟨o,e',d⟩:=ho p.1 hb;rw[e]at e';cases e';exact⟨e,f0,f1,f2,d⟩
def Inv.pC{af pl:List (Addr×Obj)}{σ:St}{H:Hp}{s:Shared}(I:Inv X (af++pl) σ H s):Inv X af σ H s:=I.k6 λp hp=>I.pin p (eY _ (oF _ hp))
def uH(hp:PassesOwn (model X.prog X.w) X.A X.env X.xe)(hc:X.calm=true)(hi:PI X tg iter wi)(hg:PG X tg g)(hb:PSs X body tb)
  (hs:∀x,foldedSetIterable iter X.env x=pure x:=by intro _;rfl):PS X (.For tg iter body [] pos) (Yz wi g tb):=by
 intro af s σ H D I h;refine wpAny_For (thn (hi af s σ H _ I h) λv s1 h1=>thn h1 λYw s2 h2=>?_) hs
 obtain⟨it,fp,tn,J,H2,e,I2,T,dG,f2,W,⟨m0,w0⟩,mR⟩:=h2;subst e;have zq:∀{H':Hp},(∀b∈fp,H' b=none)->∀b∈fp,pz X af H' b:=λhn b hb=>⟨hn b hb,(f2 b hb).2⟩
 refine codeAny_forLoop_any (λn s'=>∃i bj H',Inv X af bj H' s'/\tn i s'.heap/\(∀b∈fp,H' b=none)/\W i n bj H') ?_ m0 ⟨0,σ,H2,I2,dG,λb hb=>(f2 b hb).1,w0⟩
 rintro n s3 ⟨i,mn,H3,I3,Jh,fr3,w3⟩
 rcases mR i n mn H3 w3 with⟨stop,qn⟩ | ⟨go,N,hN,step⟩
 ·refine ki hp (thn (T.done X rfl rfl rfl hc i af s3 mn H3 X.xe I3 (zq fr3) Jh stop) λr s4 ⟨hr,I4⟩=>?_)
  subst hr;exact uj ⟨mn,H3,I4,qn⟩
 ·refine ki hp (thn (T.item X rfl rfl rfl hc i af s3 mn H3 X.xe I3 (zq fr3) Jh go) λr s4 ⟨u,hr,h4⟩=>?_)
  subst hr;refine ki hp (thn h4 λ_ s5 z9=>?_)
  obtain⟨x,H5,I5,r5,y5,Ox,YA⟩:=z9;have YB:=I5.pinned (zq YA) (T.obj _ _ Ox);refine ki hp (thn (hg _ s5 mn H5 x u _ YB r5 (step x H5 y5)) λ_ s6 ⟨Xd,H6,I6,q6⟩=>?_)
  refine ki hp (thn (hb _ s6 Xd H6 _ I6 q6) λf s7 q7=>?_)
  have again:∀{FL:St} {H7:Hp},Inv X (af++pB fp s5.heap) FL H7 s7->N FL H7->∃m,m<n/\∃i bj H',Inv X af bj H' s7/\tn i s7.heap/\(∀b∈fp,H' b=none)/\W i m bj H':=λ{FL H7} I7 n7=>by
   obtain⟨m',hm,w7⟩:=hN FL H7 n7;refine⟨m',hm,i+1,FL,H7,I7.pC,T.keep _ _ _ Ox λb hb o e=>(I7.pin (b,o) (eY _ (eY _ (iB hb e)))).1,λb hb=>?_,w7⟩
   obtain⟨o,e,d⟩:=T.obj _ _ Ox b hb;exact(I7.pin (b,o) (eY _ (eY _ (iB hb e)))).2.1
  cases f with
  | next=>obtain⟨FL,H7,I7,n7⟩:=q7;exact again I7 n7
  | cont=>obtain⟨FL,H7,I7,n7⟩:=q7;exact again I7 n7
  | brk=>obtain⟨FL,H7,I7,q7⟩:=q7;exact⟨FL,H7,I7.pC,q7⟩
  | ret v=>obtain⟨x7,FL,H7,I7,r7,q7⟩:=q7;exact⟨x7,FL,H7,I7.pC,r7,q7⟩
end
abbrev R2:=V->V->Hp->VK->Prop
def OpR(X:Cx)(f:Value->Value->Sem Value)(r:R2):Prop :=
 ∀(af:List (Addr×Obj)) (s:Shared) (σ:St) (H:Hp) (x y:V) (v u:Value) (Q:VK),Inv X af σ H s->RelV x v->RelV y u->r x y H Q ->
  wpAny (model X.prog X.w) X.A (f v u) (EP X af σ Q) X.xe s
def UnR(X:Cx)(f:Value->Sem Value)(r:V->Hp->VK->Prop):Prop :=
 ∀(af:List (Addr×Obj)) (s:Shared) (σ:St) (H:Hp) (x:V) (v:Value) (Q:VK),Inv X af σ H s->RelV x v->r x H Q ->
  wpAny (model X.prog X.w) X.A (f v) (EP X af σ Q) X.xe s
def k8(X:Cx)(f:Value)(r:List V->Hp->VK->Prop):Prop :=
 ∀(af:List (Addr×Obj)) (s:Shared) (σ:St) (H:Hp) (xs:List V) (us:List Value) (Q:VK),Inv X af σ H s->Vals xs us->r xs H Q ->
  wpAny (model X.prog X.w) X.A (call f us) (EP X af σ Q) X.xe s
def YC(X:Cx)(r:V->Hp->(Bool->Hp->Prop)->Prop):Prop :=
 ∀(af:List (Addr×Obj)) (s:Shared) (σ:St) (H:Hp) (x:V) (v:Value) (Q:Bool->Hp->Prop),Inv X af σ H s->RelV x v->r x H Q ->
  wpAny (model X.prog X.w) X.A (truthy v) (TP X af σ Q) X.xe s
def SD(r:R2)(ta tb:TE):TE:=λσ H Q=>ta σ H λx H1=>tb σ H1 λy H2=>r x y H2 Q
def tUn(r:V->Hp->VK->Prop)(ta:TE):TE:=λσ H Q=>ta σ H λx H1=>r x H1 Q
def rI(C:Int->Int->Prop)(g:Int->Int->V):R2:=λx y H Q=>∃i j,x=.int i/\y=.int j/\C i j/\Q (g i j) H
def Ji(g:Int->Int->V):R2:=λx y H Q=>∃i j,x=.int i/\y=.int j/\Q (g i j) H
def rU(g:Int->V):V->Hp->VK->Prop:=λx H Q=>∃i,x=.int i/\Q (g i) H
section
variable {X:Cx} {a b c:Expr} {ta tb tc:TE} {pos:Pos}
def JP(ha:PE X a ta)(hb:PE X b tb){af:List (Addr×Obj)}{s:Shared}{σ:St}{H:Hp}{R:V->V->Hp->Prop}(I:Inv X af σ H s)
  (h:ta σ H λx H1=>tb σ H1 λy H2=>R x y H2) {Q:Value->Shared->Prop} {f:Value->Value->Sem Value}
  (hf:∀v u s2 x y H2,Inv X af σ H2 s2->RelV x v->RelV y u->R x y H2->wpAny (model X.prog X.w) X.A (f v u) Q X.xe s2) :
  wpAny (model X.prog X.w) X.A (eval a X.env) (λv s₁=>wpAny (model X.prog X.w) X.A (eval b X.env) (λu CS=>wpAny (model X.prog X.w) X.A (f v u) Q X.xe CS) X.xe s₁) X.xe s:=by
 refine thn (ha af s σ H _ I h) λv s1 ⟨x,H1,I1,r1,q1⟩=>?_
 refine thn (hb af s1 σ H1 _ I1 q1) λu s2 ⟨y,H2,I2,r2,q2⟩=>?_
 exact hf v u s2 x y H2 I2 r1 r2 q2
def MV(ho:OpR X (binaryOp op) r)(ha:PE X a ta)(hb:PE X b tb):PE X (.BinOp a op b pos) (SD r ta tb):=by
 intro af s σ H Q I h;exact wpAny_BinOp (JP ha hb I h λv u s2 x y H2 I2 rx ry q=>ho af s2 σ H2 x y v u Q I2 rx ry q)
def T1{r:V->Hp->VK->Prop}(ho:UnR X (unaryOp op) r)(ha:PE X a ta):PE X (.UnaryOp op a pos) (tUn r ta):=by
 intro af s σ H Q I h;exact UnaryOp_ (thn (ha af s σ H _ I h) (by rintro v s1 ⟨x,H1,I1,r1,q1⟩;exact ho af s1 σ H1 x v Q I1 r1 q1))
def Xe{f:Value->Value->Sem Value}{C:Int->Int->Prop}{g:Int->Int->Int}
  (rule:∀(i j:Int) (t u:Tok) (s:Shared) (Q:Value->Shared->Prop) (E:Value->Shared->Prop),C i j->Q (.int (g i j) s.toks) {s with toks:=s.toks+1}->wpAny (model X.prog X.w) X.A (f (.int i t) (.int j u)) Q E s) :
  OpR X f (rI C λi j=>.int (g i j)):=by
 intro af s σ H x y v u Q I rx ry h;obtain⟨i,j,rfl,rfl,hc,q⟩:=h;obtain⟨t,rfl⟩:=rx;obtain⟨t',rfl⟩:=ry;exact rule i j t t' s _ _ hc ⟨.int (g i j),H,I.tok _,⟨_,rfl⟩,q⟩
def Oy{f:Value->Value->Sem Value}{g:Int->Int->Int}
  (rule:∀(i j:Int) (t u:Tok) (s:Shared) (Q:Value->Shared->Prop) (E:Value->Shared->Prop),Q (.int (g i j) s.toks) {s with toks:=s.toks+1}->wpAny (model X.prog X.w) X.A (f (.int i t) (.int j u)) Q E s) :
  OpR X f (Ji λi j=>.int (g i j)):=by
 intro af s σ H x y v u Q I rx ry h;obtain⟨i,j,rfl,rfl,q⟩:=h;obtain⟨t,rfl⟩:=rx;obtain⟨t',rfl⟩:=ry;exact rule i j t t' s _ _ ⟨.int (g i j),H,I.tok _,⟨_,rfl⟩,q⟩
def JQ{f:Value->Value->Sem Value}{g:Int->Int->Bool}
  (rule:∀(i j:Int) (t u:Tok) (s:Shared) (Q:Value->Shared->Prop) (E:Value->Shared->Prop),Q (.bool (g i j)) s->wpAny (model X.prog X.w) X.A (f (.int i t) (.int j u)) Q E s) :
  OpR X f (Ji λi j=>.bl (g i j)):=by
 intro af s σ H x y v u Q I rx ry h;obtain⟨i,j,rfl,rfl,q⟩:=h;obtain⟨t,rfl⟩:=rx;obtain⟨t',rfl⟩:=ry;exact rule i j t t' s _ _ ⟨.bl (g i j),H,I,rfl,q⟩
def YD(i j:Int):Prop:=0<j/\j<1073741824
def YE(i j:Int):Prop:=0<=j/\j<=1000000/\i.natAbs<2^64
def Oz(i j:Int):Prop:=(-(2^64)<i/\i<2^64)\/(-(2^64)<j/\j<2^64)
def Oz.ok(h:Oz i j):IntMulOk i j:=by
 rcases h with⟨h1,h2⟩ | ⟨h1,h2⟩
 ·exact .of_left (intBits_le_64 h1 h2)
 ·exact .of_right (intBits_le_64 h1 h2)
def OA:OpR X (binaryOp .Add) (Ji λi j=>.int (i+j)):=Oy λ_ _ _ _ _ _ _ q=>add_int q
def OB:OpR X (binaryOp .Sub) (Ji λi j=>.int (i-j)):=Oy λ_ _ _ _ _ _ _ q=>sub_int q
def OC:OpR X (binaryOp .Mult) (rI Oz λi j=>.int (i*j)):=Xe λ_ _ _ _ _ _ _ hc q=>mul_int q hc.ok
def JR:OpR X (binaryOp .FloorDiv) (rI YD λi j=>.int (i/j)):=Xe λi j _ _ _ _ _ hc q=>by
 have h1:=hc.1;have h2:=hc.2;exact floordiv_int (by lia) (by rw[Int.fdiv_eq_ediv_of_nonneg i (by lia)];exact q) (.inl (PyProof.noPylong_small (by lia)))
def OD:OpR X (binaryOp .Mod) (rI (λ_ j=>0<j) λi j=>.int (i%j)):=Xe λi j _ _ _ _ _ hc q=>by
 have h1:=hc;exact mod_int' (by lia) (by rw[Int.fmod_eq_emod_of_nonneg i (by lia)];exact q)
def OE:OpR X (binaryOp .Pow) (rI YE λi j=>.int (i^j.toNat)):=Xe λ_ _ _ _ _ _ _ hc q=>pow_int_small hc.1 hc.2.1 hc.2.2 q
def JS:OpR X (inplaceOp .Add) (Ji λi j=>.int (i+j)):=Oy λ_ _ _ _ _ _ _ q=>iadd_int q
def unI{f:Value->Sem Value}{g:Int->Int}
  (rule:∀(i:Int) (t:Tok) (s:Shared) (Q:Value->Shared->Prop) (E:Value->Shared->Prop),Q (.int (g i) s.toks) {s with toks:=s.toks+1}->wpAny (model X.prog X.w) X.A (f (.int i t)) Q E s) :
  UnR X f (rU λi=>.int (g i)):=by
 intro af s σ H x v Q I rx h;obtain⟨i,rfl,q⟩:=h;obtain⟨t,rfl⟩:=rx;exact rule i t s _ _ ⟨.int (g i),H,I.tok _,⟨_,rfl⟩,q⟩
def OF:UnR X (unaryOp .USub) (rU λi=>.int (-i)):=unI λ_ _ _ _ _ q=>neg_int q
end
section
variable {X:Cx} {a b c:Expr} {ta tb tc:TE} {pos:Pos}
def FN{af:List (Addr×Obj)}{σ:St}{H:Hp}{s:Shared}{Q:VK}{k k':Bool}(I:Inv X af σ H s)(q:Q (.bl k) H)(e:k=k'):EP X af σ Q (.bool k') s:=by
 subst e;exact⟨.bl k,H,I,rfl,q⟩
def T2:OpR X (compareOp .Lt) (Ji λi j=>.bl (decide (i<j))):=JQ λ_ _ _ _ _ _ _ q=>lt_int q
def T3:OpR X (compareOp .LtE) (Ji λi j=>.bl (decide (i<=j))):=JQ λ_ _ _ _ _ _ _ q=>le_int q
def T4:OpR X (compareOp .Gt) (Ji λi j=>.bl (decide (j<i))):=JQ λ_ _ _ _ _ _ _ q=>gt_int q
def T5:OpR X (compareOp .GtE) (Ji λi j=>.bl (decide (j<=i))):=JQ λ_ _ _ _ _ _ _ q=>ge_int q
def OG:OpR X (compareOp .Is) (λx y H Q=>y=.bL/\Q (.bl (decide (x=.bL))) H):=by
 intro af s σ H x y v u Q I rx ry h;obtain⟨rfl,q⟩:=h;cases ry;refine is_none_gen (FN I q ?_);cases x<;>first
  | (cases rx;rfl)
  | (obtain⟨t,rfl⟩:=rx;rfl)
def JT:OpR X (compareOp .IsNot) (λx y H Q=>y=.bL/\Q (.bl (!decide (x=.bL))) H):=by
 intro af s σ H x y v u Q I rx ry h;obtain⟨rfl,q⟩:=h;cases ry;refine isnot_none_gen (FN I q ?_);cases x<;>first
  | (cases rx;rfl)
  | (obtain⟨t,rfl⟩:=rx;rfl)
def JU(ho:OpR X (compareOp op) r)(ha:PE X a ta)(hb:PE X b tb)(hm:behindInMarks op b=false):PE X (.Compare a [op] [b] pos) (SD r ta tb):=by
 intro af s σ H Q I h;exact wpAny_Compare1 (JP ha hb I h λv u s2 x y H2 I2 rx ry q=>ho af s2 σ H2 x y v u Q I2 rx ry q) hm
def MW(t:TE):TT:=λσ H Q=>t σ H λx H'=>∃k,x=.bl k/\Q k H'
def JV(ho:OpR X (compareOp op) r)(ha:PE X a ta)(hb:PE X b tb)(hm:behindInMarks op b=false):PT X (.Compare a [op] [b] pos) (MW (SD r ta tb)):=by
 intro af s σ H Q I h;refine wpAny_isTrue_Compare1 (thn (ha af s σ H _ I h) λv s1 ⟨x,H1,I1,r1,q1⟩=>thn (hb af s1 σ H1 _ I1 q1) λu s2 ⟨y,H2,I2,r2,q2⟩ =>
  thn (ho af s2 σ H2 x y v u _ I2 r1 r2 q2) λc s3 ⟨z,H3,I3,r3,k,e,q3⟩=>?_) hm
 subst e;cases r3;exact i5 ⟨H3,I3,q3⟩
def zt(r r':R2)(ta tb tc:TE):TE:=λσ H Q=>ta σ H λx H1=>tb σ H1 λy H2=>r x y H2 λz H3=>∃k,z=.bl k /\
 (if k=true then tc σ H3 λw' H4=>r' y w' H4 Q else Q (.bl false) H3)
def FO(ho:OpR X (compareOp op) r)(kX:OpR X (compareOp vN) r')(ha:PE X a ta)(hb:PE X b tb)(hc:PE X c tc)
  (hm:lastMarks [op,vN] [b,c]=false:=by with_unfolding_all rfl):PE X (.Compare a [op,vN] [b,c] pos) (zt r r' ta tb tc):=by
 intro af s σ H Q I h;refine Compare_chain (thn (ha af s σ H _ I h) λv s1 ⟨x,H1,I1,r1,q1⟩=>chain_link (thn (hb af s1 σ H1 _ I1 q1) λu s2 ⟨y,H2,I2,r2,q2⟩ =>
  thn (ho af s2 σ H2 x y v u _ I2 r1 r2 q2) λd s3 ⟨z,H3,I3,r3,k,e,q3⟩=>?_)) hm
 subst e;cases r3;refine i5 ?_;cases k with
 | false=>exact ite_ff ⟨.bl false,H3,I3,rfl,q3⟩
 | true=>exact ite_tt (chain_last (thn (hc af s3 σ H3 _ I3 q3) (by rintro w' s4 ⟨z',H4,I4,r4,q4⟩;exact kX af s4 σ H4 y z' u w' Q I4 r2 r4 q4)))
def FP(ho:OpR X (compareOp op) r)(kX:OpR X (compareOp vN) r')(ha:PE X a ta)(hb:PE X b tb)(hc:PE X c tc)
  (hm:lastMarks [op,vN] [b,c]=false:=by with_unfolding_all rfl):PT X (.Compare a [op,vN] [b,c] pos) (MW (zt r r' ta tb tc)):=by
 intro af s σ H Q I h;refine isTrue_chain (thn (ha af s σ H _ I h) λv s1 ⟨x,H1,I1,r1,q1⟩=>test_link (thn (hb af s1 σ H1 _ I1 q1) λu s2 ⟨y,H2,I2,r2,q2⟩ =>
  thn (ho af s2 σ H2 x y v u _ I2 r1 r2 q2) λd s3 ⟨z,H3,I3,r3,k,e,q3⟩=>?_)) hm
 subst e;cases r3;refine i5 ?_;cases k with
 | false =>
  obtain⟨k',e',q'⟩:=q3;cases e';exact ite_ff ⟨H3,I3,q'⟩
 | true =>
  refine ite_tt (test_last (thn (hc af s3 σ H3 _ I3 q3) λw' s4 ⟨z',H4,I4,r4,q4⟩=>thn (kX af s4 σ H4 y z' u w' _ I4 r2 r4 q4) λd' s5 z9=>?_))
  obtain⟨z2,H5,I5,r5,k2,e2,q5⟩:=z9;subst e2;cases r5;exact i5 ⟨H5,I5,q5⟩
def JW(K:W.Frag)(x:V)(H:Hp)(k:Bool):Prop :=
 match x with
 | .bL=>k=false
 | .bl b=>k=b
 | .int i=>k=(i != 0)
 | .str y=>y.length<=sizeLine/\k=((y.length:Int) != 0)
 | .Sv y=>y.size<=sizeLine/\k=((y.size:Int) != 0)
 | .ref p=>(∃xs,uF K H p xs/\k = !xs.isEmpty)\/(∃xs,fX K H p xs/\k = !xs.isEmpty)\/∃kvs,H p=some (.dK kvs)/\k = !kvs.isEmpty
 | _=>False
def zu{κ:Type}{kvs:List (κ×V)}{vs:List (κ×Value)}(r:KV kvs vs):(!vs.isEmpty) = !kvs.isEmpty:=by
 cases r<;>rfl
def pE(r:Vals xs aA):(!aA.toArray.isEmpty) = !xs.isEmpty:=by
 cases r<;>simp
def kB:(sizeLine:Nat)<2^63:=by rw[jc];decide
def FQ:YC X (λx H Q=>∃k,JW X.K x H k/\Q k H):=by
 intro af s σ H x v Q I rx h;obtain⟨k,e,q⟩:=h;have hl:=kB;have hs:=jc;cases x with
 | bL =>
  cases rx;have e':=e;subst e';exact truthy_none ⟨H,I,q⟩
 | bl b =>
  cases rx;have e':=e;subst e';exact i5 ⟨H,I,q⟩
 | int i =>
  obtain⟨t,rfl⟩:=rx;have e':=e;subst e';exact PySem.P.truthy_int ⟨H,I,q⟩
 | str y =>
  obtain⟨t,rfl⟩:=rx;obtain⟨hy,e'⟩:y.length<=sizeLine/\k=((y.length:Int) != 0):=e;subst e';exact PySem.P.truthy_str (by lia) ⟨H,I.tok _,q⟩
 | Sv y =>
  obtain⟨t,rfl⟩:=rx;obtain⟨hy,e'⟩:y.size<=sizeLine/\k=((y.size:Int) != 0):=e;subst e';exact W.truthy_bytes (by lia) ⟨H,I.tok _,q⟩
 | ref p =>
  cases rx;have e':=e;rcases e' with⟨xs,hx,e'⟩ | ⟨xs,hx,e'⟩ | ⟨kvs,hx,e'⟩
  ·subst e';obtain⟨aA,r,pl,hz⟩:=I.list hx;have dY:=r.length;exact wpAny_truthy_list pl.isList (by grind) ⟨H,I.tok _,by rw[pE r];exact q⟩
  ·subst e';obtain⟨aA,r,pl,hz⟩:=I.tuple hx;have dY:=r.length;exact truthy_tuple pl (by grind) ⟨H,I.tok _,by rw[pE r];exact q⟩
  ·subst e';obtain⟨hz,hS,vs,r,m⟩:kvs.length<=sizeLine/\(p==sysModules)=false/\∃vs,KV kvs vs/\s.heap.DictOf (bE X.prog X.w) p vs:=I.hok p _ hx
   have dY:=mI r;exact wpAny_truthy_dict hS m (by lia) ⟨H,I.tok _,by rw[zu r];exact q⟩
 | _=>exact(e).elim
def FT(ha:PE X a ta)(he:∀iI,isTrue a X.env iI=(do let v <-iI;standAt a.pos;holding [v] (truthy v))) :
  PT X a (λσ H Q=>ta σ H λx H'=>∃k,JW X.K x H' k/\Q k H'):=by
 intro af s σ H Q I h;exact isTrue_plain (thn (ha af s σ H _ I h) (by rintro v s1 ⟨x,H1,I1,r1,q1⟩;exact FQ af s1 σ H1 x v Q I1 r1 q1)) (he _)
def zw:OpR X (binaryOp .Add) (λx y H Q=>∃i j,x=.str i/\y=.str j/\i.length+j.length<=sizeLine/\Q (.str (i++j)) H):=by
 intro af s σ H x y v u Q I rx ry h;obtain⟨i,j,rfl,rfl,hz,q⟩:=h;obtain⟨t,rfl⟩:=rx;obtain⟨t',rfl⟩:=ry;exact add_str (λt' tk=>⟨.str (i++j),H,I.tok _,⟨_,rfl⟩,q⟩) hz
def iJ(r:Vals [x] us):∃u,us=[u]/\RelV x u:=by
 cases r with
 | cons r1 r2=>cases r2;exact⟨_,rfl,r1⟩
def FU(r:Vals [x,y] us):∃u w',us=[u,w']/\RelV x u/\RelV y w':=by
 cases r with
 | cons r1 r2 =>
  cases r2 with
  | cons r3 r4=>cases r4;exact⟨_,_,rfl,r1,r3⟩
def rV:k8 X (.type "int") (λxs H Q=>(∃i,xs=[.int i]/\Q (.int i) H)\/∃k,xs=[.bl k]/\Q (.int (if k then 1 else 0)) H):=by
 intro af s σ H xs us Q I r h;rcases h with⟨i,rfl,q⟩ | ⟨k,rfl,q⟩
 ·obtain⟨u,rfl,t,rfl⟩:=iJ r;exact call_int_int ⟨.int i,H,I,⟨_,rfl⟩,q⟩
 ·obtain⟨u,rfl,r1⟩:=iJ r;cases r1;exact call_int_bool ⟨.int (if k then 1 else 0),H,I.tok _,⟨_,rfl⟩,q⟩
def uI:k8 X (.type "str") (λxs H Q=>∃i,xs=[.int i]/\i.natAbs.log2<1920/\Q (.str (toString i)) H):=by
 intro af s σ H xs us Q I r h;obtain⟨i,rfl,hz,q⟩:=h;obtain⟨u,rfl,t,rfl⟩:=iJ r;exact PySem.P.str_of_int hz ⟨.str _,H,I.tok _,⟨_,rfl⟩,q⟩
end
structure C4 (h:Heap) (x dx C:Addr) (mA:Str->Option Value):Prop where
 obj:h.get? x=some (W.instObj C dx)
 ns:h.Ns1 dx mA
 ne:dx≠x
def C5{h:Heap}{mA:Str->Option Value}(n:h.Ns1 dx mA):∃od,h.get? dx=some od/\∀name,W.lookIn name od=some (mA name):=by
 obtain⟨o,es,ep,ho,hd,hk,_,hm⟩:=n;refine⟨o,ho,λname=>?_⟩
 have e:=hm name;unfold nsFind findBy at e;rw[<-Array.find?_toList]at e;unfold W.lookIn;rw[hd];dsimp only
 split
 ·grind
 ·rename_i q;rw[q]at e;have a:es.toList.any (·.refKey)=false:=by
   rw[List.any_eq_false];intro y hy;obtain⟨z,t,OH⟩:=hk y (Array.mem_toList_iff.mp hy);simp[DictEntry.refKey,OH]
  have a':¬es.toList.any (·.refKey)=true:=by grind
  rw[if_neg a'];exact fV some e
def C4.JX(I:C4 h x dx C mA):∃od,W.InstAt h x (W.instObj C dx) C (some od)/\∀name,W.lookIn name od=some (mA name) :=
 let ⟨od,ho,hl⟩:=C5 I.ns
 ⟨od,⟨I.obj,rfl,rfl,ho⟩,hl⟩
section
variable {prog:Program} {w:World} {A:Around} {E:Value->Shared->Prop} {s:Shared} {K:W.Frag} {x dx C f:Addr} {mA:Str->Option Value} {name:Str} {v:Value}
def JY(X:K.In s.heap)(I:C4 s.heap x dx C mA)(hg:W.plainGet K C name=true)(hh:W.hasDictIn K C=true)
  (ha:W.findIn K (.ref C) name=some none) (hv:mA name=some v) (OI:W.handedIn v=true) (h:Q v {s with toks:=s.toks+1}) :
  wpAny (model prog w) A (getAttr (.ref x) name expr) Q E s:=by
 obtain⟨od,J,hl⟩:=I.JX;exact W.get_value X J (W.plainGet_of hg).1 (W.findObj_own hh ha rfl (by rw[hl,hv])) OI h
def JZ(X:K.In s.heap)(I:C4 s.heap x dx C mA)
  (hs:W.findIn K (.ref C) "__setattr__"=some (some (.builtin "object.__setattr__"))) (hp:W.plainOver K C=true) (ht:W.takerIn K C name=some none) (hh:W.hasDictIn K C=true)
  (hw:PySem.Within mA ns) (hsz:ns.length<=sizeLine)
  (h:∀h',C4 h' x dx C (λy=>if y=name then some v else mA y)->Heap.SameBut dx s.heap h'->Q () {s with heap:=h',toks:=s.toks+2}) :
  wpAny (model prog w) A (setAttr (.ref x) name v) Q E s:=by
 obtain⟨od,J,hl⟩:=I.JX;refine W.set_plain X J hs (W.osa_open X J hp ht λb=>?_)
 obtain⟨cd,hc,Jg⟩:=W.any_some hh;have hx:=I.obj;refine ae (ah (ae (ae (wpAny_loadPart hx (ae (W.Looks.here (W.looks_clsIn X hc) ?_))))));rw[Jg];refine ah (ae (ah (ae ?_)));refine wpAny_nsSet1 I.ns λh' SE CY=>?_
 obtain⟨oD,esD,epD,hoD,hdD,hcD⟩:=SE.count (PySem.Within.cons name v hw);refine ae (wpAny_lookBehind hoD (by rw[hdD];exact pastItsLine_dict (bh hcD (by grind))) ?_)
 exact ah (h _ ⟨(CY.2 _ (cx I.ne)).trans I.obj,SE,I.ne⟩ CY)
def FV(X:K.In s.heap)(hm:W.makesIn K C=true)
  (hi:W.findIn K (.ref C) "__init__"=some (some (.ref f))) (hf:W.typeIn K (.ref f)=some (.type "function"))
  (h:codeAny (model prog w) (A.under (.builtin "type.__call__" ⟨.ref C::vs,kw⟩)) (.call (.ref f) ⟨.ref (s.heap.objs.size+1)::vs,kw⟩) (W.InitBack (s.heap.objs.size+1) R)
   {s with heap:=(s.heap.push W.emptyDict).push (W.instObj C s.heap.objs.size)}) :
  codeAny (model prog w) A (.call (.ref C) ⟨vs,kw⟩) R s:=by
 obtain⟨hh,g,d,t,os⟩:=s;exact W.make_core (W.makes_of X hm) (W.looks_findIn X hi) (λself=>W.bind_fn X self hf) (.inl rfl) h
end
def gN(f:Str)(v:V):List (Str×V)->List (Str×V)
 | []=>[(f,v)]
 | (g,x)::r=>if g=f then(g,v)::r else(g,x)::gN f v r
theorem nq(f g:Str)(v:V):∀fs:List (Str×V),(gN f v fs).lookup g=if g=f then some v else fs.lookup g
 | []=>by
  show List.lookup g [(f,v)]=_;by_cases h:g=f
  ·grind
  ·grind
 | (k,x)::r=>by
  have ih:=nq f g v r;rw[show gN f v ((k,x)::r)=(if k=f then(k,v)::r else(k,x)::gN f v r)from rfl]
  by_cases hk:k=f
  ·grind
  ·grind
theorem mT(f:Str)(v:V):∀fs:List (Str×V),f∈(gN f v fs).map (·.1)/\∀g,g∈fs.map (·.1)->g∈(gN f v fs).map (·.1)
 | []=>⟨by simp[gN],λg h=>by simp at h⟩
 | (k,x)::r=>by
  obtain⟨i1,i2⟩:=mT f v r;rw[show gN f v ((k,x)::r)=(if k=f then(k,v)::r else(k,x)::gN f v r)from rfl]
  by_cases hk:k=f
  ·grind
  ·grind
theorem nt(f:Str)(v:V):∀fs:List (Str×V),(gN f v fs).length<=fs.length+1
 | []=>by simp[gN]
 | (k,x)::r=>by
  have ih:=nt f v r;rw[show gN f v ((k,x)::r)=(if k=f then(k,v)::r else(k,x)::gN f v r)from rfl]
  by_cases hk:k=f
  ·grind
  ·grind
def pf.J0(r:pf (some v) o):∃u,o=some u/\RelV v u:=by
 cases o with
 | none=>exact(r).elim
 | some u=>exact⟨u,rfl,r⟩
def C6(r:RelV v u):W.handedIn u=true:=by
 cases v with
 | bL=>cases(r);rfl
 | bl b=>cases(r);rfl
 | int i=>obtain⟨t,e⟩:=(r);cases e;rfl
 | str x=>obtain⟨t,e⟩:=(r);cases e;rfl
 | Sv b=>obtain⟨t,e⟩:=(r);cases e;rfl
 | W2 b=>obtain⟨t,e⟩:=(r);cases e;rfl
 | ref a=>cases(r);rfl
 | ty n=>cases(r);rfl
section
variable {P:Program} {w:World} {H H':Hp} {h h':Heap} {a C dx:Addr} {fs fs':List (Str×V)}
def Bc(hok:kA P w H h)(e:H a=some (.ins C dx fs)):∃mA,C4 h a dx C mA/\(∀f,pf (fs.lookup f) (mA f))/\PySem.Within mA (fs.map (·.1))/\fs.length<=1000/\H dx=some (.own a):=by
 obtain⟨d,z,ne,ob,mA,n,r,q⟩:=(hok a _ e);exact⟨mA,⟨ob,n,ne⟩,r,q,z,d⟩
end
def CF.get{K:W.Frag}{C:Addr}(c:CF K C)(f:Str):W.plainGet K C f=true:=c.pg
def iw.T6{K:W.Frag}{C:Addr}{f:Str}(n:iw K C f):W.takerIn K C f=some none:=by
 unfold W.takerIn;rw[show W.findIn K (.ref C) f=some none from n]
 rfl
section
variable {X:Cx} {af:List (Addr×Obj)} {σ:St} {H:Hp} {s:Shared} {a C dx:Addr} {fs:List (Str×V)} {f:Str} {v:V} {A:Around} {E:Value->Shared->Prop}
def zx(I:Inv X af σ H s)(e:H a=some (.ins C dx fs))(c:CF X.K C)(n:iw X.K C f)(l:fs.lookup f=some v)
  (h:∀u s',Inv X af σ H s'->RelV v u->Q u s'):wpAny (model X.prog X.w) A (getAttr (.ref a) f b) Q E s:=by
 obtain⟨mA,O,r,_,_,_⟩:=Bc I.hok e;obtain⟨u,hu,ru⟩:=pf.J0 (by rw[<-l];exact r f)
 exact JY I.n9 O (c.get f) c.hd n hu (C6 ru) (h u _ (I.tok _) ru)
def zy(I:Inv X af σ H s)(e:H a=some (.ins C dx fs))(c:CF X.K C)(n:iw X.K C f)(hl:fs.length<1000)(ry:RelV y u)
  (h:∀s',Inv X af σ (bM H a (.ins C dx (gN f y fs))) s'->Q () s'):wpAny (model X.prog X.w) A (setAttr (.ref a) f u) Q E s:=by
 obtain⟨mA,O,r,wi,_,ho⟩:=Bc I.hok e;have hz:(fs.map (·.1)).length<=sizeLine:=by rw[aJ,jc];lia
 refine JZ I.n9 O c.sa c.po n.T6 c.hd wi hz λh' O' sb=>h _ ?_
 have hd:∃o,h'.get? dx=some o:=let ⟨o,_,_,e',_⟩:=O'.ns;⟨o,e'⟩
 refine I.write (by rw[e];exact True.intro) (.inr ho) (λb q hb z=>(sb.2 b hb).trans z) hd ?_
 refine⟨by rw[aH O.ne];exact ho,?_,O.ne,O'.obj,_,O'.ns,λg=>?_,λg hg=>?_⟩
 ·have:=nt f y fs;lia
 ·rw[nq];by_cases q:g=f
  ·rw[if_pos q,if_pos q];exact ry
  ·rw[if_neg q,if_neg q];exact r g
 ·by_cases q:g=f
  ·rw[q];exact(mT f y fs).1
  ·refine(mT f y fs).2 g (wi g λz=>hg ?_)
   show(if g=f then some u else mA g)=none
   rw[if_neg q];exact z
def Inv.made(I:Inv X af σ H s):Inv X af σ (bM (bM H s.heap.objs.size (.own (s.heap.objs.size+1))) (s.heap.objs.size+1) (.ins C s.heap.objs.size []))
  {s with heap:=(s.heap.push W.emptyDict).push (W.instObj C s.heap.objs.size)}:=by
 have e1:(s.heap.push W.emptyDict).get? s.heap.objs.size=some W.emptyDict:=bc s.heap rfl;have e2:((s.heap.push W.emptyDict).push (W.instObj C s.heap.objs.size)).get? (s.heap.objs.size+1)=some (W.instObj C s.heap.objs.size):=by
  have:=bc (s.heap.push W.emptyDict) (o:=W.instObj C s.heap.objs.size) rfl
  rwa [eJ]at this
 have e3:(s.heap.push W.emptyDict).Ns s.heap.objs.size (λ_=>none):=⟨W.emptyDict,#[],_,e1,rfl,(λe he=>absurd he (by simp)),λ_=>rfl⟩
 have I1:=I.laid (o:=.own (s.heap.objs.size+1)) (t':=s.toks) (λb u q=>aG _ q) (az _) ⟨_,e1⟩
 refine I1.laid (t':=s.toks) (λb u q=>aG _ q) (gF (eJ _ _)) ?_
 have ne:s.heap.objs.size≠s.heap.objs.size+1:=by grind
 refine⟨by rw[aH ne,aq],eL _,ne,e2,λ_=>none,(Heap.Ns1.of_empty e3).at λo q=>aG _ q,λ_=>True.intro,λy hy=>absurd rfl hy⟩
def J1(hb:attributeBase e f env (eval e env)=eval e env)
  (h:wpAny (model prog w) A (eval e env) (λo s₁=>wpAny (model prog w) A (getAttr o f true) Q E s₁) E s):wpAny (model prog w) A (eval (.Attribute e f pos) env) Q E s :=
 Attribute_any_ h (by rw[arm_eval_Attribute,hb])
end
def YF(K:W.Frag)(ta:TE)(f:Str):TE:=λσ H Q=>ta σ H λx H1=>∃a C dx fs v,x=.ref a/\H1 a=some (.ins C dx fs)/\CF K C/\iw K C f/\fs.lookup f=some v/\Q v H1
def YG(K:W.Frag)(ta tv:TE)(f:Str):TS:=λD σ H=>tv σ H λy H1=>ta σ H1 λx H2=>∃a C dx fs,x=.ref a/\H2 a=some (.ins C dx fs)/\CF K C/\iw K C f/\fs.length<1000 /\
 D.nx σ (bM H2 a (.ins C dx (gN f y fs)))
section
variable {X:Cx} {o e value:Expr} {f:Str} {pos qX OJ:Pos} {ta tv:TE}
def OK(he:PE X e ta)(hb:attributeBase e f X.env (eval e X.env)=eval e X.env):PE X (.Attribute e f pos) (YF X.K ta f):=by
 intro af s σ H Q I h;refine J1 hb (thn (he af s σ H _ I h) λu s1 z9=>?_)
 obtain⟨x,H1,I1,rx,a,C,dx,fs,v,ex,ea,c,n,l,q⟩:=z9;subst ex;obtain rfl:u=Value.ref a:=rx;exact zx I1 ea c n l λu' s2 I2 ru=>⟨v,H1,I2,ru,q⟩
def OL(ha:PE X o ta)(hv:PE X value tv)(hs:swapsWith value (some (.Attribute o f qX)) pos.line X.env=pure false):PS X (.Assign [.Attribute o f qX] value pos) (YG X.K ta tv f):=by
 intro af s σ H D I h;refine plainObj_wpAny_Assign_Attribute (thn (hv af s σ H _ I h) λu s1 ⟨y,H1,I1,ry,q⟩=>thn (ha af s1 σ H1 _ I1 q) λov s2 z9=>?_) hs
 obtain⟨x,H2,I2,rx,a,C,dx,fs,ex,ea,c,n,l,q2⟩:=z9;subst ex;obtain rfl:ov=Value.ref a:=rx;exact zy I2 ea c n l ry λs3 I3=>⟨σ,_,I3,q2⟩
end
structure dq (k:Nat) (A:Around):Prop where
 hd:A.handled=none
 dp:A.depth+3*k+5<recursionLimit
 un:A.units+16*k+1200<cLine
def dq.mono(r:dq k A)(h:j<=k):dq j A:=⟨r.hd,by have:=r.dp;lia,by have:=r.un;lia⟩
def dq.deeper(r:dq (k+1) A)(env:Env):dq k (A.deeper env) :=
 ⟨r.hd,by have:=r.dp;show A.depth+1+3*k+5<_;lia,by have:=r.un;show A.units+3+16*k+1200<_;lia⟩
def zA{A:Around}:(A.under (.builtin "type.__call__" ⟨.ref C::us,kw⟩)).depth=A.depth+1:=by
 first | rfl | simp[Around.under,Code.weight,Code.isCreation,Code.isGuard,Code.isCaller,Code.frames,Code.isFrame,guardIds]
def zB{A:Around}:(A.under (.builtin "type.__call__" ⟨.ref C::us,kw⟩)).units=A.units+1:=by
 first | rfl | simp[Around.under,Code.cUnits,Code.frames,Code.isFrame]
def dq.make(r:dq (k+1) A)(C:Addr)(us:List Value)(kw:List (Str×Value)):dq k (A.under (.builtin "type.__call__" ⟨.ref C::us,kw⟩)) :=
 ⟨r.hd,by have:=r.dp;rw[zA];lia,by have:=r.un;rw[zB];lia⟩
def dq.depth(r:dq k A):A.depth<recursionLimit:=by have:=r.dp;lia
def YH:TA:=λ_ H Q=>Q [] H
def T7(ta:TE)(tr:TA):TA:=λσ H Q=>ta σ H λx H1=>tr σ H1 λxs H2=>Q (x::xs) H2
section
variable {X:Cx} {e:Expr} {es:List Expr} {te:TE} {t:TA} {pos:Pos}
def pF:PA X [] YH:=λ_ _ _ _ H Q I h=>Calls.spliced_nil ⟨[],H,I,.nil,h⟩
def gp(ha:PE X e te)(hr:PA X es t)(hs:starEach (e::es) X.env=(false,eval e X.env)::starEach es X.env:=by rfl):PA X (e::es) (T7 te t):=by
 intro pos af s σ H Q I h;rw[hs];refine Calls.spliced_cons (thn (ha af s σ H _ I h) λu s1 ⟨x,H1,I1,r1,q1⟩=>?_)
 exact thn (hr pos af s1 σ H1 _ I1 q1) (by rintro us s2 ⟨xs,H2,I2,r2,q2⟩;exact⟨x::xs,H2,I2,.cons r1 r2,q2⟩)
def YI(t:TA):TE:=λσ H Q=>t σ H λxs H1=>xs.length<=sizeLine/\∀p,H1 p=none->Q (.ref p) (bM H1 p (.aw xs))
def YJ(t:TA):TE:=λσ H Q=>t σ H λxs H1=>xs.length<=sizeLine/\∀p,H1 p=none->Q (.ref p) (bM H1 p (.lst xs))
def OM{x1}(h:PA X es t):PE X (.Tuple es x1 pos) (YI t):=by
 intro af s σ H Q I hq;refine wpAny_Tuple_spliced (thn (h pos af s σ H _ I hq) λus s1 ⟨xs,H1,I1,r,z,q⟩=>⟨by rw[<-r.length];exact z,?_⟩)
 have hf:=I1.hok.fresh (az _);refine⟨.ref s1.heap.objs.size,bM H1 s1.heap.objs.size (.aw xs),I1.laid (λb u e=>aG _ e) (az _) ?_,rfl,q _ hf⟩
 exact⟨z,us,r,⟨_,bc _ rfl,rfl,_,rfl⟩⟩
def FW(h:PA X es t):PE X (.List es pos) (YJ t):=by
 intro af s σ H Q I hq;refine wpAny_List_spliced (thn (h pos af s σ H _ I hq) λus s1 ⟨xs,H1,I1,r,z,q⟩=>⟨by rw[<-r.length];exact z,?_⟩)
 have hf:=I1.hok.fresh (az _);refine⟨.ref s1.heap.objs.size,bM H1 s1.heap.objs.size (.lst xs),I1.laid (λb u e=>aG _ e) (az _) ?_,rfl,q _ hf⟩
 exact⟨z,us,0,r,bc _ rfl⟩
end
abbrev Sp:=List V->Hp->VK->XK->Prop
abbrev EG:=List Env->Hp->Shared->XK->Value->Shared->Prop
structure Env0 (P:Program) (w:World) (K:W.Frag) (mg:Str->Option Value) (base:Heap) (A:Around) (ay:List Env) (s:Shared) (H:Hp):Prop where
 frames:A.frames=some ay
 mod:Mod K mg base
 bs:∀b o,base.get? b=some o->s.heap.get? b=some o/\H b=none
 bsz:base.objs.size<=s.heap.objs.size
 funs:s.heap.FunFrames base ay
 frf:∀b∈mP ay,H b=none
 hok:kA P w H s.heap
 bare:AllBare s.gens
 tabs:ph K H
def CE(ay:List Env)(P:Program)(w:World)(H:Hp)(s:Shared)(Q:VK)(u:Value)(s':Shared):Prop :=
 ∃v H',s'.os=s.os/\AllBare s'.gens/\Un (mP ay) [] H H' s.heap s'.heap/\kA P w H' s'.heap/\RelV v u/\Q v H'
def CR(CX:EG)(ay:List Env)(P:Program)(w:World)(H:Hp)(s:Shared)(Q:VK)(E:XK)(r:Result)(s':Shared):Prop :=
 match r with
 | .ok (.ret u)=>CE ay P w H s Q u s'
 | .ok _=>False
 | .error e=>CX ay H s E e s'
structure FnOk (P:Program) (w:World) (K:W.Frag) (mg:Str->Option Value) (base:Heap) (CX:EG) (k:Nat) (f:Addr) (fd:FuncData) (ps:List Str) (sp:Sp):Prop where
 len:∀vs H Q E,sp vs H Q E->vs.length=ps.length
 run:∀(A:Around) (ay:List Env) (s:Shared) (H:Hp) (args:Args) (us:List Value) (vs:List V) (Q:VK) (E:XK),dq k A->Env0 P w K mg base A ay s H->BindsTo s fd args (ps.zip us)->Vals vs us->sp vs H Q E ->
  codeAny (model P w) A (.call (.ref f) args) (CR CX ay P w H s Q E) s
def Env0.make{P:Program}{w:World}{K:W.Frag}{mg:Str->Option Value}{base:Heap}{A:Around}{ay:List Env}{s:Shared}{H:Hp}(e:Env0 P w K mg base A ay s H)(C:Addr)(us:List Value)(kw:List (Str×Value)) :
  Env0 P w K mg base (A.under (.builtin "type.__call__" ⟨.ref C::us,kw⟩)) ay s H:=⟨by first | exact e.frames | (simpa[Around.under,Code.envs,Code.isFrame,pushEnvs]using e.frames),e.mod,e.bs,e.bsz,e.funs,e.frf,e.hok,e.bare,e.tabs⟩
section
variable {X:Cx} {af:List (Addr×Obj)} {σ:St} {H:Hp} {s s':Shared}
def Inv.J2(I:Inv X af σ H s):Env0 X.prog X.w X.K X.mg X.base X.A X.stack s H :=
 ⟨I.ok.frames,I.ok.mod,I.bs,bh I.ok.bsz I.sz,I.stack,I.uD,I.hok,I.bare,I.tabs⟩
def Inv.after(I:Inv X af σ H s)(h:CE X.stack X.prog X.w H s Q u s'):EP X af σ Q u s':=by
 obtain⟨v,H',os,bare,un,hok,r,q⟩:=h;obtain⟨hh,g,d,t,ON⟩:=s';obtain rfl:ON=s.os:=os;exact⟨v,H',I.call un hok bare (λb z=>absurd z (by simp)),r,q⟩
end
def MX(C:Addr)(sp:Sp)(MO:List V)(E:XK)(t:TA):TE:=λσ H Q=>t σ H λvs H1=>∀x dx,H1 x=none->H1 dx=none->dx≠x ->
 sp (.ref x::(vs++MO)) (bM (bM H1 dx (.own x)) x (.ins C dx [])) (λv H2=>v=.bL/\Q (.ref x) H2) E
def fJ(K:W.Frag)(fd:FuncData)(ps:List Str)(ds:List Value):Prop :=
 ∀(s:Shared) (us:List Value),K.In s.heap->(us++ds).length=ps.length->BindsTo s fd ⟨us,[]⟩ (ps.zip (us++ds))
def fJ.all{K:W.Frag}{fd:FuncData}{ps:List Str}(h:∀us:List Value,us.length=ps.length->bindArgs fd ⟨us,[]⟩=pure (ps.zip us)):fJ K fd ps []:=λs us _ hl=>by
 rw[fg]at hl ⊢;exact .of_eq (h us hl)
def zD(CX:EG)(X:Cx)(E:XK):Prop:=∀(af:List (Addr×Obj)) (σ:St) (H:Hp) (s:Shared) (e:Value) (s':Shared),Inv X af σ H s->CX X.stack H s E e s'->X.xe e s'
section
variable {X:Cx} {CX:EG} {k:Nat} {f C:Addr} {fd:FuncData} {ps:List Str} {sp:Sp} {MO:List V} {ds:List Value} {E:XK} {x m:Str} {p pos kZ:Pos} {e o:Expr} {es:List Expr} {ta:TE} {t:TA}
def FX{af:List (Addr×Obj)}{σ:St}{H:Hp}{s:Shared}{Q:VK}{us:List Value}{vs:List V}(M:Mk X.K C f)(F:FnOk X.prog X.w X.K X.mg X.base CX k f fd ps sp)(hr:dq (k+1) X.A)(hb:fJ X.K fd ps ds)(hd:Vals MO ds)
  (hx:zD CX X E) (I:Inv X af σ H s) (r:Vals vs us)
  (h:∀x dx,H x=none->H dx=none->dx≠x->sp (.ref x::(vs++MO)) (bM (bM H dx (.own x)) x (.ins C dx [])) (λv H2=>v=.bL/\Q (.ref x) H2) E) :
  wpAny (model X.prog X.w) X.A (call (.ref C) us) (EP X af σ Q) X.xe s:=by
 have hq:=h (s.heap.objs.size+1) s.heap.objs.size (I.hok.fresh (Nat.le_succ _)) (I.hok.fresh (az _)) (aR (mE _));have I2:=Inv.made (C:=C) I;have r2:Vals (V.ref (s.heap.objs.size+1)::(vs++MO)) (Value.ref (s.heap.objs.size+1)::(us++ds)):=.cons rfl (r.append hd);have hl:(Value.ref (s.heap.objs.size+1)::us++ds).length=ps.length:=by
  have e:=r2.length;rw[F.len _ _ _ _ hq]at e;exact e.symm
 refine o9 (FV I.n9 M.makes M.init (beq_iff_eq.mp M.fn) (jb (F.run _ X.stack _ _ ⟨Value.ref (s.heap.objs.size+1)::us,[]⟩ (Value.ref (s.heap.objs.size+1)::(us++ds)) _ _ E (hr.make C us [])
  (I2.J2.make C us []) (hb _ (Value.ref (s.heap.objs.size+1)::us) I2.n9 hl) r2 hq) λr s' FY=>?_))
 cases r with
 | error e=>exact hx af σ _ _ e s' I2 FY
 | ok fl =>
  cases fl with
  | ret u =>
   obtain⟨v,H',I3,rv,ev,q3⟩:=I2.after FY;subst ev;exact⟨rv,⟨V.ref (s.heap.objs.size+1),H',I3,rfl,q3⟩⟩
  | next=>exact False.elim FY
  | brk=>exact False.elim FY
  | cont=>exact False.elim FY
def J3(M:Mk X.K C f)(F:FnOk X.prog X.w X.K X.mg X.base CX k f fd ps sp)(hr:dq (k+1) X.A)(hg:Gl X x)(hm:X.mg x=some (.ref C))(hb:fJ X.K fd ps ds)(hd:Vals MO ds)(hx:zD CX X E)
  (ha:PA X (e::es) t) (FZ:(x==("__debug__":Str))=false:=by decide) (he:starEach (e::es) X.env=(false,eval e X.env)::starEach es X.env:=by rfl) (jL:(backTo pos (starEach es X.env)).any (·.1)=false:=by rfl) :
  PE X (.Call (.Name x p) (e::es) [] pos) (MX C sp MO E t):=by
 intro af s σ H Q I h;refine fP (ld_glob I hg hm ?_ FZ);refine W.callWith_K I.ok.mod.kin M.kp (thn (ha pos af s σ H _ I h) λus s1 ⟨vs,H1,I1,r,q⟩=>⟨I1.n9,?_⟩) he jL
 exact FX M F hr hb hd hx I1 r q
end
theorem rW{kindOf:Str->Option NameKind}:∀{we:List (Str×Value)} {m:Str->Option Value},(∀v,(x,v)∉we)->bindL kindOf we m x=m x
 | [],_,_=>rfl
 | (n,v)::r,m,h=>by
  unfold bindL;rw[rW λw hw=>h w (bF _ hw)]
  split
  ·grind
  ·rfl
theorem rX{kindOf:Str->Option NameKind}:∀{we:List (Str×Value)} {m:Str->Option Value},(∀v,(x,v)∉we)->bindC kindOf we m x=m x
 | [],_,_=>rfl
 | (n,v)::r,m,h=>by
  unfold bindC;rw[rX λw hw=>h w (bF _ hw)]
  split
  ·rfl
  ·grind
theorem rY{kindOf:Str->Option NameKind}:∀{P:List Str} {vs:List Value} {i:Nat} {m:Str->Option Value},P.Nodup->P[i]?=some x->vs[i]?=some v->kindOf x=some .local ->
  bindL kindOf (P.zip vs) m x=some v
 | [],_,_,_,_,h,_,_=>by simp at h
 | _::_,[],_,_,_,_,h,_=>by simp at h
 | p::P,w::vs,0,m,nd,h1,h2,hk=>by
  simp at h1 h2;subst h1;subst h2;show bindL kindOf ((p,w)::P.zip vs) m p=_;unfold bindL;rw[rW λv hv=>(kh.mp nd).1 (ui hv).1,if_pos hk]
  simp
 | p::P,w::vs,i+1,m,nd,h1,h2,hk=>by
  unfold bindL;exact rY (kh.mp nd).2 (by simpa using h1) (by grind) hk
theorem rZ{kindOf:Str->Option NameKind}:∀{P:List Str} {vs:List Value} {i:Nat} {m:Str->Option Value},P.Nodup->P[i]?=some x->vs[i]?=some v->kindOf x≠some .local ->
  bindC kindOf (P.zip vs) m x=some v
 | [],_,_,_,_,h,_,_=>by simp at h
 | _::_,[],_,_,_,_,h,_=>by simp at h
 | p::P,w::vs,0,m,nd,h1,h2,hk=>by
  simp at h1 h2;subst h1;subst h2;show bindC kindOf ((p,w)::P.zip vs) m p=_;unfold bindC;rw[rX λv hv=>(kh.mp nd).1 (ui hv).1,if_neg hk]
  simp
 | p::P,w::vs,i+1,m,nd,h1,h2,hk=>by
  unfold bindC;exact rZ (kh.mp nd).2 (by simpa using h1) (by grind) hk
def start(N:List Str)(vs:List V):St:=vs.map some++List.replicate (N.length-vs.length) none
def ek(CX:EG)(P:Program)(w:World)(K:W.Frag)(mg:Str->Option Value)(base:Heap)(N:List Str)(qual:Str)(scope:Scope)(f:Addr)(cd:Value)(A:Around)(ay:List Env)(s:Shared)(H:Hp)(E:XK):Cx where
 prog:=P
 w:=w
 K:=K
 mg:=mg
 base:=base
 A:=A.deeper (envOfC qual scope s.heap.objs.size f cd)
 N:=N
 s₀:=s
 aa:=H
 env:=envOfC qual scope s.heap.objs.size f cd
 ay:=ay
 stack:=envOfC qual scope s.heap.objs.size f cd::ay
 ex:=[]
 calm:=true
 fn:=λ_=>true
 pn:=[]
 xe:=λe s'=>wpAny (model P w) (A.deeper (envOfC qual scope s.heap.objs.size f cd)) (leaving (envOfC qual scope s.heap.objs.size f cd) e) (λ_ F6=>CX ay H s E e F6) (λe' F6=>CX ay H s E e' F6) s'
def wj{sc:Scope}(h:sc.names.lookup x=some .cell):∃c,(cellsFrom n sc.names []).lookup x=some c:=by
 have q:=W.cellsFrom_some sc.names n [] (.inl h);exact Option.isSome_iff_exists.mp q
def r0{CX:EG}{P:Program}{w:World}{K:W.Frag}{mg:Str->Option Value}{base:Heap}{N ps:List Str}{qual:Str}{scope:Scope}{f:Addr}{cd:Value}{A:Around}{ay:List Env}{s s1:Shared}{H:Hp}{E:XK}{us:List Value}{vs:List V}
  (S:dj N ps scope) (hd:A.handled=none) (e0:Env0 P w K mg base A ay s H) (hl:vs.length=ps.length) (r:Vals vs us)
  (x:InCallC s s.heap.objs.size (bindL (envOfC qual scope s.heap.objs.size f cd).kindOf (ps.zip us) λ_=>none) (cellsFrom (s.heap.objs.size+1) scope.names []) (bindC (envOfC qual scope s.heap.objs.size f cd).kindOf (ps.zip us) λ_=>none) s1) :
  Inv (ek CX P w K mg base N qual scope f cd A ay s H E) [] (start N vs) H s1:=by
 have jL:ps.length<=N.length:=by have:=fV List.length S.pre;rw[oT]at this;lia
 obtain⟨h1,tk,rfl,hk⟩:=x.done;have noA:∀b:Addr,b∉(ek CX P w K mg base N qual scope f cd A ay s H E).ex:=λb z=>absurd (show b∈([]:List Addr)from z) (by simp)
 refine⟨⟨e0.mod,S.kind,rfl,rfl,az _,λy z c h1 h2=>?_,λy hy=>?_,λy c _ h=>?_,λ_=>hd,Around.frames_deeper e0.frames,.inr ⟨rfl,rfl⟩,λb z=>absurd z (noA b),e0.bs,e0.bsz,λb _ _=>noA b,λb z=>absurd z (noA b),e0.funs,e0.frf,e0.tabs⟩,
  rfl,e0.bare,Un.kept hk,⟨_,x.toInCall.ns,λi y v h1 h2 h3=>?_⟩,λy c h=>⟨_,x.cell y c h⟩,e0.hok.fresh (az _),λy c h=>?_,λp hp=>absurd (show p∈([]:List (Addr×Obj))from hp) (by simp),e0.hok.kept hk,?_⟩
 ·exact name_of_addr x.apart (dQ h1) (dQ h2)
 ·have hy:=hy;rcases hy with hy | hy
  ·exact wj hy
  ·exact absurd rfl (S.nofree _ (dQ hy))
 ·exact iq (x.above y c (dQ h))
 ·have hi:i<vs.length:=by
   unfold start at h2;by_cases hi:i<vs.length
   ·exact hi
   ·grind
  have ha:vs[i]?=some v:=by
   unfold start at h2;rw[j3 (by grind),bK]at h2
   cases e:vs[i]? with
   | none=>rw[e]at h2;cases h2
   | some a=>rw[e]at h2;cases h2;rfl
  obtain⟨u,hu,rv⟩:=r.get ha;have hp:ps[i]?=some y:=by
   rw[<-S.pre,List.getElem?_take_of_lt (by lia)];exact h1
  have ndP:ps.Nodup:=by rw[<-S.pre];exact S.nd.sublist (List.take_sublist _ _)
  refine⟨u,rv,?_⟩;rcases S.par y (fO hp)with k | k
  ·exact .inl ⟨k,rY ndP hp hu k⟩
  ·obtain⟨c,e⟩:=wj k;refine .inr ⟨.inl k,c,e,?_⟩;have q:=x.cell y c e;rw[rZ ndP hp hu (by show scope.names.lookup y≠_;rw[k];decide)]at q
   exact q
 ·exact e0.hok.fresh (iq (x.above y c (dQ h)))
 ·unfold start;show _=N.length;rw[cq,aJ,List.length_replicate]
  lia
def T8{CX:EG}{P:Program}{w:World}{K:W.Frag}{mg:Str->Option Value}{base:Heap}{k:Nat}{f:Addr}{name qual:Str}{pq9:Arguments}{body:List Stmt}{scope:Scope}{dV kV doc pm cC ct oc:Value}{an od:Option Addr}
  {rM:Array (Option Value)} {N ps:List Str} {sp:Sp} (lk:K.lookup f=some ⟨oc,od,.func (W.fnOf name qual pq9 body scope dV kV doc pm an cC ct),rM⟩) (yl:W.codeIn K cC qual=true) (S:dj N ps scope)
  (len:∀vs H Q E,sp vs H Q E->vs.length=ps.length)
  (hbody:∀(A:Around) (ay:List Env) (s:Shared) (H:Hp) (vs:List V) (Q:VK) (E:XK),dq k (A.deeper (envOfC qual scope s.heap.objs.size f cC))->sp vs H Q E ->
   ∃t,PSs (ek CX P w K mg base N qual scope f cC A ay s H E) body t/\t {nx:=λ_ H'=>Q .bL H',rt:=Q} (start N vs) H) :
  FnOk P w K mg base CX (k+1) f (W.fnOf name qual pq9 body scope dV kV doc pm an cC ct) ps sp:=by
 refine⟨len,λA ay s H args us vs Q E hr e0 hb r SF=>?_⟩
 have hl:=len _ _ _ _ SF;have KX:=e0.mod.kin.keeps λb o e=>(e0.bs b o e).1
 have YK:=e0.mod.nolimit.keeps λb o e=>(e0.bs b o e).1
 have T9:∀y∈ps.zip us,scope.names.lookup y.1=some .local\/(scope.names.lookup y.1=some .cell/\((cellsFrom (s.heap.objs.size+1) scope.names []).lookup y.1).isSome=true):=by
  rintro⟨n,v⟩ hy
  rcases S.par n (ui hy).1 with q | q
  ·grind
  ·exact .inr ⟨q,W.cellsFrom_some _ _ _ (.inl q)⟩
 refine codeAny_call_function hr.depth (KX _ _ lk) rfl S.co S.gen rfl (W.codeRec_of KX yl) (hb _ _ _ _ ?_);refine EZ S.kind T9 λenv he s1 x=>?_
 subst he;refine⟨YK.keeps x.toInCall.keep,codeAny_func ?_⟩;obtain⟨t,ht,hq⟩:=hbody A ay s H vs Q E (hr.deeper _) SF;have I:Inv (ek CX P w K mg base N qual scope f cC A ay s H E) [] (start N vs) H s1:=r0 S hr.hd e0 hl r x;refine ir (ht [] s1 (start N vs) H _ I hq) (λfl s' hs=>?_) λe s' hs=>hs
 have gh:∀{bj:St} {H':Hp} {v:V} {u:Value},Inv (ek CX P w K mg base N qual scope f cC A ay s H E) [] bj H' s'->RelV v u->Q v H'->CE ay P w H s Q u s' :=
  λ{bj H' v u} J rv q=>⟨v,H',J.os,J.bare,J.base,J.hok,rv,q⟩
 cases fl with
 | ret u =>
  obtain⟨v,bj,H',J,rv,q⟩:=hs;exact gh J rv q
 | next =>
  obtain⟨bj,H',J,q⟩:=hs;exact gh (v:=V.bL) J rfl q
 | brk =>
  obtain⟨_,_,_,q⟩:=hs;exact False.elim q
 | cont =>
  obtain⟨_,_,_,q⟩:=hs;exact False.elim q
section
variable {X:Cx} {x:Str} {p pos:Pos} {e:Expr} {es:List Expr} {t:TA} {id T:String} {r:List V->Hp->VK->Prop}
def YL(r:List V->Hp->VK->Prop)(t:TA):TE:=λσ H Q=>t σ H λvs H1=>r vs H1 Q
def jd(hc:k8 X (.builtin id) r)(hg:Gl X x)(hm:X.mg x=none)(hv:bootBuiltins x=some (.builtin id))(ha:PA X (e::es) t)(hn:x≠"__name__":=by decide)(FZ:(x==("__debug__":Str))=false:=by decide)
  (he:starEach (e::es) X.env=(false,eval e X.env)::starEach es X.env:=by rfl) (jL:(backTo pos (starEach es X.env)).any (·.1)=false:=by rfl):PE X (.Call (.Name x p) (e::es) [] pos) (YL r t):=by
 intro af s σ H Q I h;refine fP (ld_blt I hg hm hv ?_ hn FZ);exact yq (thn (ha pos af s σ H _ I h) (by rintro us s1 ⟨vs,H1,I1,r1,q1⟩;exact hc af s1 σ H1 vs us Q I1 r1 q1)) he jL
def mU(hc:k8 X (.type T) r)(hg:Gl X x)(hm:X.mg x=none)(hv:bootBuiltins x=some (.type T))(ha:PA X (e::es) t)(hn:x≠"__name__":=by decide)(FZ:(x==("__debug__":Str))=false:=by decide)
  (he:starEach (e::es) X.env=(false,eval e X.env)::starEach es X.env:=by rfl) (jL:(backTo pos (starEach es X.env)).any (·.1)=false:=by rfl):PE X (.Call (.Name x p) (e::es) [] pos) (YL r t):=by
 intro af s σ H Q I h;refine fP (ld_blt I hg hm hv ?_ hn FZ);exact eW (thn (ha pos af s σ H _ I h) (by rintro us s1 ⟨vs,H1,I1,r1,q1⟩;exact hc af s1 σ H1 vs us Q I1 r1 q1)) he jL
end
end L2
namespace HT
open PySem PyProof.Rows
section
variable {prog:Program} {w:World} {A:Around} {E:Value->Shared->Prop} {s:Shared}
def Be(ht:IsTup s.heap t vs.toArray)(hb:IsTup s.heap b ws.toArray)(hv:vs≠[])
  (h1:ws=[]->Q (.ref t) s) (h2:ws≠[]->Q (.ref s.heap.objs.size) {s with heap:=s.heap.push {cls:=.type "tuple",data:=.seq (vs++ws).toArray}})
  (hsz:vs.length+ws.length<=sizeLine):wpAny (model prog w) A (binaryOp .Add (.ref t) (.ref b)) Q E s:=by
 obtain⟨⟨cls,dd,data,sl⟩,ho,hc,n,hd⟩:=id ht;obtain⟨⟨YM,Xf,Ua,Xg⟩,OO,Ub,n2,Uc⟩:=id hb;simp only at hc hd Ub Uc;subst hc hd Ub Uc;have e:vs.toArray++ws.toArray=(vs++ws).toArray:=by simp
 by_cases hw:ws=[]
 ·exact concat_meets ⟨_,ho,rfl⟩ ⟨_,OO,rfl⟩ yW seq_tuple_add yE yC (yz _ _)
   (tuple_addW1 t b vs.toArray ws.toArray n n2 dd Xf sl Xg (by grind) (by simp[hw])) ⟨ho,OO,h1 hw⟩
 ·refine concat_meets ⟨_,ho,rfl⟩ ⟨_,OO,rfl⟩ yW seq_tuple_add yE yC (yz _ _)
   (tuple_addW2 t b vs.toArray ws.toArray n n2 dd Xf sl Xg (by grind) (by grind) (by grind)) ⟨ho,OO,?_⟩
  rw[e];exact h2 hw
def dZ(n d:Nat):Option Int->Nat
 | none=>d
 | some v=>if v<0 then(v+(n:Int)).toNat else min v.toNat n
def wm(n d:Nat):dZ n d none=d:=rfl
def og(n d k:Nat):dZ n d (some (k:Int))=min k n:=by
 show(if(k:Int)<0 then((k:Int)+(n:Int)).toNat else min (k:Int).toNat n)=min k n
 rw[if_neg (by lia),eZ]
def OP(n d:Nat)(hd:d<=n)(o:Option Int):dZ n d o<=n:=by
 cases o with
 | none=>exact hd
 | some v =>
  show(if v<0 then(v+(n:Int)).toNat else min v.toNat n)<=n
  by_cases hv:v<0
  ·grind
  ·grind
def Bf(v:Int)(n d:Nat):(if v<0 then max (v+(n:Int)) 0 else min v (n:Int))=((dZ n d (some v):Nat):Int):=by
 show(if v<0 then max (v+(n:Int)) 0 else min v (n:Int))=(((if v<0 then(v+(n:Int)).toNat else min v.toNat n):Nat):Int)
 by_cases hv:v<0
 ·grind
 ·grind
def zE(lo hi:Option Int)(n:Nat):Builtin.Slice.sliceAdjust lo hi 1 (n:Int)=(((dZ n 0 lo:Nat):Int),((dZ n n hi:Nat):Int)):=by
 have h1:¬(1<0):=by lia
 unfold Builtin.Slice.sliceAdjust;simp only[h1,cW];refine Prod.ext ?_ ?_
 ·cases lo with
  | none=>rfl
  | some v=>exact Bf v n 0
 ·cases hi with
  | none=>rfl
  | some v=>exact Bf v n n
def zF(i j:Nat):Builtin.Slice.slicePlaces (i:Int) (j:Int) 1=j-i:=by
 unfold Builtin.Slice.slicePlaces;have h1:1>0:=by lia
 simp only[h1,fW,Int.ediv_one];split<;>lia
def pG(p:IsPart v o)(h:Q o s):wpAny (model prog w) A (Builtin.Slice.slicePartIndex v) Q E s:=by
 cases p with
 | none=>exact slicePart_none h
 | int i t=>exact slicePart_int h
def gO{vl vu:Value}{lo hi:Option Int}{n:Nat}{Q:Int×Int×Nat->Shared->Prop}(hs:s.heap.IsSliceOf sl vl vu .none)(pl:IsPart vl lo)(pu:IsPart vu hi)
  (h:Q (((dZ n 0 lo:Nat):Int),1,dZ n n hi-dZ n 0 lo) s):wpAny (model prog w) A (Builtin.Slice.sliceApplied (.ref sl) (pure (n:Int))) Q E s:=by
 obtain⟨os,Jj,Xh,Ud⟩:=id hs;unfold Builtin.Slice.sliceApplied Builtin.Slice.sliceFields;refine ae (ae (cw Jj Ud rfl (ae (cw Jj Ud rfl (ae (cw Jj Ud rfl (ah ?_)))))));refine ae (slicePart_none ?_);rw[if_neg (by decide)]
 refine ae (pG pl (ae (pG pu (ae (ah ?_)))));show wpAny _ _ (match Builtin.Slice.sliceAdjust lo hi 1 (n:Int)with | (lo,hi)=>pure (lo,(1:Int),Builtin.Slice.slicePlaces lo hi 1)) _ _ s
 rw[zE lo hi n];show wpAny _ _ (pure (((dZ n 0 lo:Nat):Int),(1:Int),Builtin.Slice.slicePlaces ((dZ n 0 lo:Nat):Int) ((dZ n n hi:Nat):Int) 1)) _ _ s;rw[zF];exact ah h
def F7(xs:Array Value)(i k:Nat):((List.range k).filterMap fun(m:Nat)=>xs[((i:Int)+(m:Int)*1).toNat]?).toArray=((xs.toList.drop i).take k).toArray:=by
 have e:(fun(m:Nat)=>xs[(i+(m:Int)*1).toNat]?)=λm=>xs[i+m]?:=by
  grind
 rw[e];have:=pick_run xs i k;rw[List.filterMap_map]at this;have e2:((λx=>xs[x]?) ∘ λx=>i+x)=λm=>xs[i+m]?:=rfl
 rw[e2]at this;rw[this]
def k9{items:Array Value}{vl vu:Value}{lo hi:Option Int}{Q:Value->Shared->Prop}(ht:IsTup s.heap t items)(hs:s.heap.IsSliceOf sl vl vu .none)(pl:IsPart vl lo)(pu:IsPart vu hi)
  (hw:¬(dZ items.size 0 lo=0/\dZ items.size items.size hi=items.size))
  (h:Q (.ref s.heap.objs.size) {s with heap:=s.heap.push {cls:=.type "tuple",data:=.seq ((items.toList.drop (dZ items.size 0 lo)).take (dZ items.size items.size hi-dZ items.size 0 lo)).toArray}})
  (hsz:items.size<=sizeLine):wpAny (model prog w) A (getItem (.ref t) (.ref sl)) Q E s:=by
 have Bh:sizeOk (.seq ((items.toList.drop (dZ items.size 0 lo)).take (dZ items.size items.size hi-dZ items.size 0 lo)).toArray):=by
  show((items.toList.drop (dZ items.size 0 lo)).take (dZ items.size items.size hi-dZ items.size 0 lo)).toArray.size<=sizeLine;rw[cU,oT,List.length_drop,fE]
  lia
 have hj:dZ items.size items.size hi<=items.size:=OP _ _ (az _) hi;obtain⟨os,Jj,Xh,Ud⟩:=id hs;have hTs:s.TypeIs (.ref sl) "slice":=⟨os,Jj,Xh⟩;unfold getItem
 try with_reducible refine cD ?_
 first | refine ae (ah ?_) | skip
 refine ae (wpAny_sequenceKey ht.typeIs (by decide) ?_)
 refine ae (eX ht.typeIs mv
  (cV mv ht.typeIs entry_tuple_getitem ?_ (args_tuple_getitem _ _)))
 show wpAny _ _ (Builtin.Tuple.tupleItemsOf (.ref t) >>= _) _ _ s;refine ae (tupleItemsOf_ ht ?_);refine ae (kr hTs ?_);rw[if_pos (by decide)]
 refine ae (gO hs pl pu ?_);have YN:¬((((dZ items.size 0 lo:Nat):Int)==0&&(1:Int)==1&&(dZ items.size items.size hi-dZ items.size 0 lo)==items.size)=true):=by
  grind
 show wpAny _ _ (if(((dZ items.size 0 lo:Nat):Int)==0&&(1:Int)==1&&(dZ items.size items.size hi-dZ items.size 0 lo)==items.size)=true then _ else _) _ _ s
 rw[if_neg YN,F7]
 first
  | exact ae (m:=Builtin.Tuple.tupleExact _) (eF (ah ⟨_,rfl,ah h⟩) Bh)
  | exact ae (m:=Builtin.Tuple.tupleExact _) (eF (ae (ah (ah ⟨_,rfl,ah h⟩))) Bh)
  | exact ae (ae (m:=Builtin.Tuple.tupleExact _) (eF (ah (ah ⟨_,rfl,ah h⟩)) Bh))
  | exact ae (ae (m:=Builtin.Tuple.tupleExact _) (eF (ah ⟨_,rfl,ah h⟩) Bh))
end
end HT
namespace L2
open PySem PySem.Spec PyProof.Rows
abbrev TO:=St->Hp->(Option Int->Hp->Prop)->Prop
def PO(X:Cx)(e:Option Expr)(t:TO):Prop :=
 ∀(af:List (Addr×Obj)) (s:Shared) (σ:St) (H:Hp) (Q:Option Int->Hp->Prop),Inv X af σ H s->t σ H Q ->
  wpAny (model X.prog X.w) X.A (evalPart e X.env) (λu s'=>∃o H',Inv X af σ H' s'/\IsPart u o/\Q o H') X.xe s
def J4:TO:=λ_ H Q=>Q none H
def Ue(t:TE):TO:=λσ H Q=>t σ H λx H1=>∃i,x=.int i/\Q (some i) H1
def pd:∀{us:List Value},Vals (ns.map V.int) us->IntsAre us ns:=by
 induction ns with
 | nil=>intro us r;rw[mK]at r;cases r;exact .nil
 | cons n ns ih =>
  intro us r;rw[bz]at r;cases r with
  | cons r1 r2 =>
   obtain⟨t,e⟩:=r1;subst e;exact .cons n t (ih r2)
section
variable {X:Cx} {e:Expr} {te:TE} {lo hi:Option Expr} {tl th:TO} {pos p2:Pos}
def J5:PO X none J4:=by
 intro af s σ H Q I h;rw[evalPart_none];exact ah ⟨none,H,I,.none,h⟩
def J6(h:PE X e te):PO X (some e) (Ue te):=by
 intro af s σ H Q I hw;rw[evalPart_some];refine thn (h af s σ H _ I hw) λu s1 ⟨x,H1,I1,r1,q1⟩=>?_
 obtain⟨i,rfl,q⟩:=q1;obtain⟨t,rfl⟩:=r1;exact⟨some i,H1,I1,.int i t,q⟩
def Xi(X:Cx)(r:V->Option Int->Option Int->Hp->VK->Prop):Prop :=
 ∀(af:List (Addr×Obj)) (s:Shared) (σ:St) (H:Hp) (x:V) (v vl vu:Value) (lo hi:Option Int) (sl:Addr) (Q:VK),Inv X af σ H s->RelV x v->s.heap.IsSliceOf sl vl vu .none->IsPart vl lo->IsPart vu hi->r x lo hi H Q ->
  ∃T id,typeLookup (.type T) "__getitem__"=pure (some (.builtin id))/\s.TypeIs v T/\wpAny (model X.prog X.w) X.A (getItem v (.ref sl)) (EP X af σ Q) X.xe s
def tSl(r:V->Option Int->Option Int->Hp->VK->Prop)(te:TE)(tl th:TO):TE:=λσ H Q=>te σ H λx H1=>tl σ H1 λl H2=>th σ H2 λu H3=>r x l u H3 Q
def F8{r:V->Option Int->Option Int->Hp->VK->Prop}(hr:Xi X r)(he:PE X e te)(hl:PO X lo tl)(hu:PO X hi th):PE X (.Subscript e (.Slice lo hi none p2) pos) (tSl r te tl th):=by
 intro af s σ H Q I h;refine Subscript_ (thn (he af s σ H _ I h) λv s1 ⟨x,H1,I1,r1,q1⟩=>?_)
 refine wpAny_Slice (thn (hl af s1 σ H1 _ I1 q1) λvl s2 ⟨l,H2,I2,pl,q2⟩=>thn (hu af s2 σ H2 _ I2 q2) λvu s3 ⟨u,H3,I3,pu,q3⟩=>?_)
 rw[evalPart_none];refine ah ?_;have I4:Inv X af σ H3 {s3 with heap:=s3.heap.push {cls:=.type "slice",data:=.fields #[vl,vu,.none]}}:=I3.kept λb ob q=>aG _ q
 obtain⟨T,id,hT,ht,hg⟩:=hr af {s3 with heap:=s3.heap.push {cls:=.type "slice",data:=.fields #[vl,vu,.none]}} σ H3 x v vl vu l u s3.heap.objs.size Q I4 r1 (Heap.IsSliceOf.new ..) pl pu q3
 show wpAny (model X.prog X.w) X.A (subscriptTail e (.Slice lo hi none p2) v (.ref s3.heap.objs.size)) (EP X af σ Q) X.xe {s3 with heap:=s3.heap.push {cls:=.type "slice",data:=.fields #[vl,vu,.none]}}
 exact mM ht hT hg (by with_unfolding_all rfl)
def wo(xs:List V)(lo hi:Option Int):List V:=(xs.drop (HT.dZ xs.length 0 lo)).take (HT.dZ xs.length xs.length hi-HT.dZ xs.length 0 lo)
def nv(xs:List V)(lo hi:Option Int):(wo xs lo hi).length<=xs.length:=by
 unfold wo;rw[oT,List.length_drop]
 lia
def YO(K:W.Frag):V->Option Int->Option Int->Hp->VK->Prop:=λx lo hi H Q=>∃a xs,x=.ref a/\fX K H a xs /\
 ¬(HT.dZ xs.length 0 lo=0/\HT.dZ xs.length xs.length hi=xs.length)/\∀p,H p=none->Q (.ref p) (bM H p (.aw (wo xs lo hi)))
def OQ:Xi X (YO X.K):=by
 intro af s σ H x v vl vu lo hi sl Q I rx hs pl pu h;obtain⟨a,xs,rfl,hx,hw,q⟩:=h;cases rx;obtain⟨aA,r,ht,hz⟩:=I.tuple hx;have dY:aA.toArray.size=xs.length:=by rw[cU];exact r.length.symm
 refine⟨"tuple",_,mv.lookup,ht.typeIs,?_⟩;refine HT.k9 ht hs pl pu (by grind) ?_ (by grind)
 rw[dY];refine⟨.ref s.heap.objs.size,_,I.laid (λb ob q=>aG _ q) (az _) ?_,rfl,q _ (I.hok.fresh (az _))⟩
 exact⟨bh (nv xs lo hi) hz,_,(r.drop (HT.dZ xs.length 0 lo)).take (HT.dZ xs.length xs.length hi-HT.dZ xs.length 0 lo),IsTup.new _ _⟩
def Ug(K:W.Frag):R2:=λx y H Q=>∃a b xs ys,x=.ref a/\y=.ref b/\fX K H a xs/\fX K H b ys/\xs≠[]/\xs.length+ys.length<=sizeLine /\
 (ys=[]->Q (.ref a) H)/\(ys≠[]->∀p,H p=none->Q (.ref p) (bM H p (.aw (xs++ys))))
def Vals.la(r:Vals xs us):us=[]↔xs=[]:=by
 cases r with
 | nil=>simp
 | cons _ _=>simp
def J7:OpR X (binaryOp .Add) (Ug X.K):=by
 intro af s σ H x y v u Q I rx ry h;obtain⟨a,b,xs,ys,rfl,rfl,ha,hb,hx,hz,q1,q2⟩:=h;cases rx;cases ry;obtain⟨aA,r1,p1,_⟩:=I.tuple ha;obtain⟨et,r2,p2,_⟩:=I.tuple hb;refine HT.Be p1 p2 (λz=>hx (r1.la.mp z)) (λz=>⟨.ref a,H,I,rfl,q1 (r2.la.mp z)⟩) (λz=>?_) (by rw[<-r1.length,<-r2.length];exact hz)
 refine⟨.ref s.heap.objs.size,_,I.laid (λb ob q=>aG _ q) (az _) ?_,rfl,q2 (λw=>z (r2.la.mpr w)) _ (I.hok.fresh (az _))⟩
 exact⟨by grind,_,r1.append r2,IsTup.new _ _⟩
end
def EH(n:Nat)(i:Int):Option Nat:=if 0<=i then(if i<n then some i.toNat else none)else if -(n:Int)<=i then some (i+n).toNat else none
def qS{α:Type}(xs:List α)(i:Int):Option α:=(EH xs.length i).bind λj=>xs[j]?
def Bi(h:EH n i=some j):seqIndex? i n=some j/\j<n /\ -(n:Int)<=i/\i<n:=by
 unfold EH at h;by_cases h0:0<=i
 ·rw[if_pos h0]at h;by_cases h1:i<n
  ·rw[if_pos h1]at h;have e:=bB h;exact⟨by rw[seqIndex_of h0 h1,e],by lia,by lia,h1⟩
  ·grind
 ·rw[if_neg h0]at h;by_cases h1:-n<=i
  ·rw[if_pos h1]at h;have e:=bB h;exact⟨by rw[seqIndex_neg (by lia) h1,e],by lia,h1,by lia⟩
  ·grind
def uJ{α:Type}{xs:List α}{i:Int}{v:α}(h:qS xs i=some v):∃j,seqIndex? i xs.length=some j/\xs[j]?=some v/\j<xs.length /\ -(xs.length:Int)<=i/\i<xs.length:=by
 unfold qS at h;cases e:EH xs.length i with
 | none=>rw[e]at h;cases h
 | some j =>
  rw[e]at h;obtain⟨h1,h2,h3,h4⟩:=Bi e;exact⟨j,h1,h,h2,h3,h4⟩
def atI_nat{α:Type}{xs:List α}{j:Nat}{v:α}(h:xs[j]?=some v):qS xs (j:Int)=some v:=by
 have hj:=(b6.mp h).1;have e:EH xs.length j=some j:=by
  unfold EH;rw[if_pos (by lia),if_pos (by lia)];simp
 unfold qS;rw[e];exact h
def jz(b:Expr):Prop:=∀o i,subscripted b false o i=operate [o,i] (getItem o i)
def OR(X:Cx)(r:R2):Prop :=
 ∀(value slice:Expr) (af:List (Addr×Obj)) (s:Shared) (σ:St) (H:Hp) (x y:V) (v u:Value) (Q:VK),Inv X af σ H s->RelV x v->RelV y u->r x y H Q ->
  subscripted slice false v u=operate [v,u] (getItem v u)->wpAny (model X.prog X.w) X.A (subscriptTail value slice v u) (EP X af σ Q) X.xe s
def J8(X:Cx)(id:String)(r:V->List V->Hp->VK->Prop):Prop :=
 ∀(af:List (Addr×Obj)) (s:Shared) (σ:St) (H:Hp) (x:V) (xs:List V) (v:Value) (us:List Value) (Q:VK),Inv X af σ H s->RelV x v->Vals xs us->r x xs H Q ->
  wpAny (model X.prog X.w) X.A (call (.builtin id) (v::us)) (EP X af σ Q) X.xe s
section
variable {X:Cx} {a b:Expr} {ta tb:TE} {pos:Pos}
def Bj(hr:OR X r)(ha:PE X a ta)(hb:PE X b tb)(hs:jz b):PE X (.Subscript a b pos) (SD r ta tb):=by
 intro af s σ H Q I h;exact Subscript_ (JP ha hb I h λv u s2 x y H2 I2 rx ry q=>hr a b af s2 σ H2 x y v u Q I2 rx ry q (hs _ _))
def YQ(K:W.Frag):R2:=λx y H Q=>∃p xs i v,x=.ref p/\y=.int i/\uF K H p xs/\qS xs i=some v/\Q v H
def YR(K:W.Frag):R2:=λx y H Q=>∃p xs i v,x=.ref p/\y=.int i/\fX K H p xs/\qS xs i=some v/\Q v H
def YS:R2:=λx y H Q=>∃z i c,x=.str z/\y=.int i/\z.length<=sizeLine/\qS z.cps.toList i=some c/\Q (.str ⟨#[c]⟩) H
def J9:OR X (YQ X.K):=by
 intro value slice af s σ H x y v u Q I rx ry h hs;obtain⟨p,xs,i,z,rfl,rfl,hq,he,q⟩:=h;cases rx;obtain⟨t,rfl⟩:=ry;obtain⟨aA,r,pl,hz⟩:=I.list hq;obtain⟨j,h1,h2,h3,h4,h5⟩:=uJ he;obtain⟨w,ew,C7⟩:=r.get h2;have hl:=r.length;have hn:=kB;have gh:EP X af σ Q w s:=⟨z,H,I,C7,q⟩;by_cases h0:0<=i
 ·have hj:i.toNat=j:=by
   rw[seqIndex_of h0 h5]at h1;exact bB h1
  exact item_listR pl.isList h0 (by lia) (by grind) gh hs
 ·have hj:(i+(aA.toArray.size:Int)).toNat=j:=by
   rw[seqIndex_neg (by lia) h4]at h1
   rw[cU,<-hl];exact bB h1
  exact subscriptTail_builtinR pl.isList.typeIs slot_list_getitem.lookup
   (wpAny_getItem_list_neg pl.isList (by lia) (by grind) (by lia) (by grind) ⟨rfl,gh⟩) hs
def OS:OR X (YR X.K):=by
 intro value slice af s σ H x y v u Q I rx ry h hs;obtain⟨p,xs,i,z,rfl,rfl,hq,he,q⟩:=h;cases rx;obtain⟨t,rfl⟩:=ry;obtain⟨aA,r,pl,hz⟩:=I.tuple hq;obtain⟨j,h1,h2,h3,h4,h5⟩:=uJ he;obtain⟨w,ew,C7⟩:=r.get h2;have hl:=r.length;have hn:=kB;have gh:EP X af σ Q w s:=⟨z,H,I,C7,q⟩;exact subscriptTail_builtinR pl.typeIs slot_tuple_getitem.lookup
  (getItem_tuple pl (by lia) (by lia) (by rw[cU,<-hl];exact h1) (by grind) ⟨rfl,gh⟩) hs
def OT:OR X YS:=by
 intro value slice af s σ H x y v u Q I rx ry h hs;obtain⟨z,i,c,rfl,rfl,hz,he,q⟩:=h;obtain⟨t,rfl⟩:=rx;obtain⟨t',rfl⟩:=ry;obtain⟨j,h1,h2,h3,h4,h5⟩:=uJ he;have hl:z.cps.toList.length=z.length:=by simp[Str.length]
 rw[hl]at h1 h4 h5;have hn:=kB;exact mM (typeIs_str s z t) slot_str_getitem.lookup (getItem_str (by
  grind) (by grind) ⟨.str ⟨#[c]⟩,H,I.tok _,⟨_,rfl⟩,q⟩) hs
def zG(aA:List Value)(n j:Nat)(u:Value):Obj.mapSeq (·.setIfInBounds j u) {cls:=.type "list",data:=.seq aA.toArray n}={cls:=.type "list",data:=.seq (aA.set j u).toArray n}:=by
 simp[Obj.mapSeq]
def Inv.lst{af:List (Addr×Obj)}{σ:St}{H:Hp}{s:Shared}{p:Addr}{xs:List V}(I:Inv X af σ H s)(h:H p=some (.lst xs)) :
  ∃(aA:List Value) (n:Nat),Vals xs aA/\s.heap.get? p=some {cls:=.type "list",data:=.seq aA.toArray n}/\xs.length<=sizeLine:=by
 obtain⟨z,aA,n,r,e⟩:=I.hok p _ h;exact⟨aA,n,r,e,z⟩
def Inv.OU{af:List (Addr×Obj)}{σ:St}{H:Hp}{s:Shared}{p:Addr}{xs ys:List V}{aA nK:List Value}{n n':Nat}{f:Obj->Obj}(I:Inv X af σ H s)(h:H p=some (.lst xs))
  (ho:s.heap.get? p=some {cls:=.type "list",data:=.seq aA.toArray n}) (hf:f {cls:=.type "list",data:=.seq aA.toArray n}={cls:=.type "list",data:=.seq nK.toArray n'}) (r:Vals ys nK) (hz:ys.length<=sizeLine) (t:Nat) :
  Inv X af σ (bM H p (.lst ys)) {s with heap:=s.heap.update p f,toks:=t}:=by
 have e:(s.heap.update p f).get? p=some {cls:=.type "list",data:=.seq nK.toArray n'}:=by
  rw[fD f ho (by rw[hf]<;>rfl),hf]
 refine I.write (by rw[h];trivial) (.inl rfl) (λb u hb q=>(iY _ _ (cx hb)).trans q) ⟨_,e⟩ ?_
 exact⟨hz,nK,n',r,e⟩
def Uh:V->V->V->Hp->(Hp->Prop)->Prop:=λo i v H Q=>∃p xs k j,o=.ref p/\i=.int k/\H p=some (.lst xs)/\EH xs.length k=some j/\Q (bM H p (.lst (xs.set j v)))
def F9:FG X Uh:=by
 intro af s σ H o i v ov iv u Q I ro ri rv h;obtain⟨p,xs,k,j,rfl,rfl,hp,hj,q⟩:=h;cases ro;obtain⟨t,rfl⟩:=ri;obtain⟨aA,n,r,ho,hz⟩:=I.lst hp;obtain⟨h1,h2,h3,h4⟩:=Bi hj;have hl:=r.length;have hn:=kB;have I':Inv X af σ (bM H p (.lst (xs.set j v))) {s with heap:=s.heap.update p (Obj.mapSeq (·.setIfInBounds j u))} :=
  I.OU hp ho (zG aA n j u) (r.set rv j) (by grind) s.toks
 by_cases h0:0<=k
 ·have hk:k.toNat=j:=by
   rw[seqIndex_of h0 h4]at h1;exact bB h1
  exact W.ki_setAt ho h0 (by lia) (by grind) (by grind)
 ·have hk:(k+(aA.toArray.size:Int)).toNat=j:=by
   rw[seqIndex_neg (by lia) h3]at h1
   rw[cU,<-hl];exact bB h1
  exact W.ki_setBack ho (by lia) (by grind) (by lia) (by grind)
def uK(lo hi:Option Int)(n:Nat):(sliceBounds lo hi none n).1=((HT.dZ n 0 lo:Nat):Int)/\(sliceBounds lo hi none n).2.1=((HT.dZ n n hi:Nat):Int)/\(sliceBounds lo hi none n).2.2=1:=by
 refine⟨?_,?_,rfl⟩
 ·cases lo with
  | none=>simp[sliceBounds,HT.dZ]
  | some i =>
   simp only[sliceBounds,HT.dZ,yY,show 1>0 by decide,fW]
   by_cases h:i<0
   ·grind
   ·grind
 ·cases hi with
  | none=>simp[sliceBounds,HT.dZ]
  | some i =>
   simp only[sliceBounds,HT.dZ,yY,show 1>0 by decide,fW]
   by_cases h:i<0
   ·grind
   ·grind
def qY(aA:List Value)(lo hi:Option Int):slicePick aA.toArray lo hi none=((aA.drop (HT.dZ aA.length 0 lo)).take (HT.dZ aA.length aA.length hi-HT.dZ aA.length 0 lo)).toArray:=by
 obtain⟨h1,h2,h3⟩:=uK lo hi aA.toArray.size;unfold slicePick;rw[h1,h2,h3];simp only[sliceRange_one,pick_run,cU]<;>rfl
def YT(K:W.Frag):V->Option Int->Option Int->Hp->VK->Prop:=λx lo hi H Q=>∃a xs,x=.ref a/\uF K H a xs/\∀p,H p=none->Q (.ref p) (bM H p (.lst (wo xs lo hi)))
def Ka:Xi X (YT X.K):=by
 intro af s σ H x v vl vu lo hi sl Q I rx hs pl pu h;obtain⟨a,xs,rfl,hx,q⟩:=h;cases rx;obtain⟨aA,r,ht,hz⟩:=I.list hx;have dY:=r.length;refine⟨"list",_,slot_list_getitem.lookup,ht.isList.typeIs,?_⟩;refine wpAny_getItem_list_slice ht.isList hs pl pu .none (by simp) ?_ (by grind)
 rw[qY,<-dY];refine⟨.ref s.heap.objs.size,_,I.laid (λb ob q=>aG _ q) (az _) ?_,rfl,q _ (I.hok.fresh (az _))⟩
 exact⟨bh (nv xs lo hi) hz,_,0,(r.drop (HT.dZ xs.length 0 lo)).take (HT.dZ xs.length xs.length hi-HT.dZ xs.length 0 lo),bc _ rfl⟩
def lb:k8 X (.builtin "len") (λxs H Q=>∃p ys,xs=[.ref p]/\(uF X.K H p ys\/fX X.K H p ys)/\Q (.int ys.length) H):=by
 intro af s σ H xs us Q I r h;obtain⟨p,ys,rfl,hq,q⟩:=h;obtain⟨u,rfl,rx⟩:=iJ r;cases rx;have hn:=kB;rcases hq with hq | hq
 ·obtain⟨aA,r',pl,hz⟩:=I.list hq;have dY:=r'.length;exact Calls.call_len_list pl.isList (by grind) ⟨.int ys.length,H,I.tok _,⟨s.toks+1,by grind⟩,q⟩
 ·obtain⟨aA,r',pl,hz⟩:=I.tuple hq;have dY:=r'.length;exact len_tuple pl (by grind) ⟨.int ys.length,H,I.tok _,⟨s.toks+1,by grind⟩,q⟩
def uL:k8 X (.builtin "len") (λxs H Q=>∃z,xs=[.str z]/\z.length<=sizeLine/\Q (.int z.length) H):=by
 intro af s σ H xs us Q I r h;obtain⟨z,rfl,hz,q⟩:=h;obtain⟨u,rfl,t,rfl⟩:=iJ r;have hn:=kB;exact len_str (by lia) ⟨.int z.length,H,I.tok _,⟨_,rfl⟩,q⟩
def jW:k8 X (.type "tuple") (λxs H Q=>∃p ys,xs=[.ref p]/\((uF X.K H p ys/\∀l,H l=none->Q (.ref l) (bM H l (.aw ys)))\/(fX X.K H p ys/\Q (.ref p) H))):=by
 intro af s σ H xs us Q I r h;obtain⟨p,ys,rfl,h⟩:=h;obtain⟨u,rfl,rx⟩:=iJ r;cases rx;rcases h with⟨hq,q⟩ | ⟨hq,q⟩
 ·obtain⟨aA,r',pl,hz⟩:=I.list hq;have dY:=r'.length;refine call_tuple_list pl.isList (λh' kp=>?_) (by grind)
  have I1:=I.kept (t':=s.toks) kp;have I2:Inv X af σ (bM H h'.objs.size (.aw ys)) {s with heap:=h'.push {cls:=.type "tuple",data:=.seq aA.toArray}} :=
   I1.laid (λb o e=>aG _ e) (az _) (⟨hz,aA,r',IsTup.new _ _⟩)
  exact⟨.ref h'.objs.size,_,I2,rfl,q _ (I1.hok.fresh (az _))⟩
 ·obtain⟨aA,r',pl,hz⟩:=I.tuple hq;exact call_tuple_same pl ⟨.ref p,H,I,rfl,q⟩
def tyV(K:W.Frag)(T:String)(x:V)(H:Hp):Prop:=match x with
 | .str _=>T="str"
 | .int _=>T="int"
 | .ref p=>(T="list"/\∃xs,uF K H p xs)\/(T="tuple"/\∃o,K.lookup p=some o/\o.cls=.type "tuple"/\o.dict=none) \/
   (T="dict"/\((∃kvs,H p=some (.dK kvs))\/∃kvs,H p=some (.dT kvs)))\/(T="set"/\∃S n,H p=some (.set S n))
 | _=>False
def Ga{af:List (Addr×Obj)}{σ:St}{H:Hp}{s:Shared}{T:String}{x:V}{v:Value}(I:Inv X af σ H s)(r:RelV x v)(ty:tyV X.K T x H) :
  s.TypeIs v T/\∀a,v=.ref a->∃ob,s.heap.get? a=some ob/\ob.dict=none:=by
 cases x with
 | str z =>
  obtain⟨t,rfl⟩:=r;cases(ty);exact⟨typeIs_str s z t,λ_ e=>nomatch e⟩
 | int i =>
  obtain⟨t,rfl⟩:=r;cases(ty);exact⟨typeIs_int s i t,λ_ e=>nomatch e⟩
 | ref p =>
  cases r;rcases ty with⟨rfl,xs,hq⟩ | ⟨rfl,o,hk,hc,hd⟩ | ⟨rfl,hk⟩ | ⟨rfl,S,n,hk⟩
  ·obtain⟨aA,_,pl,_⟩:=I.list hq;refine⟨pl.isList.typeIs,λa e=>?_⟩
   cases e;obtain⟨o,n,e,c,hd,_⟩:=pl;exact⟨o,e,hd⟩
  ·refine⟨⟨o,I.n9 p o hk,hc⟩,λa e=>?_⟩
   cases e;exact⟨o,I.n9 _ o hk,hd⟩
  ·have z:∃o,s.heap.get? p=some o/\o.ExactDict:=by
    rcases hk with⟨kvs,hk⟩ | ⟨kvs,hk⟩
    ·obtain⟨_,_,_,_,o,_,_,e,ex,_⟩:=I.hok p _ hk;exact⟨o,e,ex⟩
    ·obtain⟨_,_,o,_,_,e,ex,_⟩:=(I.hok p _ hk);exact⟨o,e,ex⟩
   obtain⟨o,e,ex⟩:=z;refine⟨⟨o,e,ex.1⟩,λa e2=>?_⟩
   cases e2;exact⟨o,e,ex.2.1⟩
  ·obtain⟨o,_,_,_,e,ex,_⟩:=I.hok p _ hk;refine⟨⟨o,e,ex.1⟩,λa e2=>?_⟩
   cases e2;exact⟨o,e,ex.2.1⟩
 | _=>exact False.elim ty
def Ui(K:W.Frag)(T:String)(r:V->List V->Hp->VK->Prop)(to:TE):TE:=λσ H Q=>to σ H λx H1=>tyV K T x H1/\r x [] H1 Q
def tBM(K:W.Frag)(T:String)(r:V->List V->Hp->VK->Prop)(to:TE)(t:TA):TE:=λσ H Q=>to σ H λx H1=>tyV K T x H1/\t σ H1 λxs H2=>r x xs H2 Q
variable {o e:Expr} {es:List Expr} {to:TE} {t:TA} {name:Str} {kZ gi:Pos} {T id:String} {r:V->List V->Hp->VK->Prop}
def Gb(pa:PlainAttrs T)(slot:Slot T name id)(YU:typeOf (.builtin id)=pure (.type "method_descriptor"))(hm:J8 X id r)(ho:PE X o to)
  (gq:attributeBase o name X.env (eval o X.env)=eval o X.env:=by rfl) (fK:(kZ.endLine==gi.line)=true:=by rfl):PE X (.Call (.Attribute o name kZ) [] [] gi) (Ui X.K T r to):=by
 intro af s σ H Q I h;refine wpAny_Call_method0_late gq fK (thn (ho af s σ H _ I h) λv s1 z9=>?_)
 obtain⟨x,H1,I1,r1,ty,q1⟩:=z9;obtain⟨h1,h2⟩:=Ga I1 r1 ty;exact⟨T,id,pa,slot,YU,h1,h2,Calls.callWith_builtin rfl (PySem.evalArgs_none (hm af s1 σ H1 x [] v [] Q I1 r1 .nil q1))⟩
def pH(pa:PlainAttrs T)(slot:Slot T name id)(YU:typeOf (.builtin id)=pure (.type "method_descriptor"))(hm:J8 X id r)(ho:PE X o to)(ha:PA X (e::es) t)
  (gq:attributeBase o name X.env (eval o X.env)=eval o X.env:=by rfl)
  (qZ:((backTo gi (starEach (e::es) X.env)).all (λx=>!x.1)&&(backToKw gi (keywordEach [] X.env)).all (λx=>x.1.isSome)
   && decide ((e::es).length+([]:List Keyword).length+(if([]:List Keyword).isEmpty then 0 else 1)<30))=true:=by rfl)
  (fK:(kZ.endLine==gi.line)=true:=by rfl) (hs:starEach (e::es) X.env=(false,eval e X.env)::starEach es X.env:=by rfl) (YV:(backTo gi (starEach es X.env)).any (·.1)=false:=by rfl) :
  PE X (.Call (.Attribute o name kZ) (e::es) [] gi) (tBM X.K T r to t):=by
 intro af s σ H Q I h;refine wpAny_Call_method_late gq qZ fK rfl (thn (ho af s σ H _ I h) λv s1 z9=>?_)
 obtain⟨x,H1,I1,r1,ty,q1⟩:=z9;obtain⟨h1,h2⟩:=Ga I1 r1 ty;refine⟨T,id,pa,slot,YU,h1,h2,?_⟩;have hA:=ha gi af s1 σ H1 _ I1 q1;rw[hs]at hA ⊢;refine Calls.callWith_builtin (by grind) (Calls.evalArgs_plain ?_)
 exact thn hA (by rintro us s2 ⟨vs,H2,I2,r2,q2⟩;exact hm af s2 σ H2 x vs v us Q I2 r1 r2 q2)
end
def Xj(X:Cx)(id:String)(r:V->List V->Hp->VK->Prop):Prop :=
 ∀(af:List (Addr×Obj)) (s:Shared) (σ:St) (H:Hp) (x:V) (xs:List V) (v:Value) (us:List Value) (Q:VK),Inv X af σ H s->RelV x v->Vals xs us->r x xs H Q ->
  wpAny (model X.prog X.w) X.A (call (.builtin id) (v::us)) (EP X af σ Q) X.xe s
theorem Vals.one:∀{x:V} {us:List Value},Vals [x] us->∃u,us=[u]/\RelV x u
 | _,_,.cons r .nil=>⟨_,rfl,r⟩
def Vals.two{x y:V}{us:List Value}(h:Vals [x,y] us):∃u v,us=[u,v]/\RelV x u/\RelV y v:=by
 cases h with
 | cons r h=>cases h with
  | cons q h=>cases h;exact⟨_,_,rfl,r,q⟩
theorem Vals.zero:∀{us:List Value},Vals [] us->us=[]
 | _,.nil=>rfl
theorem Vals.eraseIdx:∀{xs:List V} {us:List Value} (i:Nat),Vals xs us->Vals (xs.eraseIdx i) (us.eraseIdx i)
 | _,_,_,.nil=>.nil
 | _,_,0,.cons _ t=>t
 | _,_,i+1,.cons r t=>.cons r (Vals.eraseIdx i t)
def Vals.reverse(h:Vals xs us):Vals xs.reverse us.reverse:=by
 induction h with
 | nil=>exact .nil
 | cons r t ih=>rw[t8,t8];exact Vals.append ih (.cons r .nil)
section
variable {X:Cx} {af:List (Addr×Obj)} {σ:St} {H:Hp} {s:Shared} {l b:Addr} {xs ys zs:List V}
def Inv.Kb{aA nK:List Value}{n:Nat}{f:Array Value->Array Value}{t':Nat}(I:Inv X af σ H s)(hH:H l=some (.lst xs))
  (e:s.heap.get? l=some {cls:=.type "list",data:=.seq aA.toArray n}) (hf:f aA.toArray=nK.toArray) (hv:Vals ys nK) (hz:ys.length<=sizeLine) :
  Inv X af σ (bM H l (.lst ys)) {s with heap:=s.heap.update l (Obj.mapSeq f),toks:=t'}:=by
 have q:=PySem.IsL.update e f;rw[hf]at q;refine I.write (by rw[hH];exact trivial) (.inl rfl) (λb' u hb hu=>(iY s.heap (Obj.mapSeq f) (cx hb)).trans hu) ⟨_,q⟩ ?_
 exact⟨hz,nK,_,hv,q⟩
def Inv.OW(I:Inv X af σ H s)(hv:Vals ys aA)(hz:ys.length<=sizeLine) :
  Inv X af σ (bM H s.heap.objs.size (.lst ys)) {s with heap:=s.heap.push {cls:=.type "list",data:=.seq aA.toArray},toks:=t'} :=
 I.laid (λ_ _ q=>aG _ q) (az _) ⟨hz,aA,0,hv,bc _ rfl⟩
def Inv.fresh(I:Inv X af σ H s):H s.heap.objs.size=none:=I.hok.fresh (az _)
def Inv.fm(I:Inv X af σ H s)(hH:H l=some (.lst xs)):xs.length<=sizeLine/\∃(aA:List Value) (n:Nat),Vals xs aA/\xs.length=aA.length/\s.heap.get? l=some {cls:=.type "list",data:=.seq aA.toArray n}:=by
 obtain⟨z,aA,n,r,e⟩:=I.hok l _ hH;exact⟨z,aA,n,r,r.length,e⟩
def wq(h:n<=sizeLine):Builtin.List.listTooLong n=false:=by
 unfold Builtin.List.listTooLong;exact mF (by lia)
end
section
variable {X:Cx}
def Bk:V->List V->Hp->VK->Prop:=λx vs H Q=>∃l xs y,x=.ref l/\vs=[y]/\H l=some (.lst xs)/\xs.length<sizeLine/\Q .bL (bM H l (.lst (xs++[y])))
def C8:Xj X "list.append" Bk:=by
 intro af s σ H x vs v us Q I rx rv h;obtain⟨l,xs,y,rfl,rfl,hH,hz,q⟩:=h;cases rx;obtain⟨u,rfl,ru⟩:=rv.one;obtain⟨z,aA,n,r,hl,e⟩:=I.fm hH;refine gG F.slot_list_append ⟨_,e,rfl⟩ F.entry_list_append (F.args_list_append_2 _ _) (PySem.list_append l aA.toArray n u (by grind)) ⟨e,?_⟩
 refine⟨.bL,_,I.Kb hH e (by simp) (r.append (.cons ru .nil)) ?_,rfl,q⟩
 rw[cq,List.length_singleton]
 lia
def wt:V->List V->Hp->VK->Prop:=λx vs H Q=>∃l xs,x=.ref l/\vs=[]/\H l=some (.lst xs)/\Q .bL (bM H l (.lst xs.reverse))
def zH:Xj X "list.reverse" wt:=by
 intro af s σ H x vs v us Q I rx rv h;obtain⟨l,xs,rfl,rfl,hH,q⟩:=h;cases rx;have YW:=rv.zero;subst YW;obtain⟨z,aA,n,r,hl,e⟩:=I.fm hH;refine gG F.slot_list_reverse ⟨_,e,rfl⟩ F.entry_list_reverse (F.args_list_reverse_1 _) (AutoSeq1.list_reverse_list_0 l aA.toArray n (by grind)) ⟨e,?_⟩
 refine⟨.bL,_,I.Kb hH e (by simp) r.reverse ?_,rfl,q⟩
 rw[yL]
 lia
end
end L2
namespace Att
open PySem PySem.W PySem.Calls PyProof.Rows
def nL:∀(ns:List Int) (vs:List Value),WellAll P h vs (ns.map WData.int)->IntsAre vs ns:=by
 intro ns;induction ns with
 | nil =>
  intro vs w;rw[mK]at w;cases w;exact .nil
 | cons n ns ih =>
  intro vs w;rw[bz]at w;cases w with
  | cons a b =>
   cases a;exact .cons _ _ (ih _ b)
def C9{l:OpenLaw}(hn:l.most=some n) 
  (Kc:l.row.toRowW.claim.pre args=true) (YX:WellAll P h Uj args) :
  ∃a vs ns,Uj=[Value.ref a]/\args=[WData.list (ns.map WData.int)]/\h.get? a=some {cls:=.type "list",data:=.seq vs.toArray}/\IntsAre vs ns/\ns.length<=n:=by
 have hsh:=(pre_splitW Kc).1;have hc:l.pre.holds [] {args:=args}=true:=(pre_splitW Kc).2
 obtain⟨d,r,rfl,h1,h2⟩:=hasAllW_cons hsh;obtain rfl:=hasAllW_nil h2;obtain⟨xs,rfl,h3⟩:=hasW_list h1;obtain⟨ns,rfl⟩:=items_int h3;have dY:ns.length<=n:=by
  unfold OpenLaw.pre at hc;have h4:(WTm.not (.lt (.lit (.int n)) (.len (.arg 0)))).holds [] {args:=[.list (ns.map .int)]}=true:=by
   have h4:=(holds_andW hc).1;rw[hn]at h4;exact h4
  have h5:=condW_of h4 (w_not (w_lt w_lit (w_len_list (w_arg rfl))));rw[aJ]at h5;refine oS λq=>?_
  have q':n<(ns.length:Nat):=by lia
  first
   | (rw[eK q']at h5;exact absurd h5 (by decide))
   | (simp at h5;lia)
 cases YX with
 | cons w1 w2 =>
  cases w2;cases w1 with
  | list ho Dc=>exact⟨_,_,ns,rfl,rfl,ho,nL ns _ Dc,dY⟩
def Dd(l:OpenLaw)(args:List WData):l.row.toRowW.claim.post args (.bool true) args=true :=
 postW_of
  (show WShape.has [] (.bool true) .bool=true by first | rfl | decide | simp[WShape.has,WShape.arms,WShape.armsAll])
  (w_eq_bool (w_res rfl) w_lit) rfl
def wu{l:OpenLaw}{n:Nat}{loose:List Str}{XP:(Str->Option Value)->Heap->Prop}{YP:World->Heap->Prop}{d:DefRec}
  (hn:l.most=some n) (YY:d.params.defaults=[])
  (call:∀(w:World) (s₀ s₁:Shared) (mg mb:Str->Option Value) (fa:Addr) (o:Obj) (pm cd doc:Value) (a:Addr) (vs:List Value) (ns:List Int),
   Ground q loose [] XP w s₀ mg mb s₁.heap->YP w s₁.heap ->
   s₁.heap.get? fa=some o->o.data=.func (docDef d.name d.params d.body d.scope pm cd doc)->s₁.heap.CodeRec cd d.name->mg d.name=some (.ref fa) ->
   s₁.heap.get? a=some {cls:=.type "list",data:=.seq vs.toArray}->IntsAre vs ns->ns.length<=n->s₁.gens=#[] ->
   codeAny (model l.prog w) callerA (.call (.ref fa) ⟨[.ref a],[]⟩) (λr s'=>r=.ok (.ret (.bool true))/\OldK s₁.heap s'.heap/\s'.os=s₁.os/\AllBare s'.gens) s₁) :
  WalkO q loose XP YP l.row.toRowW d [] (λf vs=>PySem.call f vs):=by
 intro w s₀ s₁ mg mb G Y fa o pm cd doc dV kV ho hd yl hD Ke hg args Uj as Kc acU hrd YX hlo;obtain rfl:dV=.none:=Dflts.none hD YY;obtain rfl:kV=.none:=Dflts.noKw hD;obtain⟨a,vs,ns,rfl,rfl,Gd,Ge,dY⟩:=C9 hn Kc YX;refine enter_call (jb (call w s₀ s₁ mg mb fa o pm cd doc a vs ns G Y ho (fd_plain hd) yl Ke Gd Ge dY hg) λr s' hq=>?_)
 obtain⟨rfl,h2,h3,h4⟩:=hq;exact⟨.inl ⟨.bool true,.bool true,[],rfl,λ_=>rfl,.bool true,Dd l _,λ_=>⟨List.Pairwise.nil,λ_ hm=>(nomatch hm)⟩⟩,h2,h3,h4⟩
end Att
namespace L2
open PySem PySem.Spec PyProof.Rows
theorem r6:∀{vs:List Value} {ns:List Int},IntsAre vs ns->Vals (ns.map V.int) vs
 | _,_,.nil=>.nil
 | _,_,.cons n t h=>.cons ⟨t,rfl⟩ (r6 h)
def De{P:Program}{w:World}{K:W.Frag}{mg mb:Str->Option Value}{CX:EG}{k:Nat}{fa a:Addr}{fd:FuncData}{x:Str}{sp:Sp}{s₁:Shared}{vs:List Value}{ns:List Int}{tabs:List (Addr×Str)}
  (KX:K.In s₁.heap) (Df:s₁.heap.Ns mainGlobals mg) (hb:s₁.heap.Ns builtinsNs mb) (Xk:∀x:Str,x≠"__name__"->mb x=bootBuiltins x) (zI:s₁.heap.NoLimit) (hg:s₁.gens=#[])
  (hT:∀b q,tabs.lookup b=some q->s₁.heap.get? b=some {cls:=.none,data:=.fields #[]}/\isCodeTable s₁.heap b/\K.lookup b=none) (hTI:∀H:Hp,(∀b q,tabs.lookup b=some q->H b=some (.zb q))->ph K H)
  (ha:s₁.heap.get? a=some {cls:=.type "list",data:=.seq vs.toArray}) (hi:IntsAre vs ns) (hl:ns.length<=sizeLine) (hr:dq k callerA)
  (F:∀base:Heap,K.In base->base.Ns mainGlobals mg->FnOk P w K mg base CX k fa fd [x] sp) (Uk:∀(s:Shared) (u:Value),BindsTo s fd ⟨[u],[]⟩ [(x,u)])
  (SF:∀H:Hp,iu K H a (ns.map V.int)->sp [.ref a] H (λv _=>v=.bl true) λ_ _ _=>False) (hCX:∀H e s',CX [] H s₁ (λ_ _ _=>False) e s'->False) :
  codeAny (model P w) callerA (.call (.ref fa) ⟨[.ref a],[]⟩) (λr s'=>r=.ok (.ret (.bool true))/\OldK s₁.heap s'.heap/\s'.os=s₁.os/\AllBare s'.gens) s₁:=by
 have rv:=r6 hi;have nM:=hi.length
 let oa:Obj:={cls:=.type "list",data:=.seq vs.toArray}
 let H:Hp:=λb=>if b=a/\K.lookup a=none then some (.nk oa (.lst (ns.map V.int)))else(tabs.lookup b).map HO.zb
 have YZ:∀b,H b=if b=a/\K.lookup a=none then some (.nk oa (.lst (ns.map V.int)))else(tabs.lookup b).map HO.zb:=λ_=>rfl
 have hHt:∀b q,tabs.lookup b=some q->H b=some (.zb q):=λb q e=>by
  grind
 have hH:∀b u,H b=some u->(b=a/\K.lookup a=none/\u=.nk oa (.lst (ns.map V.int)))\/∃q,tabs.lookup b=some q/\u=.zb q:=λb u e=>by
  rw[YZ]at e;by_cases h:b=a/\K.lookup a=none
  ·grind
  ·rw[if_neg h]at e;cases z:tabs.lookup b with
   | none=>rw[z]at e;cases e
   | some q=>rw[z]at e;cases e;exact .inr ⟨q,rfl,rfl⟩
 have hS:iu K H a (ns.map V.int):=by
  cases hk:K.lookup a with
  | some o =>
   have e:=KX a o hk;rw[ha]at e;cases e;exact .inr ⟨vs,_,hk,by grind,rv⟩
  | none=>exact .inl (.inr ⟨oa,by grind⟩)
 have hok:kA P w H s₁.heap:=λb u e=>by
  rcases hH b u e with⟨rfl,_,rfl⟩ | ⟨q,hq,rfl⟩
  ·exact⟨ha,by grind,vs,_,rv,ha⟩
  ·exact⟨#[],(hT b q hq).1,trivial,λpos cv z=>by cases z⟩
 have noD:∀{b:Addr} {o:Obj} {es:Array DictEntry} {ep:Nat},s₁.heap.get? b=some o->o.data=.dict es ep->H b=none:=λ{b o es ep} e d=>by
  cases q:H b with
  | none=>rfl
  | some u =>
   rcases hH b u q with⟨rfl,_,_⟩ | ⟨t,ht,_⟩
   ·grind
   ·grind
 have Xl:∀{b:Addr} {m:Str->Option Value},s₁.heap.Ns b m->(vZ s₁.heap H).Ns b m:=λ{b m} ⟨o,es,ep,e,d,r⟩=>⟨o,es,ep,hidT_get e (noD e d),d,r⟩
 have hKb:K.In (vZ s₁.heap H):=λb o e=>hidT_get (KX b o e) (by
  cases q:H b with
  | none=>rfl
  | some u =>
   rcases hH b u q with⟨rfl,z,_⟩ | ⟨t,ht,_⟩
   ·grind
   ·rw[(hT b t ht).2.2]at e;cases e)
 have hM:Mod K mg (vZ s₁.heap H):=⟨hKb,Xl Df,⟨mb,Xl hb,Xk⟩,let ⟨mc,h1,h2⟩:=zI;⟨mc,Xl h1,h2⟩⟩
 have e0:Env0 P w K mg (vZ s₁.heap H) callerA [] s₁ H:=⟨rfl,hM,λb o e=>of_hidT e,gF (CQ _ _),trivial,λb hb=>absurd (show b∈([]:List Addr)from hb) (by simp),hok,.of_eq hg,hTI H hHt⟩
 refine jb ((F _ hKb (Xl Df)).run callerA [] s₁ H ⟨[.ref a],[]⟩ [.ref a] [.ref a] _ _ hr e0 (Uk s₁ (.ref a)) (.cons rfl .nil) (SF H hS)) λr s' h=>?_
 cases r with
 | error e=>exact(hCX H e s' h).elim
 | ok fl =>
  cases fl with
  | next=>exact False.elim h
  | brk=>exact False.elim h
  | cont=>exact False.elim h
  | ret u =>
   obtain⟨v,H',os,bare,un,Ul,r',q⟩:=h;have q':=q;subst q';obtain rfl:u=Value.bool true:=r';have noF:∀b:Addr,b∉mP []:=λb z=>absurd (show b∈([]:List Addr)from z) (by simp)
   refine⟨rfl,⟨λb o e=>?_,λb o e=>un.there b o e (by simp)⟩,os,bare⟩
   cases q:H b with
   | none=>exact .inl (un.keep b o e q (noF b) (by simp))
   | some u =>
    rcases hH b u q with⟨rfl,_,rfl⟩ | ⟨t,ht,rfl⟩
    ·obtain⟨e2,_⟩:=Ul b _ (un.frzs b _ _ q);rw[ha]at e;cases e;exact .inl e2
    ·obtain⟨h1,h2,_⟩:=hT b t ht;obtain⟨ps,e2,_⟩:=(Ul b _ (un.tbls b _ q));rw[h1]at e;cases e;exact .inr (.inl ⟨h2,rfl,#[],ps,rfl,by grind⟩)
abbrev E0:XK:=λ_ _ _=>False
def cg(H H':Hp):Prop:=∀b o,H b=some o->H' b=some o
def cg.refl(H:Hp):cg H H:=λ_ _ h=>h
def cg.trans(a:cg H H1)(b:cg H1 H2):cg H H2:=λc o h=>b c o (a c o h)
def cg.free(e:cg H H')(h:H' l=Option.none):H l=Option.none:=by
 cases q:H l with
 | none=>rfl
 | some o =>
  rw[e l o q]at h;cases h
def cg.seq{K:W.Frag}{H H':Hp}{a:Addr}{xs:List V}(e:cg H H')(h:uF K H a xs):uF K H' a xs:=by
 rcases h with(h | ⟨o,h⟩) | h
 ·exact .inl (.inl (e _ _ h))
 ·exact .inl (.inr ⟨o,e _ _ h⟩)
 ·exact .inr h
section
variable {κ:Type} [DecidableEq κ]
def gj(kvs:List (κ×V))(k:κ):Option V:=(kvs.find? λkv=>decide (kv.1=k)).map (·.2)
def putK(kvs:List (κ×V))(k:κ)(v:V):List (κ×V) :=
 if(kvs.any λkv=>decide (kv.1=k))=true then kvs.map (λkv=>if kv.1=k then(kv.1,v)else kv)else kvs++[(k,v)]
def lg{p:κ×V}{r:List (κ×V)}{k:κ}(e:p.1=k):gj (p::r) k=some p.2:=by simp[gj,oU,e]
def lq{p:κ×V}{r:List (κ×V)}{k:κ}(e:¬p.1=k):gj (p::r) k=gj r k:=by simp[gj,oU,e]
theorem pK(k:κ):∀kvs:List (κ×V),(kvs.any λkv=>decide (kv.1=k))=(gj kvs k).isSome
 | []=>rfl
 | p::r=>by
  rw[mH];by_cases e:p.1=k
  ·simp only[lg e,eK e,Bool.true_or,Option.isSome_some]
  ·rw[lq e,mF e,Bool.false_or];exact pK k r
def Gf{kvs:List (κ×V)}{k:κ}(v:V)(h:gj kvs k=none):putK kvs k v=kvs++[(k,v)]:=by
 unfold putK;rw[pK,h];exact if_neg (by decide)
def pf.r9{o:Option V}{u:Option Value}(r:pf o u):o.isSome=u.isSome:=by
 cases o with
 | none=>cases u with
  | none=>rfl
  | some _=>exact(show False from r).elim
 | some _=>cases u with
  | none=>exact(show False from r).elim
  | some _=>rfl
def pf.getD{o:Option V}{u:Option Value}{d:V}{d':Value}(r:pf o u)(rd:RelV d d'):RelV (o.getD d) (u.getD d'):=by
 cases o with
 | none=>cases u with
  | none=>exact rd
  | some _=>exact(show False from r).elim
 | some _=>cases u with
  | none=>exact(show False from r).elim
  | some _=>exact r
def KV.val{kvs:List (κ×V)}{vs:List (κ×Value)}(r:KV kvs vs)(k:κ):pf (gj kvs k) (valueAt vs k):=by
 unfold KV at r;induction r with
 | nil=>exact True.intro
 | @cons p q ps qs h t ih =>
  obtain⟨h1,h2⟩:=h;by_cases e:p.1=k
  ·have e':q.1=k:=by grind
   have b:valueAt (q::qs) k=some q.2:=by simp[valueAt,oU,e']
   rw[lg e,b];exact h2
  ·have e':¬q.1=k:=by grind
   have b:valueAt (q::qs) k=valueAt qs k:=by simp[valueAt,oU,e']
   rw[lq e,b];exact ih
def KV.any{kvs:List (κ×V)}{vs:List (κ×Value)}(r:KV kvs vs)(k:κ):(kvs.any λkv=>decide (kv.1=k))=vs.any λkv=>decide (kv.1=k):=by
 unfold KV at r;induction r with
 | nil=>rfl
 | cons h t ih=>rw[mH,mH,ih,h.1]
def KV.Y0{kvs:List (κ×V)}{vs:List (κ×Value)}(r:KV kvs vs)(k:κ){y:V}{u:Value}(ry:RelV y u) :
  KV (kvs.map λkv=>if kv.1=k then(kv.1,y)else kv) (vs.map λkv=>if kv.1=k then(kv.1,u)else kv):=by
 unfold KV at r ⊢;induction r with
 | nil=>exact .nil
 | @cons p q ps qs h t ih =>
  rw[bz,bz];refine .cons ?_ ih;obtain⟨h1,h2⟩:=h;by_cases e:p.1=k
  ·grind
  ·grind
def KV.put{kvs:List (κ×V)}{vs:List (κ×Value)}(r:KV kvs vs)(k:κ){y:V}{u:Value}(ry:RelV y u):KV (putK kvs k y) (stored vs k u):=by
 unfold putK stored;rw[r.any k];by_cases e:(vs.any λkv=>decide (kv.1=k))=true
 ·rw[if_pos e,if_pos e];exact r.Y0 k ry
 ·rw[if_neg e,if_neg e];exact Paired.snoc r ⟨rfl,ry⟩
theorem KV.length{kvs:List (κ×V)}{vs:List (κ×Value)}(r:KV kvs vs):kvs.length=vs.length:=mI r
end
def ny{P:Program}{w:World}{k:da}{u:Value}(r:RelV (kV k) u):(bE P w).is k u=true:=by
 cases k with
 | inl i=>obtain⟨t,e⟩:=(show ∃t,u=Value.int i t from r);subst e;exact vX P w i t
 | inr x=>obtain⟨t,e⟩:=(show ∃t,u=Value.str x t from r);subst e;exact vY P w x t
theorem se{P:Program}{w:World}:∀{ks:List da} {us:List Value},Vals (ks.map kV) us->ItemsAre (bE P w) ks us
 | [],_,r=>by rw[mK]at r;cases r;exact .nil
 | k::ks,_,r=>by
  rw[bz]at r;cases r with
  | cons h t=>exact .cons (ny h) (se t)
section
variable {P:Program} {w:World} {H:Hp} {h:Heap} {a:Addr}
def MY{u:HO}(ok:kA P w H h)(e:Rd H a u):eR P w H h a u:=e.ok ok
def Bm{kvs:List (da×V)}(ok:kA P w H h)(e:Rd H a (.dK kvs)):kvs.length<=sizeLine/\(a==sysModules)=false/\∃vs,KV kvs vs/\h.DictOf (bE P w) a vs :=
 show eR P w H h a (.dK kvs)from MY ok e
def Gg{kvs:List (da×V)}(ok:kA P w H h)(e:H a=some (.dK kvs)):kvs.length<=sizeLine/\(a==sysModules)=false/\∃vs,KV kvs vs/\h.DictOf (bE P w) a vs:=Bm ok (.inl e)
end
section
variable {X:Cx} {af:List (Addr×Obj)} {σ:St} {H:Hp} {s:Shared} {a b:Addr} {k:List da} {v:V} {r:Value} {A:Around} {E:Value->Shared->Prop} {xs:List (List da×Addr×Value)}
def key_is(I:Inv X af σ H s)(e:fX X.K H a (k.map kV)):(tupleKind (bE X.prog X.w)).is s.heap k a:=by
 obtain⟨aA,r,⟨o,h1,h2,n,h3⟩,_⟩:=I.tuple e;exact⟨o,aA.toArray,n,h1,h2,h3,by simpa using se r⟩
def pM(I:Inv X af σ H s)(e:Rd H a (.dT xs))(hk:dB X.K H xs):xs.length<=sizeLine/\(a==sysModules)=false/\s.heap.DictOfH (tupleKind (bE X.prog X.w)) a xs:=by
 obtain⟨z,y,o,es,ep,h1,h2,h3,h4,h5⟩:=(show eR X.prog X.w H s.heap a (.dT xs)from MY I.hok e)
 exact⟨z,y,o,es,ep,h1,h2,h3,h4,λx hx=>key_is I (hk x hx),h5⟩
def Um{Q:Value->Shared->Prop}(hu:A.units+1<cLine)(I:Inv X af σ H s)(e:Rd H a (.dT xs))(hk:dB X.K H xs)(eb:fX X.K H b (k.map kV))(h:∀s',Inv X af σ H s'->Q (.bool (atKey xs k).isSome) s') :
  wpAny (model X.prog X.w) A (compareOp .In (.ref b) (.ref a)) Q E s:=by
 obtain⟨_,hd,dd⟩:=pM I e hk;exact wpAny_in_heap (j5 hu) (key_is I eb) hd dd (h _ (I.tok _))
def Uo{Q:Value->Shared->Prop}(hu:A.units+1<cLine)(I:Inv X af σ H s)(e:Rd H a (.dT xs))(hk:dB X.K H xs)(eb:fX X.K H b (k.map kV)) (h:∀s',Inv X af σ H s'->Q (.bool (!(atKey xs k).isSome)) s') :
  wpAny (model X.prog X.w) A (compareOp .NotIn (.ref b) (.ref a)) Q E s:=by
 obtain⟨_,hd,dd⟩:=pM I e hk;exact wpAny_notIn_heap (j5 hu) (key_is I eb) hd dd (h _ (I.tok _))
def Up{Q:Value->Shared->Prop}{p:Addr×Value}(hu:A.units+1<cLine)(I:Inv X af σ H s)(e:Rd H a (.dT xs))(hk:dB X.K H xs)(eb:fX X.K H b (k.map kV))(hp:atKey xs k=some p)(h:∀s',Inv X af σ H s'->Q p.2 s') :
  wpAny (model X.prog X.w) A (getItem (.ref a) (.ref b)) Q E s:=by
 obtain⟨_,hd,dd⟩:=pM I e hk;exact wpAny_getItem_heap (j5 hu) (key_is I eb) dd hp (h _ (I.tok _))
def zJ{κ:Type} [DecidableEq κ] (xs:List (κ×Addr×Value)) (k:κ) (a:Addr) (v:Value):(storedH xs k a v).length<=xs.length+1:=by
 unfold storedH;split
 ·grind
 ·grind
def OX{Q:Unit->Shared->Prop}(hu:A.units+1<cLine)(I:Inv X af σ H s)(e:H a=some (.dT xs))(hk:dB X.K H xs)(eb:fX X.K H b (k.map kV))(hl:xs.length<sizeLine)
  (h:∀s',Inv X af σ (bM H a (.dT (storedH xs k b r))) s'->Q () s'):wpAny (model X.prog X.w) A (setItem (.ref a) (.ref b) r) Q E s:=by
 obtain⟨_,hd,dd⟩:=pM I (.inl e) hk;refine wpAny_setItem_heap (hsz:=iq hl) (j5 hu) (key_is I eb) dd λh' OY hs=>h _ ?_
 obtain⟨q,es,ep,hq,h2,h3,h4,_,h5⟩:=OY;exact I.write (x:=a) (e:=a) (by rw[e];exact True.intro) (.inl rfl) (λc q' hc z=>(hs.2 c hc).trans z) ⟨q,hq⟩ ⟨(by have:=zJ xs k b r;lia),hd,q,es,ep,hq,h2,h3,h4,h5⟩
def pN(I:Inv X af σ H s):sysModules<s.heap.objs.size:=kn (by decide) (show mainGlobals<s.heap.objs.size from(I.mod.glob.keeps I.bk).lt)
def MZ(o:HO):TE:=λ_ H Q=>∀p,H p=none->Q (.ref p) (bM H p o)
def Kf{pos:Pos}:PE X (.Dict [] [] pos) (MZ (.dT [])):=λaf s σ H Q I h =>
 wpAny_Dict_empty ⟨.ref s.heap.objs.size,_,I.laid (a:=s.heap.objs.size) (o:=.dT []) (t':=s.toks) (λ_ _ q=>aG _ q) (az _)
  ⟨eL _,my.mpr (cx (aR (pN I))),_,#[],0,bc _ rfl,⟨rfl,rfl,rfl⟩,rfl,rfl,uo⟩,rfl,h _ (I.hok.fresh (az _))⟩
def Dg{κ:Type} [DecidableEq κ] (xs:List (κ×Addr×Value)) (k:κ):(atKey xs k).isSome=(xs.map (·.1)).any λj=>decide (j=k):=by
 unfold atKey;rw[Option.isSome_map,List.any_map,List.isSome_find?];rfl
end
def M0(CX:EG)(P:Program)(w:World)(K:W.Frag)(mg:Str->Option Value)(base:Heap)(N:List Str)(qual:Str)(scope:Scope)(f:Addr)(cd:Value)(cl:List (Str×Addr))(A:Around)(ay:List Env)(s:Shared)(H:Hp)(E:XK):Cx where
 prog:=P
 w:=w
 K:=K
 mg:=mg
 base:=base
 A:=A.deeper (W.envX qual scope s.heap.objs.size f cd cl)
 N:=N
 s₀:=s
 aa:=H
 env:=W.envX qual scope s.heap.objs.size f cd cl
 ay:=ay
 stack:=W.envX qual scope s.heap.objs.size f cd cl::ay
 ex:=[]
 calm:=true
 fn:=λ_=>false
 pn:=[]
 xe:=λe s'=>wpAny (model P w) (A.deeper (W.envX qual scope s.heap.objs.size f cd cl)) (leaving (W.envX qual scope s.heap.objs.size f cd cl) e) (λ_ F6=>CX ay H s E e F6) (λe' F6=>CX ay H s E e' F6) s'
structure kC (h:Heap) (H:Hp) (scope:Scope) (cl:List (Str×Addr)) (N:List Str) (τ:St):Prop where
 inj:∀x y c,cl.lookup x=some c->cl.lookup y=some c->x=y
 has:∀x,scope.names.lookup x=some .free->∃c,cl.lookup x=some c
 cell:∀x c,cl.lookup x=some c->∃v,h.IsCell c v
 free:∀x c,cl.lookup x=some c->H c=none
 val:∀(i:Nat) (x:Str) (v:V),N[i]?=some x->τ[i]?=some (some v)->∃c u,scope.names.lookup x=some .free/\cl.lookup x=some c/\h.IsCell c (some u)/\RelV v u
 len:τ.length=N.length
def kC.un(C:kC h H scope cl N τ)(u:Un fs [] H H' h h'):kC h' H' scope cl N τ where
 inj:=C.inj
 has:=C.has
 cell:=λx c e=>by
  obtain⟨v,o,ho,hd⟩:=C.cell x c e;obtain⟨sl,q⟩:=u.any ho (C.free x c e) (by simp)
  exact⟨v,_,q,hd⟩
 free:=λx c e=>by
  obtain⟨v,o,ho,hd⟩:=C.cell x c e;exact u.free c o ho (C.free x c e) (by simp)
 val:=λi x v e1 e2=>by
  obtain⟨c,w,k,e,⟨o,ho,hd⟩,r⟩:=C.val i x v e1 e2;obtain⟨sl,q⟩:=u.any ho (C.free x c e) (by simp)
  exact⟨c,w,k,e,⟨_,q,hd⟩,r⟩
 len:=C.len
def Kg{K:W.Frag}
  (hk:scope.kind=.function) (hx:scope.names.lookup x=some .local) (nc:∀y∈scope.names,y.2≠.cell) (hd:A.handled=none) (e0:Env0 P w K mg base A ay s H) (r:RelV v u) (C:kC s.heap H scope cl N τ)
  (Df:h1.Ns s.heap.objs.size λy=>[(x,u)].reverse.lookup y) (Xm:∀b o,s.heap.get? b=some o->h1.get? b=some o) :
  Inv (M0 CX P w K mg base (x::N) qual scope f cd cl A ay s H E) [] (some v::τ) H {s with heap:=h1,toks:=tk}:=by
 have noA:∀b:Addr,b∉(M0 CX P w K mg base (x::N) qual scope f cd cl A ay s H E).ex:=λb z=>absurd (show b∈([]:List Addr)from z) (by simp)
 refine⟨⟨e0.mod,hk,rfl,rfl,az _,C.inj,λy hy=>?_,λy c h _=>(by cases h),λ_=>hd,Around.frames_deeper e0.frames,.inr ⟨rfl,rfl⟩,λb z=>absurd z (noA b),e0.bs,e0.bsz,λb _ _=>noA b,λb z=>absurd z (noA b),e0.funs,e0.frf,e0.tabs⟩,
  rfl,e0.bare,Un.kept Xm,⟨_,Df,λi y z h1 h2 h3=>?_⟩,λy c h=>?_,e0.hok.fresh (az _),λy c h=>C.free y c h,λp hp=>absurd (show p∈([]:List (Addr×Obj))from hp) (by simp),e0.hok.kept Xm,?_⟩
 ·have hy:scope.names.lookup y=some .cell\/scope.names.lookup y=some .free:=hy;rcases hy with hy | hy
  ·exact absurd rfl (nc _ (dQ hy))
  ·exact C.has y hy
 ·cases i with
  | zero =>
   have e1:x=y:=bB (h1);have e2:v=z:=by grind
   subst e1 e2;exact⟨u,r,.inl ⟨hx,by simp⟩⟩
  | succ i =>
   obtain⟨c,w',k,e,z',r'⟩:=C.val i y z (by simpa using (show(x::N)[i+1]?=some y from h1)) (by grind)
   exact⟨w',r',.inr ⟨.inr k,c,e,z'.keeps Xm⟩⟩
 ·obtain⟨v,z⟩:=C.cell y c h;exact⟨v,z.keeps Xm⟩
 ·show(some v::τ).length=(x::N).length;rw[dh,dh,C.len]
def Kh{K:W.Frag}
  (ho:s.heap.get? f=some o) (hf:o.data=.func (W.kla_fn name qual pq9 body scope cl pm cC EI)) (yl:s.heap.CodeRec cC qual) (hr:dq (k+1) A) (e0:Env0 P w K mg base A ay s H)
  (hb:bindArgs (W.kla_fn name qual pq9 body scope cl pm cC EI) ⟨[u],[]⟩=pure [(x,u)]) (r:RelV v u) (hk:scope.kind=.function) (OZ:scope.isCoroutine=false) (O0:scope.isGenerator=false) (hx:scope.names.lookup x=some .local) (nc:∀y∈scope.names,y.2≠.cell)
  (C:kC s.heap H scope cl N τ) (hbody:∃t,PE (M0 CX P w K mg base (x::N) qual scope f cC cl A ay s H E) body t/\t (some v::τ) H Q) :
  codeAny (model P w) A (.call (.ref f) ⟨[u],[]⟩) (CR CX ay P w H s Q E) s:=by
 have YK:=e0.mod.nolimit.keeps λb o e=>(e0.bs b o e).1
 refine W.kla_callFunE hr.depth ho hf OZ O0 rfl yl ?_;rw[hb];refine ah (wpAny_newFunctionEnv nc (λy hy=>?_) (λh₁ Df hsb=>⟨YK.fresh _ hsb,?_⟩) hk)
 ·grind
 ·obtain⟨t,ht,hq⟩:=hbody;have Uq:∀b o,s.heap.get? b=some o->h₁.get? b=some o:=λb o e=>hsb.extBut b o (aR (aC e)) (aG _ e)
  have I:=Kg (CX:=CX) (qual:=qual) (f:=f) (cd:=cC) (E:=E) (tk:=s.toks+1) hk hx nc hr.hd e0 r C Df Uq;refine W.kla_codeExpr (ir (ht [] _ _ H Q I hq) (λu' s' hs=>?_) λe s' hs=>hs)
  obtain⟨v',H',J,rv,q⟩:=hs;exact⟨v',H',J.os,J.bare,J.base,J.hok,rv,q⟩
def q0{pos p:Pos}(l:List Value)(h:TriplesOk l)(e:codeAmong p (l++[rawInt pos.line,rawInt pos.col,c])=some cv):codeAmong p l=some cv\/cv=c:=by
 fun_induction TriplesOk l with
 | case1 =>
  simp only[List.nil_append,codeAmong,rawInt]at e;split at e
  ·cases e;exact .inr rfl
  ·cases e
 | case2 a t b u x rest ih =>
  simp only[List.cons_append,codeAmong]at e ⊢;split at e
  ·rename_i hc;rw[if_pos hc];exact .inl e
  ·rename_i hc;rw[if_neg hc];exact ih h e
 | case3 l h1 h2=>exact h.elim
def uM:HO:=.ext λ_=>True
def zK(e:h.get? a=some o):eR P w H h a (.nk o uM):=⟨e,trivial,⟨o,e⟩,λ_ _ _ _=>trivial⟩
def wx(mg:Str->Option Value)(base:Heap):Prop:=∃bm o,mg "__builtins__"=some (.ref bm)/\bm≠builtinsNs/\bm≠mainGlobals/\base.get? bm=some o/\o.cls=.type "module"/\o.dict=some builtinsNs/\o.data=.plain
def Gh(H:Hp)(f:Addr)(qual:Str)(params:Arguments)(body:Expr)(scope:Scope)(cl:List (Str×Addr)):Prop :=
 ∃o u pm cC EI c oc uc vs t,H f=some (.nk o u)/\o.data=.func (W.kla_fn "<lambda>" qual params body scope cl pm cC EI)/\cC=.ref c/\H c=some (.nk oc uc)/\oc.data=.fields vs/\vs[1]?=some (.str qual t)
def Y1(qual:Str)(params:Arguments)(body:Expr)(scope:Scope)(cl:List (Str×Addr)):TE:=λ_ H Q=>∀f H',H f=none->cg H H'->(∀b o,H' b=some o->H b=some o\/H b=none)->Gh H' f qual params body scope cl->Q (.ref f) H'
section
variable {X:Cx} {x:Str} {params:Arguments} {body:Expr} {scope:Scope} {lp:Pos} {cl:List (Str×Addr)} {c T:Addr}
def O1(hx:x∈cX)(ht:W.tabIn X.K x=some (c,T))(hC:W.codeHdIn X.K c T=true)(M3:X.env.code=.ref c)(Ur:X.env.qual++"<lambda>"=v3 x)(hB:wx X.mg X.base)
  (Y2:defaultsOf pq9 X.env=([],[])) (hcl:closureFor scope X.env=pure cl):PE X (.Lambda pq9 body scope lp) (Y1 (v3 x) pq9 body scope cl):=by
 intro af s σ H Q I h;have hT:=I.tabs x hx c T ht;obtain⟨ps,hP,Xn,M4⟩:=(I.hok T _ hT);have C:=W.codeHd_of_K I.n9 hC;have hg:=I.mod.glob.keeps I.bk;obtain⟨bm,ob,b1,b2,b3,b4,b5⟩:=hB;have ne:∀{b:Addr} {o:Obj},X.base.get? b=some o->b≠T:=λ{b o} e z=>by
  have:=(I.bs b o e).2;rw[z,hT]at this;cases this
 refine W.kla_eval Y2 ?_;rw[Ur];cases hc:codeAmong lp ps.toList with
 | some cv =>
  obtain⟨cc,oc,uc,vs,t,rfl,k1,k2,k3⟩:=M4 lp cv hc;refine W.kla_makeFunctionHit hcl I.ok.glob hg M3 C hP Xn hc ⟨bm,ob,b1,b2,b3,ne b4,(I.bs _ _ b4).1,b5⟩ λEI h' tk hk hsz=>?_
  have hn:=I.hok.fresh hsz;refine⟨.ref h'.objs.size,bM H h'.objs.size (.nk _ uM),I.laid (λb u e=>aG _ (hk b u e)) hsz (zK (bc _ rfl)),rfl,h _ _ hn (λb u e=>by rw[aH (bG e hn)];exact e) (λb o e=>?_) ?_⟩
  ·by_cases hb:b=h'.objs.size
   ·grind
   ·rw[aH hb]at e;exact .inl e
  ·exact⟨_,_,_,_,_,cc,oc,uc,vs,t,aq,rfl,rfl,by rw[aH (bG k1 hn)];exact k1,k2,k3⟩
 | none =>
  refine W.kla_makeFunction hcl I.ok.glob hg M3 C hP Xn hc (by
   obtain⟨o,es,ep,e,_⟩:=I.mod.glob;exact ne e) ⟨bm,ob,b1,b2,b3,ne b4,(I.bs _ _ b4).1,b5⟩ λc' EI h' tk zL O2 dH Y3 htb=>?_
  obtain⟨acZ,oc,vs,t,e2,Xa,hd,hv⟩:=Y3;cases e2;have Xo:=I.hok.fresh O2;have O3:=I.hok.fresh (bh O2 (iq dH));have nfc:=mJ dH;have cT:c'≠T:=λz=>by rw[z,hT]at Xo;cases Xo
  have fT:h'.objs.size≠T:=λz=>by rw[z,hT]at O3;cases O3
  let o1:HO:=.nk oc uM
  let H1:Hp:=bM H c' o1
  have hn1:H1 h'.objs.size=none:=by show bM H c' o1 _=_;rw[aH nfc];exact O3
  let fo:Obj:=W.kla_obj "<lambda>" (v3 x) pq9 body scope cl ((X.mg "__name__").getD .none) c' EI
  let H2:Hp:=bM H1 h'.objs.size (.nk fo uM)
  have M5:cg H H1:=λb u e=>by show bM H c' o1 b=_;rw[aH (bG e Xo)];exact e
  have s12:cg H1 H2:=λb u e=>by show bM H1 _ _ b=_;rw[aH (bG e hn1)];exact e
  have keep:∀b o,b≠T->s.heap.get? b=some o->(h'.push fo).get? b=some o:=λb o hb e=>aG _ (zL b o hb e)
  have nT:∀b,H b=none->b≠T:=λb n z=>by rw[z,hT]at n;cases n
  have lt:∀b o,s.heap.get? b=some o->b<s.heap.objs.size:=λb o e=>aC e
  have hf2:∀b o,s.heap.get? b=some o->H b=none->H2 b=none:=λb o e n=>by
   show bM (bM H c' o1) _ _ b=none;have l1:=lt b o e;rw[aH (aR (bR l1 (bh O2 (iq dH)))),aH (aR (bR l1 O2))];exact n
  have un:Un X.fs [] H H2 s.heap (h'.push fo):=⟨λb o e n _ _=>keep b o (nT b n) e,λb o e n _ _=>⟨o.slots,keep b o (nT b n) e⟩,λb o e n _=>hf2 b o e n,λb o e _=>by
    by_cases hb:b=T
    ·subst hb;exact⟨_,aG _ htb⟩
    ·exact⟨o,keep b o hb e⟩,λb xs e=>s12 _ _ (M5 _ _ e),λb o u e=>s12 _ _ (M5 _ _ e),λb q e=>s12 _ _ (M5 _ _ e)⟩
  have hok:kA X.prog X.w H2 (h'.push fo):=λb u e=>by
   by_cases Us:b=h'.objs.size
   ·subst Us;have e:bM H1 h'.objs.size (.nk fo uM) h'.objs.size=some u:=e;rw[aq]at e;cases e;exact zK (bc _ rfl)
   ·have e:bM H1 h'.objs.size (.nk fo uM) b=some u:=e;rw[aH Us]at e;by_cases Ut:b=c'
    ·subst Ut;have e:bM H b o1 b=some u:=e;rw[aq]at e;cases e;exact zK (aG _ Xa)
    ·have e:bM H c' o1 b=some u:=e;rw[aH Ut]at e;by_cases hbT:b=T
     ·subst hbT;rw[hT]at e;cases e;refine⟨_,aG _ htb,?_,λpos cv z=>?_⟩
      ·simpa using TriplesOk_snoc lp.line lp.col (.ref c') ps.toList Xn
      ·rcases q0 ps.toList Xn (by simpa using z)with z | z
       ·obtain⟨cc,oc',uc,uN,t',q1,q2,q3⟩:=M4 pos cv z;exact⟨cc,oc',uc,uN,t',q1,s12 _ _ (M5 _ _ q2),q3⟩
       ·exact⟨c',oc,uM,vs,t,z,s12 _ _ (by show bM H c' o1 c'=_;exact aq),hd,hv⟩
     ·refine(I.hok b u e).uB (λd v Jg q=>keep d v ?_ q) (λd q=>s12 _ _ (M5 _ _ q)) (λd xs q=>s12 _ _ (M5 _ _ q)) λd ob' v q=>s12 _ _ (M5 _ _ q)
      rcases Jg with rfl | Jg
      ·exact hbT
      ·rintro rfl
       rw[hT]at Jg;cases Jg
  refine⟨.ref h'.objs.size,H2,I.un un hok,rfl,h _ _ O3 (M5.trans s12) (λb o e=>?_) ?_⟩
  ·by_cases Us:b=h'.objs.size
   ·rw[Us];exact .inr O3
   ·have e:bM H1 h'.objs.size (.nk fo uM) b=some o:=e;rw[aH Us]at e;by_cases Ut:b=c'
    ·rw[Ut];exact .inr Xo
    ·have e:bM H c' o1 b=some o:=e;rw[aH Ut]at e;exact .inl e
  ·exact⟨_,_,_,_,_,c',oc,uM,vs,t,(aq),rfl,rfl,s12 _ _ (aq),hd,hv⟩
end
def Uu{K:W.Frag}{st:Stmt}(Fn:zc K x qual st f fd)(S:dj N ps (ao st))
  (hr:dq (k+1) A) (e0:Env0 P w K mg base A ay s H) (hb:BindsTo s fd args (ps.zip us)) (r:Vals vs us) (hl:vs.length=ps.length)
  (hbody:∀cC:Value,∃t,PSs (ek CX P w K mg base N qual (ao st) f cC A ay s H E) (cO st) t/\t {nx:=λ_ H'=>Q .bL H',rt:=Q} (start N vs) H) :
  codeAny (model P w) A (.call (.ref f) args) (CR CX ay P w H s Q E) s:=by
 obtain⟨oc,od,kV,doc,pm,an,cC,ct,rM,rfl,lk,yl⟩:=Fn.ex;have old:∀b o,base.get? b=some o->s.heap.get? b=some o:=λb o e=>(e0.bs b o e).1
 have KX:=e0.mod.kin.keeps old;have Uv:∀y∈ps.zip us,(ao st).names.lookup y.1=some .local\/((ao st).names.lookup y.1=some .cell/\((cellsFrom (s.heap.objs.size+1) (ao st).names []).lookup y.1).isSome=true):=λy hy=>by
  rcases S.par y.1 (ui hy).1 with q | q
  ·exact .inl q
  ·exact .inr ⟨q,W.cellsFrom_some _ _ _ (.inl q)⟩
 refine codeAny_call_function hr.depth (KX _ _ lk) rfl S.co S.gen rfl (W.codeRec_of KX yl) (hb _ _ _ _ (EZ S.kind Uv λenv he s1 ic=>?_))
 subst he;refine⟨(e0.mod.nolimit.keeps old).keeps ic.toInCall.keep,codeAny_func ?_⟩;obtain⟨t,ht,hq⟩:=hbody cC;have I:Inv (ek CX P w K mg base N qual (ao st) f cC A ay s H E) [] (start N vs) H s1:=r0 S hr.hd e0 hl r ic;refine ir (ht [] s1 (start N vs) H _ I hq) (λfl s' hs=>?_) λe s' hs=>hs
 have gh:∀{bj:St} {H':Hp} {v:V} {u:Value},Inv (ek CX P w K mg base N qual (ao st) f cC A ay s H E) [] bj H' s'->RelV v u->Q v H'->CE ay P w H s Q u s':=λ{_ H' v _} J rv q=>⟨v,H',J.os,J.bare,J.base,J.hok,rv,q⟩
 cases fl with
 | ret u=>obtain⟨v,bj,H',J,rv,q⟩:=hs;exact gh J rv q
 | next=>obtain⟨bj,H',J,q⟩:=hs;exact gh (v:=V.bL) J rfl q
 | brk=>obtain⟨_,_,_,q⟩:=hs;exact False.elim q
 | cont=>obtain⟨_,_,_,q⟩:=hs;exact False.elim q
end L2
namespace L2.U
open PySem PySem.Spec PyProof.Rows
def nw{α:Sort u}(a:α):∃x,x=a:=⟨_,rfl⟩
abbrev PV.lst (ps:List PV):PV:=.nd .lst ps
structure Gr (F F':Fz):Prop where
 s:cg F.F F'.F
 m:∀(n:Nat) (a:Addr),F.μ[n]?=some a->F'.μ[n]?=some a
def Gr.refl(F:Fz):Gr F F:=⟨cg.refl _,λ_ _ h=>h⟩
def Gr.trans(a:Gr F F1)(b:Gr F1 F2):Gr F F2:=⟨a.s.trans b.s,λn c h=>b.m n c (a.m n c h)⟩
def aK{K:W.Frag}(e:cg H H')(h:fX K H a xs):fX K H' a xs:=by
 rcases h with(h | ⟨o,h⟩) | h
 ·exact .inl (.inl (e _ _ h))
 ·exact .inl (.inr ⟨o,e _ _ h⟩)
 ·exact .inr h
def Ki(e:cg H H')(h:Rd H a u):Rd H' a u:=h.imp (e _ _) (by rintro⟨o,q⟩;exact⟨o,e _ _ q⟩)
def pO{K:W.Frag}(e:cg H H')(h:iu K H a xs):iu K H' a xs:=h.imp (Ki e) id
def _root_.L2.iu.of{K:W.Frag}(h:H a=some (.lst xs)):iu K H a xs:=.inl (.inl h)
section
variable {K:W.Frag} {F F':Fz}
def jK.to(h:jK K G H a x k vs)(g:cg G G')(e:∀o,H a=some o->H' a=some o)(hy:y=true->x=true):jK K G' H' a y k vs:=by
 have keys:∀{xs:List (List da×Addr×Value)},dB K G xs->dB K G' xs:=λhk z hz=>aK g (hk z hz)
 match k,h with
 | .aw,⟨h1,h2⟩ =>
  refine⟨?_,?_⟩
  ·grind
  ·rcases h2 with(h2 | ⟨o,h2⟩) | h2
   ·exact .inl (.inl (e _ h2))
   ·exact .inl (.inr ⟨o,e _ h2⟩)
   ·exact .inr h2
 | .lst,h =>
  cases y with
  | true=>rw[hy rfl]at h;exact e _ h
  | false =>
   cases x with
   | true=>exact iu.of (e _ h)
   | false =>
    rcases(h)with(h | ⟨o,h⟩) | h
    ·exact .inl (.inl (e _ h))
    ·exact .inl (.inr ⟨o,e _ h⟩)
    ·exact .inr h
 | .ins C ns,⟨Ca,dx,fs,h1,h2,h3,h4,h5⟩=>exact⟨Ca,dx,fs,h1,h2,h3,e _ h4,h5⟩
 | .iy false ks,⟨kvs,h1,h2⟩=>exact⟨kvs,e _ h1,h2⟩
 | .iy true ks,⟨xs,h1,h2,h3⟩=>exact⟨xs,e _ h1,keys h2,h3⟩
mutual
theorem bu.mono(e:Gr F F'):∀{p:PV} {v:V},bu K F p v->bu K F' p v
 | .bL,_,h=>by simpa only[bu]using h
 | .bl _,_,h=>by simpa only[bu]using h
 | .int _,_,h=>by simpa only[bu]using h
 | .str _,_,h=>by simpa only[bu]using h
 | .fn _,_,h=>by simpa only[bu]using h
 | .ref n,_,h=>by
  simp only[bu]at h ⊢;obtain⟨a,h1,h2⟩:=h;exact⟨a,e.m _ _ h1,h2⟩
 | .nd k ps,_,h=>by
  simp only[bu]at h ⊢;obtain⟨a,vs,h1,h2,h3⟩:=h;exact⟨a,vs,h1,h2.to e.s (λo q=>e.s _ _ q) id,ax.mono e h3⟩
theorem ax.mono(e:Gr F F'):∀{ps:List PV} {vs:List V},ax K F ps vs->ax K F' ps vs
 | [],_,h=>by simpa only[ax]using h
 | _::_,_,h=>by
  simp only[ax]at h ⊢;obtain⟨v,r,h1,h2,h3⟩:=h;exact⟨v,r,h1,h2.mono e,ax.mono e h3⟩
end
def ax.bU(h:ax K F (p::ps) vs):∃v r,vs=v::r/\bu K F p v/\ax K F ps r:=by
 simpa only[ax]using h
def ax.cj(h:ax K F [] vs):vs=[]:=by simpa only[ax]using h
theorem pP:∀{ps:List PV} {vs:List V},ax K F ps vs↔Paired (bu K F) ps vs
 | [],vs=>⟨λh=>by rw[h.cj];exact .nil,λh=>by cases h;exact .nil⟩
 | p::ps,vs=>⟨λh=>by obtain⟨v,r,rfl,h1,h2⟩:=h.bU;exact .cons h1 (pP.mp h2),λh=>by cases h with | cons h1 h2=>exact .cons h1 (pP.mpr h2)⟩
def ax.length(h:ax K F ps vs):ps.length=vs.length:=mI (pP.mp h)
theorem ax.append:∀{ps qs:List PV} {vs ws:List V},ax K F ps vs->ax K F qs ws->ax K F (ps++qs) (vs++ws)
 | [],_,_,_,h,t=>by rw[h.cj];exact t
 | _::_,_,_,_,h,t=>by
  obtain⟨v,r,rfl,h1,h2⟩:=h.bU;exact .cons h1 (h2.append t)
theorem ax.get:∀{ps:List PV} {vs:List V} {i:Nat} {p:PV},ax K F ps vs->ps[i]?=some p->∃v,vs[i]?=some v/\bu K F p v
 | [],_,_,_,_,e=>by cases e
 | _::_,_,0,_,h,e=>by
  obtain⟨v,r,rfl,h1,_⟩:=h.bU;cases e;exact⟨v,rfl,h1⟩
 | _::_,_,_+1,_,h,e=>by
  obtain⟨v,r,rfl,_,h2⟩:=h.bU;exact h2.get e
theorem ax.take:∀{ps:List PV} {vs:List V} (n:Nat),ax K F ps vs->ax K F (ps.take n) (vs.take n)
 | _,_,0,_=>by simp only[List.take_zero];exact .nil
 | [],_,_+1,h=>by rw[h.cj];simp only[List.take_nil];exact .nil
 | _::_,_,n+1,h=>by
  obtain⟨v,r,rfl,h1,h2⟩:=h.bU;exact .cons h1 (h2.take n)
theorem ax.drop:∀{ps:List PV} {vs:List V} (n:Nat),ax K F ps vs->ax K F (ps.drop n) (vs.drop n)
 | _,_,0,h=>h
 | [],_,_+1,h=>by rw[h.cj];simp only[List.drop_nil];exact .nil
 | _::_,_,n+1,h=>by
  obtain⟨v,r,rfl,_,h2⟩:=h.bU;exact h2.drop n
theorem ax.set(r:bu K F p v):∀{ps:List PV} {vs:List V} (i:Nat),ax K F ps vs->ax K F (ps.set i p) (vs.set i v)
 | [],_,_,h=>by rw[h.cj];exact .nil
 | _::_,_,0,h=>by
  obtain⟨v,r',rfl,_,h2⟩:=h.bU;exact .cons r h2
 | _::_,_,i+1,h=>by
  obtain⟨v,r',rfl,h1,h2⟩:=h.bU;exact .cons h1 (h2.set r i)
theorem ax.reverse:∀{ps:List PV} {vs:List V},ax K F ps vs->ax K F ps.reverse vs.reverse
 | [],_,h=>by rw[h.cj];exact .nil
 | _::_,_,h=>by
  obtain⟨v,r,rfl,h1,h2⟩:=h.bU;rw[t8,t8];exact h2.reverse.append (.cons h1 .nil)
def cz:bu K F (.ref n) v↔∃a,F.μ[n]?=some a/\v=.ref a:=by simp only[bu]
def mV:bu K F (.fn x) v↔∃a,v=.ref a/\W.nsIn K mainGlobals x=some (some (.ref a)):=by simp only[bu]
def dJ:bu K F (.lst ps) v↔∃a vs,v=.ref a/\iu K F.F a vs/\ax K F ps vs:=iz
end
structure ak where
 k:Kd
 ps:List PV
structure bJ where
 ρ:List (Option PV)
 h:List ak
def live(c:ak):Bool:=match c.k with | .aw=>false | _=>true
structure jA (K:W.Frag) (aa:Hp) (ab F:Fz) (h:List ak) (H:Hp):Prop where
 sub:cg F.F H
 keep:cg aa H
 base:Gr ab F
 fresh:∀a o,F.F a=some o->ab.F a=some o\/aa a=none
 new:∀(n:Nat) (a:Addr),F.μ[n]?=some a->aa a=none/\∃o,H a=some o
 hl:h.length=F.μ.length
 nd:F.μ.Nodup
 cell:∀(n:Nat) (c:ak) (a:Addr),h[n]?=some c->F.μ[n]?=some a->live c=true->F.F a=none/\∃vs,jK K F.F H a true c.k vs/\ax K F c.ps vs
structure Lc (K:W.Frag) (F:Fz) (ρ:List (Option PV)) (σ:St):Prop where
 av:∀(i:Nat) (p:PV),ρ[i]?=some (some p)->∃v,σ[i]?=some (some v)/\bu K F p v
 len:ρ.length=σ.length
structure Rep (K:W.Frag) (aa:Hp) (ab F:Fz) (st:bJ) (σ:St) (H:Hp):Prop where
 c:jA K aa ab F st.h H
 l:Lc K F st.ρ σ
def dW(h:H p=none):cg H (bM H p o):=λb u q=>by rw[aH (bG q h)];exact q
section
variable {K:W.Frag} {aa H H':Hp} {ab F F':Fz} {h:List ak} {st:bJ} {σ:St}
def Lc.mono(L:Lc K F ρ σ)(e:Gr F F'):Lc K F' ρ σ:=⟨λi p z=>let ⟨v,h1,h2⟩:=L.av i p z;⟨v,h1,h2.mono e⟩,L.len⟩
def jA.after(R:jA K aa ab F h H)(e:cg H H')(f:cg F.F F'.F)(m:F'.μ=F.μ)(s:cg F'.F H')(n:∀a o,F'.F a=some o->F.F a=some o\/H a=none):jA K aa ab F' h H' where
 sub:=s
 keep:=R.keep.trans e
 base:=R.base.trans ⟨f,λ_ _ q=>by rw[m];exact q⟩
 fresh:=λa o q=>by
  rcases n a o q with z | z
  ·exact R.fresh a o z
  ·exact .inr (R.keep.free z)
 new:=λn a q=>by rw[m]at q;obtain⟨h1,o,h2⟩:=R.new n a q;exact⟨h1,o,e _ _ h2⟩
 hl:=by rw[m];exact R.hl
 nd:=by rw[m];exact R.nd
 cell:=λi c a hc ha hk=>by
  rw[m]at ha;obtain⟨h1,vs,h2,h3⟩:=R.cell i c a hc ha hk;refine⟨?_,vs,h2.to f (λo q=>e _ _ q) id,h3.mono ⟨f,λ_ _ q=>by rw[m];exact q⟩⟩
  obtain⟨_,o,ho⟩:=R.new i a ha;cases q:F'.F a with
  | none=>rfl
  | some u =>
   rcases n a u q with z | z
   ·rw[h1]at z;cases z
   ·rw[ho]at z;cases z
def Rep.after(R:Rep K aa ab F st σ H)(e:cg H H')(f:cg F.F F'.F)(m:F'.μ=F.μ)(s:cg F'.F H')(n:∀a o,F'.F a=some o->F.F a=some o\/H a=none):Rep K aa ab F' st σ H' :=
 ⟨R.c.after e f m s n,R.l.mono ⟨f,λ_ _ q=>by grind⟩⟩
def Rep.sub(R:Rep K aa ab F st σ H):cg F.F H:=R.c.sub
def Rep.laid(R:Rep K aa ab F st σ H)(o:HO)(hp:H p=none):Rep K aa ab ⟨bM F.F p o,F.μ⟩ st σ (bM H p o)/\Gr F ⟨bM F.F p o,F.μ⟩:=by
 have fp:=R.sub.free hp;refine⟨R.after (dW hp) (dW fp) rfl (λb u q=>?_) (λb u q=>?_),dW fp,λ_ _ q=>q⟩
 ·by_cases hb:b=p
  ·subst hb;rw[show(Fz.mk (bM F.F b o) F.μ).F b=bM F.F b o b from rfl,aq]at q;rw[aq];exact q
  ·rw[show(Fz.mk (bM F.F p o) F.μ).F b=bM F.F p o b from rfl,aH hb]at q;rw[aH hb];exact R.sub _ _ q
 ·by_cases hb:b=p
  ·grind
  ·rw[show(Fz.mk (bM F.F p o) F.μ).F b=bM F.F p o b from rfl,aH hb]at q;exact .inl q
def jA.alloc(R:jA K aa ab F h H)(hp:H p=none)(hn:jK K F.F (bM H p o) p true c.k vs)(hb:ax K F c.ps vs) :
  jA K aa ab ⟨F.F,F.μ++[p]⟩ (h++[c]) (bM H p o)/\Gr F ⟨F.F,F.μ++[p]⟩/\(F.μ++[p])[h.length]?=some p:=by
 have g:Gr F ⟨F.F,F.μ++[p]⟩:=⟨cg.refl _,λn a q=>by
  grind⟩
 have Uw:∀n a,(F.μ++[p])[n]?=some a->F.μ[n]?=some a\/n=F.μ.length/\a=p:=λn a q=>by
  grind
 have no:∀n a,F.μ[n]?=some a->a≠p:=λn a q z=>by
  subst z;obtain⟨_,o,ho⟩:=R.new n a q;rw[hp]at ho;cases ho
 refine⟨⟨λb u q=>by rw[aH (bG (R.sub _ _ q) hp)];exact R.sub _ _ q,R.keep.trans (dW hp),R.base.trans g,R.fresh,λn a q=>?_,by simp[R.hl],?_,λn d a hd ha hk=>?_⟩,g,by rw[R.hl];simp⟩
 ·rcases Uw n a q with z | ⟨_,rfl⟩
  ·obtain⟨h1,u,h2⟩:=R.new n a z;exact⟨h1,u,dW hp _ _ h2⟩
  ·exact⟨R.keep.free hp,o,aq⟩
 ·rw[List.nodup_append];refine⟨R.nd,by simp,λa ha b hb z=>?_⟩
  obtain⟨n,hn⟩:=oE.mp ha;rw[cH]at hb;exact no n a hn (z.trans hb)
 ·rcases Uw n a ha with z | ⟨rfl,rfl⟩
  ·rw[j3 (by rw[R.hl];exact(b6.mp z).1)]at hd
   obtain⟨h1,ws,h2,h3⟩:=R.cell n d a hd z hk;exact⟨h1,ws,h2.to (cg.refl _) (λu q=>dW hp _ _ q) id,h3.mono g⟩
  ·rw[<-R.hl,yu (az _),Nat.sub_self]at hd;cases hd;exact⟨R.sub.free hp,vs,hn,hb.mono g⟩
def jA.write(R:jA K aa ab F h H)(hc:h[n]?=some c)(hl:live c=true)(ha:F.μ[n]?=some a)(hn:jK K F.F (bM H a o) a true d.k vs)(hb:ax K F d.ps vs) :
  jA K aa ab F (h.set n d) (bM H a o):=by
 obtain⟨hF,_⟩:=R.cell n c a hc ha hl;refine⟨λb u q=>by rw[aH (λz=>by grind)];exact R.sub _ _ q,λb u q=>?_,R.base,R.fresh,λm b q=>?_,by rw[ip];exact R.hl,R.nd,λm e b he iC hk=>?_⟩
 ·rw[aH (λz=>by subst z;rw[(R.new n b ha).1]at q;cases q)];exact R.keep _ _ q
 ·obtain⟨h1,u,h2⟩:=R.new m b q;refine⟨h1,?_⟩;by_cases hb:b=a
  ·subst hb;exact⟨o,aq⟩
  ·exact⟨u,by rw[aH hb];exact h2⟩
 ·by_cases hm:n=m
  ·grind
  ·rw[gB hm]at he;obtain⟨h1,ws,h2,h3⟩:=R.cell m e b he iC hk;have ne:b≠a:=λz=>by
    subst z;obtain⟨l1,e1⟩:=b6.mp iC;obtain⟨l2,e2⟩:=b6.mp ha;exact hm ((ud R.nd).mp (e2.trans e1.symm))
   exact⟨h1,ws,h2.to (cg.refl _) (λu q=>by rw[aH ne];exact q) id,h3⟩
end
def _root_.L2.PE.imp(h:PE X e t)(hi:∀σ H Q,t' σ H Q->t σ H Q):PE X e t':=λaf s σ H Q I hw=>h af s σ H Q I (hi _ _ _ hw)
def _root_.L2.PT.imp(h:PT X e t)(hi:∀σ H Q,t' σ H Q->t σ H Q):PT X e t':=λaf s σ H Q I hw=>h af s σ H Q I (hi _ _ _ hw)
def _root_.L2.PW.imp(h:PW X e t)(hi:∀σ H Q,t' σ H Q->t σ H Q):PW X e t':=λw af s σ H Q I hw=>h w af s σ H Q I (hi _ _ _ hw)
def _root_.L2.PA.imp(h:PA X e t)(hi:∀σ H Q,t' σ H Q->t σ H Q):PA X e t':=λpos af s σ H Q I hw=>h pos af s σ H Q I (hi _ _ _ hw)
def _root_.L2.PS.imp{st:Stmt}(h:PS X st t)(hi:∀D σ H,t' D σ H->t D σ H):PS X st t':=λaf s σ H D I hw=>h af s σ H D I (hi _ _ _ hw)
def _root_.L2.PSs.imp{st:List Stmt}(h:PSs X st t)(hi:∀D σ H,t' D σ H->t D σ H):PSs X st t':=λaf s σ H D I hw=>h af s σ H D I (hi _ _ _ hw)
def _root_.L2.PG.imp(h:PG X e t)(hi:∀v σ H Q,t' v σ H Q->t v σ H Q):PG X e t':=λaf s σ H v u Q I r hw=>h af s σ H v u Q I r (hi _ _ _ _ hw)
def _root_.L2.PGs.imp(h:PGs X e t)(hi:∀v σ H Q,t' v σ H Q->t v σ H Q):PGs X e t':=λaf s σ H v u Q I r hw=>h af s σ H v u Q I r (hi _ _ _ _ hw)
def _root_.L2.PI.imp(h:PI X tg e t)(hi:∀σ H Q,t' σ H Q->t σ H Q):PI X tg e t':=λaf s σ H R I hw=>h af s σ H R I (hi _ _ _ hw)
inductive Rs (α:Type) where
 | ok (a:α) | ex (m:Bool) (C:Str)
abbrev Gx(α:Type):=bJ->Option (Rs α×bJ)
def Ux{α β:Type}(k:α->Gx β):Rs α×bJ->Option (Rs β×bJ)
 | (.ok a,st)=>k a st
 | (.ex m C,st)=>some (.ex m C,st)
def bnd{α β:Type}(f:Gx α)(k:α->Gx β):Gx β:=λst=>(f st).bind (Ux k)
def aP{α:Type}(a:α):Gx α:=λst=>some (.ok a,st)
def hp{α:Type}(g:List ak->Option α):Gx α:=λst=>(g st.h).map λa=>(.ok a,st)
def gI{α:Type}(o:Option α):Gx α:=λst=>o.map λa=>(.ok a,st)
def Dm(H H':Hp):Prop:=∀b o,H b=some o->∃o',H' b=some o'
def gP(P:Program)(w:World):EG:=λay H s E e s'=>∃a cls a0 B H',e=.ref a/\s'.os=s.os/\AllBare s'.gens/\Un (mP ay) [] H H' s.heap s'.heap/\kA P w H' s'.heap/\Dm H H'/\E cls none H' /\
 Heap.FlyingW B ay a cls a0 s'.heap/\(∀b o,H' b=some o->∃ob,B.get? b=some ob)/\∀b ob,s.heap.get? b=some ob->H b=none->b∉mP ay->B.get? b=some ob
def wz:zD (gP P w) X E0:=(by rintro _ _ _ _ _ _ _ ⟨_,_,_,_,_,_,_,_,_,_,_,h,_⟩;exact h.elim)
def Gi(X:Cx)(aa:Hp)(ab F:Fz)(C:Str)(st:bJ):Bool->Prop
 | true=>∀F' bj H' af s h1 a cls vs,Rep X.K aa ab F' st bj H'->Gr F F'->Inv X af bj H' s->ClsAt X.K C cls->Heap.MadeExcOf s.heap h1 a cls vs->X.xe (.ref a) {s with heap:=h1}
 | false=>∀bj af H1 s1 e s',Inv X af bj H1 s1->gP X.prog X.w X.stack H1 s1 (λcls _ H2=>ClsAt X.K C cls/\∃F',Rep X.K aa ab F' st bj H2/\Gr F F') e s'->X.xe e s'
section
variable {X:Cx} {aa H:Hp} {ab F F1:Fz} {st aM:bJ} {σ:St} {α β γ δ:Type}
def Gi.mono(h:Gi X aa ab F C st m)(s:Gr F F1):Gi X aa ab F1 C st m:=by
 cases m with
 | true=>exact λF' bj H' af s1 h1 a cls vs R z=>h F' bj H' af s1 h1 a cls vs R (s.trans z)
 | false =>
  rintro bj af H1 s1 e s' I ⟨a,cls,a0,B,H',h1,h2,h3,h4,h5,h6,⟨c,F',R,z⟩,h8⟩
  exact h bj af H1 s1 e s' I ⟨a,cls,a0,B,H',h1,h2,h3,h4,h5,h6,⟨c,F',R,s.trans z⟩,h8⟩
def Gj(X:Cx)(aa:Hp)(ab F:Fz)(P:α->bJ->Prop):Rs α×bJ->Prop
 | (.ok a,st)=>P a st
 | (.ex m C,st)=>Gi X aa ab F C st m
def At(X:Cx)(aa:Hp)(ab F:Fz)(st:bJ)(f:Gx α)(P:α->bJ->Prop):Prop:=∃r,f st=some r/\Gj X aa ab F P r
def Gj.imp(h:Gj X aa ab F P r)(g:Gr F F1)(i:∀a bI,P a bI->P' a bI):Gj X aa ab F1 P' r:=by
 match r,h with
 | (.ok a,st),h=>exact i a st h
 | (.ex m C,st),h=>exact Gi.mono h g
def At.imp(h:At X aa ab F st f P)(g:Gr F F1)(i:∀a bI,P a bI->P' a bI):At X aa ab F1 st f P' :=
 let ⟨r,h1,h2⟩:=h;⟨r,h1,h2.imp g i⟩
def aI(h:o.bind f=some b):∃a,o=some a/\f a=some b:=by
 cases o with
 | none=>cases h
 | some a=>exact⟨a,rfl,h⟩
def aV(h:o.map f=some b):∃a,o=some a/\f a=b:=by
 simp_all
def At.bnd(h:At X aa ab F st (bnd f k) P):At X aa ab F st f (λa aM=>At X aa ab F aM (k a) P):=by
 obtain⟨r,h1,h2⟩:=h;obtain⟨q,e1,e2⟩:=aI h1;refine⟨q,e1,?_⟩
 match q,e2 with
 | (.ok a,s1),e2=>exact⟨r,e2,h2⟩
 | (.ex m C,s1),e2=>cases e2;exact h2
def At.aP(h:At X aa ab F st (aP a) P):P a st:=by
 obtain⟨r,h1,h2⟩:=h;cases h1;exact h2
def At.hp(h:At X aa ab F st (hp g) P):∃a,g st.h=some a/\P a st:=by
 obtain⟨r,h1,h2⟩:=h;obtain⟨a,e1,e2⟩:=aV h1;subst e2;exact⟨a,e1,h2⟩
def At.gI(h:At X aa ab F st (gI g) P):∃a,g=some a/\P a st:=by
 obtain⟨r,h1,h2⟩:=h;obtain⟨a,e1,e2⟩:=aV h1;subst e2;exact⟨a,e1,h2⟩
def Tx(X:Cx)(aa:Hp)(ab:Fz)(rl:Fz->α->β->Prop)(F:Fz)(st:bJ)(f:Gx α)(σ:St)(Q:β->Hp->Prop):Prop :=
 At X aa ab F st f λa bI=>∀b H' F',Rep X.K aa ab F' bI σ H'->Gr F F'->rl F' a b->Q b H'
def tX(X:Cx)(aa:Hp)(ab:Fz)(rl:Fz->α->β->Prop)(f:Gx α):St->Hp->(β->Hp->Prop)->Prop:=λσ H Q=>∃F st,Rep X.K aa ab F st σ H/\Tx X aa ab rl F st f σ Q
def Tx.mono(h:Tx X aa ab rl F st f σ Q)(g:Gr F F1)(i:∀b H',Q b H'->Q' b H'):Tx X aa ab rl F1 st f σ Q' :=
 At.imp h g λa bI q b H' F' R s r=>i _ _ (q b H' F' R (g.trans s) r)
def Tx.bnd(h:Tx X aa ab rl' F st (bnd f k) σ Q)
  (i:∀a b F1 aM H1,Rep X.K aa ab F1 aM σ H1->Gr F F1->rl F1 a b->Tx X aa ab rl' F1 aM (k a) σ Q->Q' b H1):Tx X aa ab rl F st f σ Q' :=
 At.imp (At.bnd h) (Gr.refl F) λa aM q b H1 F1 R1 g1 r1=>i a b F1 aM H1 R1 g1 r1 (Tx.mono (q) g1 λ_ _ z=>z)
def Tx.aP(h:Tx X aa ab rl F st (aP a) σ Q):∀b H' F',Rep X.K aa ab F' st σ H'->Gr F F'->rl F' a b->Q b H':=At.aP h
def Tx.hp(h:Tx X aa ab rl F st (hp g) σ Q):∃a,g st.h=some a/\∀b H' F',Rep X.K aa ab F' st σ H'->Gr F F'->rl F' a b->Q b H':=At.hp h
def Tx.gI(h:Tx X aa ab rl F st (gI g) σ Q):∃a,g=some a/\∀b H' F',Rep X.K aa ab F' st σ H'->Gr F F'->rl F' a b->Q b H':=At.gI h
end
abbrev rB:Fz->Bool->Bool->Prop:=λ_ a b=>a=b
abbrev tE(X:Cx)(aa:Hp)(ab:Fz)(f:Gx PV):TE:=tX X aa ab (bu X.K) f
abbrev tT(X:Cx)(aa:Hp)(ab:Fz)(f:Gx Bool):TT:=tX X aa ab rB f
abbrev tA(X:Cx)(aa:Hp)(ab:Fz)(f:Gx (List PV)):TA:=tX X aa ab (ax X.K) f
section
variable {X:Cx} {aa:Hp} {ab:Fz} {a b c e:Expr} {es rest:List Expr} {fa fb fc:Gx PV} {ga gb:Gx Bool} {ts:Gx (List PV)} {pos:Pos}
def rd(i:Nat):Gx PV:=λst=>(st.ρ[i]?).join.map λp=>(.ok p,st)
def M6(i:Nat)(h:PE X (.Name x pos) (Oc i)):PE X (.Name x pos) (tE X aa ab (rd i)):=h.imp <| by
 rintro σ H Q ⟨F,st,R,r,h1,h2⟩
 obtain⟨p,e1,e2⟩:=aV h1;subst e2;cases z:st.ρ[i]? with
 | none=>rw[z]at e1;cases e1
 | some o =>
  rw[z]at e1;cases o with
  | none=>cases e1
  | some p' =>
   cases e1;obtain⟨v,h3,h4⟩:=R.l.av i p z;exact⟨v,h3,h2 v H F R (Gr.refl F) h4⟩
def wA(h:PE X e (tC v))(hb:∀F,bu X.K F p v):PE X e (tE X aa ab (aP p)):=h.imp (by rintro σ H Q ⟨F,st,R,q⟩;exact q.aP v H F R (Gr.refl F) (hb F))
def Uy{j pos}:PE X (.Constant (.int i) j pos) (tE X aa ab (aP (.int i))):=wA Od λ_=>aD.mpr rfl
def Y4{j pos}:PE X (.Constant (.bool i) j pos) (tE X aa ab (aP (.bl i))):=wA TJ λ_=>bC.mpr rfl
def Uz{j pos}:PE X (.Constant .none j pos) (tE X aa ab (aP .bL)):=wA Oe λ_=>cR.mpr rfl
def UA{j pos}:PE X (.Constant (.str i) j pos) (tE X aa ab (aP (.str i))):=wA Of λ_=>b7.mpr rfl
abbrev G2:=List ak->PV->PV->Option PV
def rT(K:W.Frag)(g:G2):R2:=λx y H Q=>∃aa ab F st τ pa pb p,g st.h pa pb=some p/\Rep K aa ab F st τ H/\bu K F pa x/\bu K F pb y/\∀v H' F',Rep K aa ab F' st τ H'->Gr F F'->bu K F' p v->Q v H'
abbrev q8(X:Cx)(f:Value->Value->Sem Value)(g:G2):Prop:=OpR X f (rT X.K g)
def op2(g:G2)(fa fb:Gx PV):Gx PV:=bnd fa λx=>bnd fb λy=>hp λh=>g h x y
def oh(h:tE X aa ab (op2 g fa fb) σ H Q):SD (rT X.K g) (tE X aa ab fa) (tE X aa ab fb) σ H Q:=by
 obtain⟨F,st,R,h⟩:=h;refine⟨F,st,R,h.bnd λp v F1 aM H1 R1 g1 b1 h1=>⟨F1,aM,R1,h1.bnd λq w F2 dG H2 R2 g2 b2 h2=>?_⟩⟩
 obtain⟨o,e,z⟩:=h2.hp;exact⟨aa,ab,F2,dG,σ,p,q,o,e,R2,b1.mono g2,b2,z⟩
def Y5(ho:q8 X (binaryOp op) g)(ha:PE X a (tE X aa ab fa))(hb:PE X b (tE X aa ab fb)):PE X (.BinOp a op b pos) (tE X aa ab (op2 g fa fb)):=(MV ho ha hb).imp λ_ _ _ h=>oh h
def UB(ho:q8 X (compareOp op) g)(ha:PE X a (tE X aa ab fa))(hb:PE X b (tE X aa ab fb))(hm:behindInMarks op b=false):PE X (.Compare a [op] [b] pos) (tE X aa ab (op2 g fa fb)):=(JU ho ha hb hm).imp λ_ _ _ h=>oh h
def nz:PV->Option Bool | .bl b=>some b | _=>none
def kD{b:Bool}(h:nz p=some b):p=.bl b:=by
 cases p<;>first | (cases h;rfl) | cases h
def toB(f:Gx PV):Gx Bool:=bnd f λp=>gI (nz p)
def toB_imp(h:tT X aa ab (toB fa) σ H Q):tE X aa ab fa σ H λv H1=>∃k,v=.bl k/\Q k H1:=by
 obtain⟨F,st,R,h⟩:=h;refine⟨F,st,R,h.bnd λp v F1 aM H1 R1 g1 b1 h1=>?_⟩
 obtain⟨k,e,z⟩:=h1.gI;rw[kD e]at b1;exact⟨k,bC.mp b1,z k H1 F1 R1 (Gr.refl _) rfl⟩
def UC(ho:q8 X (compareOp op) g)(ha:PE X a (tE X aa ab fa))(hb:PE X b (tE X aa ab fb))(hm:behindInMarks op b=false):PT X (.Compare a [op] [b] pos) (tT X aa ab (toB (op2 g fa fb))) :=
 (JV ho ha hb hm).imp λ_ _ _ h=>oh (toB_imp h)
def chain(g g':G2)(fa fb fc:Gx PV):Gx PV:=bnd fa λx=>bnd fb λy=>bnd (hp λh=>(g h x y).bind nz) λk=>if k=true then bnd fc λz=>hp λh=>g' h y z else aP (.bl false)
def sg(h:tE X aa ab (chain g g' fa fb fc) σ H Q):zt (rT X.K g) (rT X.K g') (tE X aa ab fa) (tE X aa ab fb) (tE X aa ab fc) σ H Q:=by
 obtain⟨F,st,R,h⟩:=h;refine⟨F,st,R,h.bnd λp v F1 aM H1 R1 g1 b1 h1=>⟨F1,aM,R1,h1.bnd λq w F2 dG H2 R2 g2 b2 h2=>?_⟩⟩
 obtain⟨k,e,z⟩:=At.hp (At.bnd h2);obtain⟨o,e1,e2⟩:=aI e;rw[kD e2]at e1;refine⟨aa,ab,F2,dG,σ,p,q,_,e1,R2,b1.mono g2,b2,λu H3 F3 R3 g3 b3=>⟨k,bC.mp b3,?_⟩⟩
 cases k with
 | true =>
  have z:Tx X aa ab (bu X.K) F2 dG (bnd fc λz=>hp λh=>g' h q z) σ Q:=z
  refine⟨F3,dG,R3,(z.mono g3 λ_ _ y=>y).bnd λt o F4 Bn H4 R4 g4 b4 h4=>?_⟩
  obtain⟨o,e,z⟩:=h4.hp;exact⟨aa,ab,F4,Bn,σ,q,t,o,e,R4,b2.mono (g3.trans g4),b4,z⟩
 | false=>exact Tx.aP z _ H3 F3 R3 g3 (bC.mpr rfl)
def Kj(ho:q8 X (compareOp op) g)(kX:q8 X (compareOp vN) g')(ha:PE X a (tE X aa ab fa))(hb:PE X b (tE X aa ab fb))(hc:PE X c (tE X aa ab fc))
  (hm:lastMarks [op,vN] [b,c]=false):PE X (.Compare a [op,vN] [b,c] pos) (tE X aa ab (chain g g' fa fb fc)):=(FO ho kX ha hb hc hm).imp λ_ _ _ h=>sg h
end
def cm(h:List ak):PV->Option (Kd×List PV)
 | .nd k ps=>some (k,ps)
 | .ref n=>(h[n]?).bind λc=>if live c=true then some (c.k,c.ps)else none
 | _=>none
def bO{α:Type}{c:Prop} [Decidable c] {x:Option α} {y:α} (h:(if c then x else none)=some y):c/\x=some y:=by
 grind
def aB{α:Type}{c:Prop} [Decidable c] {x y:α} (h:(if c then some x else none)=some y):c/\x=y:=by
 grind
section
variable {K:W.Frag} {aa H:Hp} {ab F:Fz} {st:bJ} {σ:St}
def Rep.at(R:Rep K aa ab F st σ H){p:PV}{k:Kd}{ps:List PV}{v:V}(e:cm st.h p=some (k,ps))(b:bu K F p v):∃a vs,v=.ref a/\jK K F.F H a false k vs/\ax K F ps vs:=by
 cases p with
 | nd k' ym =>
  cases e;obtain⟨a,vs,h1,h2,h3⟩:=iz.mp b;exact⟨a,vs,h1,h2.to (cg.refl _) (λo q=>R.sub _ _ q) id,h3⟩
 | ref n =>
  obtain⟨c,e1,e2⟩:=aI e;obtain⟨hl,e3⟩:=aB e2;cases e3;obtain⟨a,h1,h2⟩:=cz.mp b;obtain⟨_,vs,h3,h4⟩:=R.c.cell n c a e1 h1 hl;exact⟨a,vs,h2,h3.to (cg.refl _) (λo q=>q) (λz=>by cases z),h4⟩
 | _=>cases e
def Gk(h:List ak)(p:PV):Option (List PV):=match cm h p with
 | some (.aw,ps)=>some ps
 | some (.lst,ps)=>some ps
 | _=>none
def Rep.seq(R:Rep K aa ab F st σ H){p:PV}{ps:List PV}{v:V}(e:Gk st.h p=some ps)(b:bu K F p v):∃a vs,v=.ref a/\(fX K H a vs\/iu K H a vs)/\ax K F ps vs:=by
 unfold Gk at e;split at e
 ·rename_i z;cases e;obtain⟨a,vs,h1,h2,h3⟩:=R.at z b;exact⟨a,vs,h1,.inl h2.2,h3⟩
 ·rename_i z;cases e;obtain⟨a,vs,h1,h2,h3⟩:=R.at z b;exact⟨a,vs,h1,.inr h2,h3⟩
 ·cases e
def wB(h:List ak):PV->Option Bool
 | .bL=>some false
 | .bl b=>some b
 | .int i=>some (i != 0)
 | p=>match cm h p with
  | some (.aw,ps)=>some !ps.isEmpty
  | some (.lst,ps)=>some !ps.isEmpty
  | some (.iy false _,ps)=>some !ps.isEmpty
  | _=>none
def pQ{ps:List PV}{vs:List V}(h:ax K F ps vs):ps.isEmpty=vs.isEmpty:=by
 cases ps with
 | nil=>rw[h.cj];rfl
 | cons p ps=>obtain⟨v,r,rfl,_,_⟩:=h.bU;rfl
def Rep.M7(R:Rep K aa ab F st σ H){p:PV}{k:Bool}{v:V}(e:wB st.h p=some k)(b:bu K F p v):JW K v H k:=by
 have more:(match cm st.h p with
  | some (.aw,ps)=>some !ps.isEmpty
  | some (.lst,ps)=>some !ps.isEmpty
  | some (.iy false _,ps)=>some !ps.isEmpty
  | _=>none)=some k->JW K v H k:=λe=>by
  split at e
  ·rename_i z;cases e;obtain⟨a,vs,rfl,h2,h3⟩:=R.at z b;exact .inr (.inl ⟨vs,h2.2,by rw[pQ h3]⟩)
  ·rename_i z;cases e;obtain⟨a,vs,rfl,h2,h3⟩:=R.at z b;exact .inl ⟨vs,iu.sq h2,by rw[pQ h3]⟩
  ·rename_i z;cases e;obtain⟨a,vs,rfl,⟨kvs,h2,_,h4⟩,h3⟩:=R.at z b;refine .inr (.inr ⟨kvs,h2,?_⟩);rw[pQ h3,<-h4,List.isEmpty_map]
  ·cases e
 cases p with
 | bL=>rw[cR.mp b];exact(bB e).symm
 | bl c=>rw[bC.mp b];exact(bB e).symm
 | int i=>rw[aD.mp b];exact(bB e).symm
 | str x=>exact more e
 | ref n=>exact more e
 | fn x=>exact more e
 | nd k ps=>exact more e
end
section
variable {X:Cx} {aa:Hp} {ab:Fz} {a b c e:Expr} {es rest:List Expr} {fa fb fc:Gx PV} {ga gb:Gx Bool} {ts:Gx (List PV)} {pos:Pos}
def jM(f:Gx PV):Gx Bool:=bnd f λp=>hp λh=>wB h p
def UD(h:PE X e (tE X aa ab fa))(he:∀iI,isTrue e X.env iI=(do let v <-iI;standAt e.pos;holding [v] (truthy v))):PT X e (tT X aa ab (jM fa)) :=
 (FT h he).imp λσ H Q ⟨F,st,R,h⟩=>⟨F,st,R,h.bnd λp v F1 aM H1 R1 g1 b1 h1=>by
  obtain⟨k,e,z⟩:=h1.hp;exact⟨k,R1.M7 e b1,z k H1 F1 R1 (Gr.refl _) rfl⟩⟩
def Kk{op vN:CmpOp}{g g':G2}(ho:q8 X (compareOp op) g)(kX:q8 X (compareOp vN) g')(ha:PE X a (tE X aa ab fa))(hb:PE X b (tE X aa ab fb))(hc:PE X c (tE X aa ab fc))
  (hm:lastMarks [op,vN] [b,c]=false):PT X (.Compare a [op,vN] [b,c] pos) (tT X aa ab (toB (chain g g' fa fb fc))):=(FP ho kX ha hb hc hm).imp λ_ _ _ h=>sg (toB_imp h)
def dc{α:Type}(gc:Gx Bool)(f g:Gx α):Gx α:=bnd gc λx=>if x=true then f else g
def uO{α β:Type}{rl:Fz->α->β->Prop}{f g:Gx α}{σ:St}{H:Hp}{Q:β->Hp->Prop}(h:tX X aa ab rl (dc ga f g) σ H Q):tT X aa ab ga σ H λc H1=>if c=true then tX X aa ab rl f σ H1 Q else tX X aa ab rl g σ H1 Q:=by
 obtain⟨F,st,R,h⟩:=h;refine⟨F,st,R,h.bnd λx y F1 aM H1 R1 g1 b1 h1=>?_⟩
 cases b1;cases x with
 | true=>exact⟨F1,aM,R1,h1⟩
 | false=>exact⟨F1,aM,R1,h1⟩
def uP{α β:Type}{rl:Fz->α->β->Prop}{a:α}{b:β}{σ:St}{H:Hp}{Q:β->Hp->Prop}(h:tX X aa ab rl (aP a) σ H Q)(hb:∀F,rl F a b):Q b H:=by
 obtain⟨F,st,R,h⟩:=h;exact h.aP b H F R (Gr.refl _) (hb F)
def wC{P P' Q Q':Prop}{c:Bool}(h:if c=true then P else Q)(h1:P->P')(h2:Q->Q'):if c=true then P' else Q':=by
 grind
def Bo{α β:Type}{rl:Fz->α->β->Prop}{f:Gx α}{σ:St}{H:Hp}{Q Q':β->Hp->Prop}(h:tX X aa ab rl f σ H Q)(i:∀b H',Q b H'->Q' b H'):tX X aa ab rl f σ H Q':=let ⟨F,st,R,h⟩:=h;⟨F,st,R,h.mono (Gr.refl _) i⟩
def UE(ha:PT X a (tT X aa ab ga))(hb:PW X (.BoolOp .And (b::rest) pos) (tT X aa ab gb)):PW X (.BoolOp .And (a::b::rest) pos) (tT X aa ab (dc ga gb (aP false))) :=
 (Oh ha hb).imp λσ H Q h=>Bo (uO h) λ_ _ z=>wC z id λz=>uP z λ_=>rfl
def Y6(ha:PT X a (tT X aa ab ga))(hb:PW X (.BoolOp .Or (b::rest) pos) (tT X aa ab gb)):PW X (.BoolOp .Or (a::b::rest) pos) (tT X aa ab (dc ga (aP true) gb)) :=
 (TK ha hb).imp λσ H Q h=>Bo (uO h) λ_ _ z=>wC z (λz=>uP z λ_=>rfl) id
def uQ(f:Gx Bool):Gx Bool:=bnd f λx=>aP !x
def UG(ha:PT X a (tT X aa ab ga)):PT X (.UnaryOp .Not a pos) (tT X aa ab (uQ ga)):=(Oi ha).imp λσ H Q ⟨F,st,R,h⟩=>⟨F,st,R,h.bnd λx y F1 aM H1 R1 g1 b1 h1=>by
 cases b1;exact h1.aP _ H1 F1 R1 (Gr.refl _) rfl⟩
def Gn(fa fb:Gx PV):Gx PV:=bnd fa λx=>bnd (hp λh=>wB h x) λk=>if k=true then fb else aP x
def Xp(fa fb:Gx PV):Gx PV:=bnd fa λx=>bnd (hp λh=>wB h x) λk=>if k=true then aP x else fb
def Gp{f g:PV->Gx PV}{af:List (Addr×Obj)}{s:Shared}{σ:St}{H:Hp}{Q:VK}(ha:PE X a (tE X aa ab fa))(I:Inv X af σ H s)
  (h:tE X aa ab (bnd fa λx=>bnd (hp λh=>wB h x) λk=>if k=true then f x else g x) σ H Q) :
  wpAny (model X.prog X.w) X.A (eval a X.env) (λv s1=>wpAny (model X.prog X.w) X.A (truthy v) (λk s2=>∃p xv F1 aM H1,Inv X af σ H1 s2/\RelV xv v/\Rep X.K aa ab F1 aM σ H1/\bu X.K F1 p xv/\Tx X aa ab (bu X.K) F1 aM (if k=true then f p else g p) σ Q) X.xe s1) X.xe s:=by
 obtain⟨F,st,R,h⟩:=h;refine thn (ha af s σ H (λv H1=>∃F1 aM p,Rep X.K aa ab F1 aM σ H1/\bu X.K F1 p v/\Tx X aa ab (bu X.K) F1 aM (bnd (hp λh=>wB h p) λk=>if k=true then f p else g p) σ Q) I
  ⟨F,st,R,h.bnd λp v F1 aM H1 R1 g1 b1 h1=>⟨F1,aM,p,R1,b1,h1⟩⟩) λv s1 ⟨xv,H1,I1,r1,F1,aM,p,R1,b1,h1⟩=>?_
 obtain⟨k,e,z⟩:=At.hp (At.bnd h1);exact thn (FQ af s1 σ H1 xv v (λk' H'=>k'=k/\H'=H1) I1 r1 ⟨k,R1.M7 e b1,rfl,rfl⟩) <| by
  rintro c s2 ⟨H2,I2,ec,eh⟩
  subst ec eh;exact⟨p,xv,F1,aM,H2,I2,r1,R1,b1,z⟩
def Y7(ha:PE X a (tE X aa ab fa))(hb:PE X (.BoolOp .Or (b::rest) pos) (tE X aa ab fb)):PE X (.BoolOp .Or (a::b::rest) pos) (tE X aa ab (Xp fa fb)):=λaf s σ H Q I h =>
 BoolOp_or (thn (Gp ha I h) λv s1 z=>thn z <| by
  rintro k s2 ⟨p,xv,F1,aM,H1,I1,r1,R1,b1,z⟩
  cases k with
  | true=>exact⟨xv,H1,I1,r1,Tx.aP (z) _ H1 F1 R1 (Gr.refl _) b1⟩
  | false=>exact hb af s2 σ H1 Q I1 ⟨F1,aM,R1,z⟩)
def UH(ha:PE X a (tE X aa ab fa))(hb:PE X (.BoolOp .And (b::rest) pos) (tE X aa ab fb)):PE X (.BoolOp .And (a::b::rest) pos) (tE X aa ab (Gn fa fb)):=λaf s σ H Q I h =>
 BoolOp_and (thn (Gp ha I h) λv s1 z=>thn z <| by
  rintro k s2 ⟨p,xv,F1,aM,H1,I1,r1,R1,b1,z⟩
  cases k with
  | false=>exact⟨xv,H1,I1,r1,Tx.aP (z) _ H1 F1 R1 (Gr.refl _) b1⟩
  | true=>exact hb af s2 σ H1 Q I1 ⟨F1,aM,R1,z⟩)
def O4(fa:Gx PV):Gx PV:=bnd (toB fa) λx=>aP (.bl !x)
def UI(ha:PE X a (tE X aa ab fa)):PE X (.UnaryOp .Not a pos) (tE X aa ab (O4 fa)):=(Oj ha).imp λσ H Q ⟨F,st,R,h⟩ =>
 toB_imp ⟨F,st,R,h.bnd λx y F1 aM H1 R1 g1 b1 h1=>by
  cases b1;exact h1.aP _ H1 F1 R1 (Gr.refl _) (bC.mpr rfl)⟩
def Y8(hc:PT X c (tT X aa ab ga))(ha:PE X a (tE X aa ab fa))(hb:PE X b (tE X aa ab fb)):PE X (.IfExp c a b pos) (tE X aa ab (dc ga fa fb)):=(FC hc ha hb).imp λ_ _ _ h=>uO h
def aj(f:Gx PV)(g:Gx (List PV)):Gx (List PV):=bnd f λx=>bnd g λxs=>aP (x::xs)
def UJ:PA X [] (tA X aa ab (aP [])):=pF.imp λσ H Q h=>uP h λ_=>.nil
def O5(ha:PE X e (tE X aa ab fa))(hr:PA X es (tA X aa ab ts))(hs:starEach (e::es) X.env=(false,eval e X.env)::starEach es X.env:=by rfl):PA X (e::es) (tA X aa ab (aj fa ts)) :=
 (gp ha hr hs).imp (by rintro σ H Q ⟨F,st,R,h⟩;exact⟨F,st,R,h.bnd λp v F1 aM H1 R1 g1 b1 h1=>⟨F1,aM,R1,h1.bnd λps vs F2 dG H2 R2 g2 b2 h2=>h2.aP _ H2 F2 R2 (Gr.refl _) (.cons (b1.mono g2) b2)⟩⟩)
def ib:Nat:=4000000
def dC{n:Nat}(h:n<=ib):n<=sizeLine:=bh h (by decide)
def small(ps:List PV)(p:PV):Option PV:=if ps.length<=ib then some p else none
def jX(k:Kd)(ts:Gx (List PV)):Gx PV:=bnd ts λps=>gI (small ps (.nd k ps))
def UK{x1}(h:PA X es (tA X aa ab ts)):PE X (.Tuple es x1 pos) (tE X aa ab (jX .aw ts)):=(OM h).imp λσ H Q ⟨F,st,R,h⟩=>⟨F,st,R,h.bnd λps vs F1 aM H1 R1 g1 b1 h1=>by
 obtain⟨p,e,z⟩:=h1.gI;obtain⟨hl,rfl⟩:=aB e;refine⟨dC (by rw[<-b1.length];exact hl),λa hn=>?_⟩
 obtain⟨R2,s2⟩:=R1.laid (.aw vs) hn;exact z _ _ _ R2 s2 (bH.mpr ⟨a,vs,rfl,fX.of aq,b1.mono s2⟩)⟩
def UL(h:PA X es (tA X aa ab ts)):PE X (.List es pos) (tE X aa ab (jX .lst ts)):=(FW h).imp λσ H Q ⟨F,st,R,h⟩=>⟨F,st,R,h.bnd λps vs F1 aM H1 R1 g1 b1 h1=>by
 obtain⟨p,e,z⟩:=h1.gI;obtain⟨hl,rfl⟩:=aB e;refine⟨dC (by rw[<-b1.length];exact hl),λa hn=>?_⟩
 obtain⟨R2,s2⟩:=R1.laid (.lst vs) hn;exact z _ _ _ R2 s2 (dJ.mpr ⟨a,vs,rfl,iu.of aq,b1.mono s2⟩)⟩
def lr(c:ak):Gx PV:=λst=>some (.ok (.ref st.h.length),⟨st.ρ,st.h++[c]⟩)
def Tx.lr{c:ak}{F:Fz}{st:bJ}{σ:St}{H:Hp}{Q:VK}{p:Addr}{o:HO}{vs:List V}(h:Tx X aa ab (bu X.K) F st (lr c) σ Q)(R:Rep X.K aa ab F st σ H)(hp:H p=none)
  (hn:jK X.K F.F (bM H p o) p true c.k vs) (hb:ax X.K F c.ps vs):Q (.ref p) (bM H p o):=by
 obtain⟨r,h1,h2⟩:=h;cases h1;obtain⟨C,g,hm⟩:=R.c.alloc hp hn hb;exact h2 _ _ _ ⟨C,R.l.mono g⟩ g (cz.mpr ⟨p,hm,rfl⟩)
def Km(ts:Gx (List PV)):Gx PV:=bnd ts λps=>bnd (gI (small ps .bL)) λ_=>lr ⟨.lst,ps⟩
def O6(h:PA X es (tA X aa ab ts)):PE X (.List es pos) (tE X aa ab (Km ts)):=(FW h).imp λσ H Q ⟨F,st,R,h⟩=>⟨F,st,R,h.bnd λps vs F1 aM H1 R1 g1 b1 h1=>by
 obtain⟨p,e,z⟩:=At.gI (At.bnd h1);obtain⟨hl,rfl⟩:=aB e;exact⟨dC (by rw[<-b1.length];exact hl),λa hn=>Tx.lr z R1 hn aq b1⟩⟩
end
inductive dn where
 | nx | bk | ct | rt (p:PV)
def wD(X:Cx)(aa:Hp)(ab F:Fz)(D:px):dn->bJ->Prop
 | .nx,st=>∀F' bj H',Rep X.K aa ab F' st bj H'->Gr F F'->D.nx bj H'
 | .bk,st=>∀F' bj H',Rep X.K aa ab F' st bj H'->Gr F F'->D.bk bj H'
 | .ct,st=>∀F' bj H',Rep X.K aa ab F' st bj H'->Gr F F'->D.ct bj H'
 | .rt p,st=>∀v F' H',jA X.K aa ab F' st.h H'->Gr F F'->bu X.K F' p v->D.rt v H'
def Sa(X:Cx)(aa:Hp)(ab F:Fz)(D:px)(st:bJ)(f:Gx dn):Prop:=At X aa ab F st f (wD X aa ab F D)
def tS(X:Cx)(aa:Hp)(ab:Fz)(f:Gx dn):TS:=λD σ H=>∃F st,Rep X.K aa ab F st σ H/\Sa X aa ab F D st f
section
variable {X:Cx} {aa:Hp} {ab F F1:Fz} {D:px} {st:bJ} {α β:Type}
theorem wD.mono(g:Gr F F1):∀(o:dn) (st:bJ),wD X aa ab F D o st->wD X aa ab F1 D o st
 | .nx,_,h=>λF' bj H' R z=>h F' bj H' R (g.trans z)
 | .bk,_,h=>λF' bj H' R z=>h F' bj H' R (g.trans z)
 | .ct,_,h=>λF' bj H' R z=>h F' bj H' R (g.trans z)
 | .rt _,_,h=>λv F' H' R z=>h v F' H' R (g.trans z)
def Sa.mono(h:Sa X aa ab F D st f)(g:Gr F F1):Sa X aa ab F1 D st f:=At.imp h g (wD.mono g)
def Sa.bnd(h:Sa X aa ab F D st (bnd f k))
  (i:∀a b F1 aM H1,Rep X.K aa ab F1 aM σ H1->Gr F F1->rl F1 a b->Sa X aa ab F1 D aM (k a)->Q b H1):Tx X aa ab rl F st f σ Q :=
 At.imp (At.bnd h) (Gr.refl F) λa aM q b H1 F1 R1 g1 r1=>i a b F1 aM H1 R1 g1 r1 (Sa.mono q g1)
end
section
variable {X:Cx} {aa:Hp} {ab:Fz} {a b c e tg iter:Expr} {es:List Expr} {fe:Gx PV} {gc:Gx Bool} {pos:Pos} {s:Stmt} {ss body:List Stmt} {f g fb:Gx dn}
def onK(g:Gx dn):dn->Gx dn
 | .nx=>g
 | .bk=>aP .bk
 | .ct=>aP .ct
 | .rt p=>aP (.rt p)
def eu(f g:Gx dn):Gx dn:=bnd f (onK g)
def O7:PSs X [] (tS X aa ab (aP .nx)):=JH.imp (by rintro D σ H ⟨F,st,R,h⟩;exact At.aP h F σ H R (Gr.refl F))
def Ko(h1:PS X s (tS X aa ab f))(h2:PSs X ss (tS X aa ab g)):PSs X (s::ss) (tS X aa ab (eu f g)):=(FD h1 h2).imp λD σ H ⟨F,st,R,h⟩ =>
 ⟨F,st,R,At.imp (At.bnd h) (Gr.refl F) λo aM q=>match o,q with
  | .nx,q=>λF1 iA H1 R1 g1=>⟨F1,aM,R1,Sa.mono q g1⟩
  | .bk,q=>λF' bj H'=>At.aP q F' bj H'
  | .ct,q=>λF' bj H'=>At.aP q F' bj H'
  | .rt p,q=>λv F' H'=>At.aP q v F' H'⟩
def O8(h1:PS X s (tS X aa ab f)):PSs X [s] (tS X aa ab f):=Bb h1
def O9:PS X (.Pass pos) (tS X aa ab (aP .nx)):=JI.imp (by rintro D σ H ⟨F,st,R,h⟩;exact At.aP h F σ H R (Gr.refl F))
def Kq:PS X (.Break pos) (tS X aa ab (aP .bk)):=FE.imp (by rintro D σ H ⟨F,st,R,h⟩;exact At.aP h F σ H R (Gr.refl F))
def Pa:PS X (.Continue pos) (tS X aa ab (aP .ct)):=v9.imp (by rintro D σ H ⟨F,st,R,h⟩;exact At.aP h F σ H R (Gr.refl F))
def nN(fe:Gx PV):Gx dn:=bnd fe λp=>aP (.rt p)
def M8(he:PE X e (tE X aa ab fe)):PS X (.Return (some e) pos) (tS X aa ab (nN fe)):=(Om he).imp (by rintro D σ H ⟨F,st,R,h⟩;exact⟨F,st,R,h.bnd λp v F1 aM H1 R1 g1 b1 h1=>At.aP h1 v F1 H1 R1.c (Gr.refl _) b1⟩)
def Pb:PS X (.Return none pos) (tS X aa ab (aP (.rt .bL))):=JK.imp (by rintro D σ H ⟨F,st,R,h⟩;exact At.aP h _ F H R.c (Gr.refl _) (cR.mpr rfl))
def Y9(hc:PT X c (tT X aa ab gc))(ha:PSs X p (tS X aa ab f))(hb:PSs X r (tS X aa ab g)):PS X (.If c p r pos) (tS X aa ab (dc gc f g)) :=
 (TR hc ha hb).imp λD σ H ⟨F,st,R,h⟩=>⟨F,st,R,h.bnd λx y F1 aM H1 R1 g1 b1 h1=>by
  cases b1;cases x with
  | true=>exact⟨F1,aM,R1,h1⟩
  | false=>exact⟨F1,aM,R1,h1⟩⟩
def gr(fe:Gx PV):Gx dn:=bnd fe λ_=>aP .nx
def Pc(he:PE X e (tE X aa ab fe))(hs:swapsWith e none pos.line X.env=pure false:=by rfl):PS X (.Expr e pos) (tS X aa ab (gr fe)):=(JJ he hs).imp λD σ H ⟨F,st,R,h⟩ =>
 ⟨F,st,R,h.bnd λp v F1 aM H1 R1 g1 b1 h1=>At.aP h1 F1 σ H1 R1 (Gr.refl _)⟩
abbrev Tg:=PV->bJ->Option bJ
abbrev SG:=List PV->bJ->Option bJ
def tG(K:W.Frag)(aa:Hp)(ab:Fz)(g:Tg):TG:=λv σ H Q=>∃F st p bI,Rep K aa ab F st σ H/\bu K F p v/\g p st=some bI/\∀bj H' F',Rep K aa ab F' bI bj H'->Gr F F'->Q bj H'
def UM(K:W.Frag)(aa:Hp)(ab:Fz)(g:SG):Oo:=λvs σ H Q=>∃F st ps bI,Rep K aa ab F st σ H/\ax K F ps vs/\g ps st=some bI/\∀bj H' F',Rep K aa ab F' bI bj H'->Gr F F'->Q bj H'
def b9(i:Nat):Tg:=λp st=>if i<st.ρ.length then some ⟨st.ρ.set i (some p),st.h⟩else none
def Lc.set{K:W.Frag}(L:Lc K F ρ σ)(hi:i<ρ.length)(hb:bu K F p v):Lc K F (ρ.set i (some p)) (σ.set i (some v)) where
 av:=λj q e=>by
  by_cases h:i=j
  ·subst h;rw[j4 hi]at e;cases e;exact⟨v,j4 (by rw[<-L.len];exact hi),hb⟩
  ·rw[gB h]at e;rw[gB h];exact L.av j q e
 len:=by rw[ip,ip];exact L.len
def Pd(i:Nat)(h:PG X (.Name x pos) (gName i)):PG X (.Name x pos) (tG X.K aa ab (b9 i)):=h.imp <| by
 rintro v σ H Q ⟨F,st,p,bI,R,hb,hf,q⟩
 obtain⟨hi,rfl⟩:=aB hf;exact q _ _ _ ⟨R.c,R.l.set hi hb⟩ (Gr.refl F)
def wG:SG:=λps st=>match ps with | []=>some st | _=>none
def je(g:Tg)(r:SG):SG:=λps st=>match ps with | p::ps=>(g p st).bind λbI=>r ps bI | []=>none
def Pe:PGs X [] (UM X.K aa ab wG):=JM.imp <| by
 rintro vs σ H Q ⟨F,st,ps,bI,R,hb,hf,q⟩
 cases ps with
 | nil=>cases hf;exact⟨hb.cj,q _ _ _ R (Gr.refl F)⟩
 | cons _ _=>cases hf
def Kr(h1:PG X e (tG X.K aa ab t))(h2:PGs X es (UM X.K aa ab u))(hs:(assignEach (e::es) X.env).map (·.2)=assign e X.env::(assignEach es X.env).map (·.2):=by rfl) :
  PGs X (e::es) (UM X.K aa ab (je t u)):=(FH h1 h2 hs).imp <| by
 rintro vs σ H Q ⟨F,st,ps,bI,R,hb,hf,q⟩
 cases ps with
 | nil=>cases hf
 | cons p ps =>
  obtain⟨v,r,rfl,b1,b2⟩:=hb.bU;obtain⟨aM,e1,e2⟩:=aI hf;exact⟨v,r,rfl,F,st,p,aM,R,b1,e1,λiA H1 F1 R1 s1=>⟨F1,aM,ps,bI,R1,b2.mono s1,e2,λqR H2 F2 R2 s2=>q qR H2 F2 R2 (s1.trans s2)⟩⟩
def q9(n:Nat)(t:SG):Tg:=λp st=>match p with | .nd .aw ps=>if ps.length=n then t ps st else none | _=>none
def UN(hc:X.calm=true)(h:PGs X es (UM X.K aa ab t))(hn:(assignEach es X.env).length=n:=by rfl)(mQ:(assignEach es X.env).findIdx? (·.1)=none:=by rfl) :
  PG X (.Tuple es k pos) (tG X.K aa ab (q9 n t)):=(Oq hc h hn mQ).imp <| by
 rintro v σ H Q ⟨F,st,p,bI,R,hb,hf,q⟩
 unfold q9 at hf;split at hf
 ·rename_i ps;obtain⟨hl,hf⟩:=bO hf;obtain⟨a,vs,rfl,hs,Bp⟩:=bH.mp hb;exact⟨a,vs,rfl,aK R.sub hs,by rw[<-Bp.length];exact hl,F,st,ps,bI,R,Bp,hf,q⟩
 ·cases hf
def stp(g:bJ->Option bJ):Gx dn:=λst=>(g st).map λbI=>(.ok .nx,bI)
def Sa.stp{st:bJ}{g:bJ->Option bJ}(h:Sa X aa ab F D st (stp g)):∃bI,g st=some bI/\∀F' bj H',Rep X.K aa ab F' bI bj H'->Gr F F'->D.nx bj H':=by
 obtain⟨r,h1,h2⟩:=h;obtain⟨bI,e1,e2⟩:=aV h1;subst e2;exact⟨bI,e1,h2⟩
def fq(fe:Gx PV)(g:Tg):Gx dn:=bnd fe λp=>stp (g p)
def Ks{g:Tg}(h:tS X aa ab (fq fe g) D σ H):JN (tE X aa ab fe) (tG X.K aa ab g) D σ H:=by
 obtain⟨F,st,R,h⟩:=h;refine⟨F,st,R,h.bnd λp v F1 aM H1 R1 g1 b1 h1=>?_⟩
 obtain⟨bI,e,z⟩:=h1.stp;exact⟨F1,aM,p,bI,R1,b1,e,λqR H2 F2 R2 s2=>z F2 qR H2 R2 s2⟩
def UO{g:Tg}(he:PE X e (tE X aa ab fe))(hg:PG X tg (tG X.K aa ab g))(hs:swapsWithSole [tg] e pos.line X.env=pure false:=by rfl)(hw:swappedStores [tg] e X.env=pure none:=by rfl)
  (h1:(assignEach [tg] X.env).map (·.2)=[assign tg X.env]:=by rfl):PS X (.Assign [tg] e pos) (tS X aa ab (fq fe g)):=(FI he hg hs hw h1).imp λ_ _ _ h=>Ks h
def Walk(K:W.Frag)(F:Fz)(ps:List PV)(J:It):Prop:=∀(aa:Hp) (ab F':Fz) (st:bJ) (σ:St) (H:Hp),Rep K aa ab F' st σ H->Gr F F'->∀i:Nat,
 (∀p,ps[i]?=some p->J.go i H/\∀x H',J.yld i H x H'->∃Gq,Rep K aa ab Gq st σ H'/\Gr F' Gq/\bu K Gq p x)/\(ps[i]?=none->J.stop i H)
abbrev tI(X:Cx)(aa:Hp)(ab:Fz)(f:Gx (List PV)):TI:=tX X aa ab (Walk X.K) f
def wH(r:Gx dn):dn->Gx dn
 | .nx=>r
 | .ct=>r
 | .bk=>aP .nx
 | .rt p=>aP (.rt p)
def dD(g:Tg)(body:Gx dn):List PV->Gx dn
 | []=>aP .nx
 | p::ps=>bnd (stp (g p)) λ_=>bnd body (wH (dD g body ps))
def Sa.mR{st:bJ}(N:St->Hp->Prop)(hN:∀F1 aM iA H1,Rep X.K aa ab F1 aM iA H1->Gr F F1->Sa X aa ab F1 D aM r->N iA H1)(h:Sa X aa ab F D st (U.bnd fb (wH r))):Sa X aa ab F {D with nx:=N,ct:=N,bk:=D.nx} st fb :=
 At.imp (At.bnd h) (Gr.refl F) λo aM q=>match o,q with
  | .nx,q=>λF1 iA H1 R1 g1=>hN F1 aM iA H1 R1 g1 (Sa.mono q g1)
  | .ct,q=>λF1 iA H1 R1 g1=>hN F1 aM iA H1 R1 g1 (Sa.mono q g1)
  | .bk,q=>λF' bj H'=>At.aP q F' bj H'
  | .rt p,q=>λv F' H'=>At.aP q v F' H'
def gJ(gc:Gx Bool)(body:Gx dn):Nat->Gx dn
 | 0=>λ_=>none
 | n+1=>bnd gc λc=>if c=true then bnd body (wH (gJ gc body n))else aP .nx
def Kt(n:Nat)(hp:PassesOwn (model X.prog X.w) X.A X.env X.xe)(hc:PT X c (tT X aa ab gc))(hb:PSs X body (tS X aa ab fb)):PS X (.While c body [] pos) (tS X aa ab (gJ gc fb n)) :=
 (FJ hp hc hb).imp <| by
 rintro D σ H ⟨F,st,R,h⟩
 refine⟨λm bj H'=>∃F' bI,Rep X.K aa ab F' bI bj H'/\Sa X aa ab F' D bI (gJ gc fb m),⟨n,F,st,R,h⟩,λm bj H' ⟨F',bI,R',h'⟩=>?_⟩
 cases m with
 | zero=>obtain⟨r,e,_⟩:=h';cases e
 | succ m =>
  refine⟨F',bI,R',Sa.bnd h' λx y F1 aM H1 R1 g1 b1 h1=>?_⟩
  cases b1;cases x with
  | false=>exact At.aP h1 F1 bj H1 R1 (Gr.refl _)
  | true=>exact⟨λqR H2=>∃F2 dG,Rep X.K aa ab F2 dG qR H2/\Sa X aa ab F2 D dG (gJ gc fb m),λqR H2 n2=>⟨m,mE m,n2⟩,F1,aM,R1,Sa.mR _ (λF4 Bn Jk H4 R4 g4 z=>⟨F4,Bn,R4,z⟩) h1⟩
end
def _root_.L2.Inv.pS(I:Inv X af σ H s)(h:iu X.K H a xs):∃(aA:List Value) (n:Nat),Vals xs aA/\s.heap.get? a=some {cls:=.type "list",data:=.seq aA.toArray n}/\xs.length<=sizeLine:=by
 rcases h with h | ⟨aA,n,e,z,r⟩
 ·obtain⟨z,aA,n,r,e⟩:=h.ok I.hok;exact⟨aA,n,r,e,z⟩
 ·exact⟨aA,n,r,I.n9 a _ e,by rw[r.length];exact z⟩
def sizeOk(n:Nat)(p:PV):Option PV:=if n<=ib then some p else none
def jf(h:sizeOk n p=some q):n<=sizeLine/\p=q:=by
 obtain⟨h1,h2⟩:=aB h;exact⟨dC h1,h2⟩
def fA(h:List ak)(p:PV):Option (List PV):=match cm h p with | some (.lst,ps)=>some ps | _=>none
def cY(e:fA h p=some ps):cm h p=some (.lst,ps):=by
 unfold fA at e;split at e
 ·grind
 ·cases e
def gQ:G2:=λh p q=>match p,q with
 | .int i,.int j=>some (.int (i+j))
 | .str x,.str y=>sizeOk (x.length+y.length) (.str (x++y))
 | .nd .aw xs,.nd .aw ys=>sizeOk (xs.length+ys.length) (.aw (xs++ys))
 | p,q=>(fA h p).bind λxs=>(fA h q).bind λys=>sizeOk (xs.length+ys.length) (.lst (xs++ys))
def nO(c:Int->Int->Bool)(f:Int->Int->PV):G2:=λ_ p q=>match p,q with
 | .int i,.int j=>if c i j=true then some (f i j)else none
 | _,_=>none
def pT:Int:=18446744073709551616
def UP:G2:=nO (λ_ _=>true) λi j=>.int (i-j)
def Pf:G2:=nO (λi j=>decide ((-pT<i/\i<pT)\/(-pT<j/\j<pT))) λi j=>.int (i*j)
def gR:G2:=nO (λ_ j=>decide (0<j/\j<1073741824)) λi j=>.int (i/j)
def iS:G2:=nO (λ_ j=>decide (0<j)) λi j=>.int (i%j)
def Ku:G2:=nO (λi j=>decide (0<=j/\j<=1000/\i.natAbs<1000)) λi j=>.int (i^j.toNat)
def Ph:G2:=nO (λ_ _=>true) λi j=>.bl (decide (i<j))
def Pj:G2:=nO (λ_ _=>true) λi j=>.bl (decide (i<=j))
def Pl:G2:=nO (λ_ _=>true) λi j=>.bl (decide (j<=i))
section
variable {X:Cx}
def Gu{ws:List Value}(ht:IsTup s.heap t ([]:List Value).toArray)(hb:IsTup s.heap b ws.toArray)(h1:Q (.ref b) s):wpAny (model prog w) A (binaryOp .Add (.ref t) (.ref b)) Q E s:=by
 obtain⟨⟨cls,dd,data,sl⟩,ho,hc,n,hd⟩:=id ht;obtain⟨⟨YM,Xf,Ua,Xg⟩,OO,Ub,n2,Uc⟩:=id hb;simp only at hc hd Ub Uc;subst hc hd Ub Uc;exact concat_meets ⟨_,ho,rfl⟩ ⟨_,OO,rfl⟩ yW seq_tuple_add yE yC (yz _ _) (tuple_addW0 t b _ ws.toArray n n2 dd Xf sl Xg (by simp)) ⟨ho,OO,h1⟩
def Kv:q8 X (binaryOp .Add) gQ:=by
 rintro af s σ H x y v u Q I rx ry ⟨aa,ab,F,st,τ,pa,pb,p,e,R,ba,bb,k⟩
 unfold gQ at e;split at e
 ·cases e;rw[aD.mp ba]at rx;rw[aD.mp bb]at ry;exact OA af s σ H _ _ v u Q I rx ry ⟨_,_,rfl,rfl,k _ H F R (Gr.refl F) (aD.mpr rfl)⟩
 ·obtain⟨hz,rfl⟩:=jf e;rw[b7.mp ba]at rx;rw[b7.mp bb]at ry;exact zw af s σ H _ _ v u Q I rx ry ⟨_,_,rfl,rfl,hz,k _ H F R (Gr.refl F) (b7.mpr rfl)⟩
 ·rename_i xs ys;obtain⟨hz,rfl⟩:=jf e;obtain⟨a,vs,rfl,ha,fB⟩:=bH.mp ba;obtain⟨b,ws,rfl,hb,Jl⟩:=bH.mp bb;have Pm:=aK R.sub ha;have iC:=aK R.sub hb;cases xs with
  | nil =>
   rw[fB.cj]at Pm;cases rx;cases ry;obtain⟨aA,r1,p1,_⟩:=I.tuple Pm;obtain⟨et,r2,p2,_⟩:=I.tuple iC;cases r1;exact Gu p1 p2 ⟨.ref b,H,I,rfl,k _ H F R (Gr.refl F) (bH.mpr ⟨b,ws,rfl,hb,Jl⟩)⟩
  | cons x0 xr =>
   refine J7 af s σ H _ _ v u Q I rx ry ⟨a,b,vs,ws,rfl,rfl,Pm,iC,?_,by rw[<-fB.length,<-Jl.length];exact hz,λz=>?_,λz q hq=>?_⟩
   ·intro z;have:=fB.length;rw[z]at this;cases this
   ·subst z;have hy:=j1 Jl.length;subst hy;rw[fg]at k;exact k _ H F R (Gr.refl F) (bH.mpr ⟨a,vs,rfl,ha,fB⟩)
   ·obtain⟨R2,s2⟩:=R.laid (.aw (vs++ws)) hq;exact k _ _ _ R2 s2 (bH.mpr ⟨q,_,rfl,fX.of aq,(fB.append Jl).mono s2⟩)
 ·obtain⟨xs,e1,e⟩:=aI e;obtain⟨ys,e2,e⟩:=aI e;obtain⟨hz,rfl⟩:=jf e;obtain⟨a,vs,rfl,ha,fB⟩:=R.at (cY e1) ba;obtain⟨b,ws,rfl,hb,Jl⟩:=R.at (cY e2) bb;cases rx;cases ry;obtain⟨aA,n,r,e1,z1⟩:=I.pS ha;obtain⟨et,n2,r2,e2,z2⟩:=I.pS hb;have hl:=r.length;have SH:=r2.length;have hz':vs.length+ws.length<=sizeLine:=by rw[<-fB.length,<-Jl.length];exact hz
  refine PySem.P.add_list e1 e2 ?_ (by grind)
  have ea:aA.toArray++et.toArray=(aA++et).toArray:=by simp
  rw[ea];obtain⟨R2,s2⟩:=R.laid (.lst (vs++ws)) I.fresh;exact⟨.ref _,_,I.OW (r.append r2) (by grind),rfl,k _ _ _ R2 s2 (dJ.mpr ⟨_,_,rfl,iu.of aq,(fB.append Jl).mono s2⟩)⟩
def fz(ho:OpR X f (rI C h))(hc:∀i j,c i j=true->C i j)(hg:∀i j F,bu X.K F (g i j) (h i j)):q8 X f (nO c g):=by
 rintro af s σ H x y v u Q I rx ry ⟨aa,ab,F,st,τ,pa,pb,p,e,R,ba,bb,k⟩
 unfold nO at e;split at e
 ·obtain⟨h1,rfl⟩:=aB e;rw[aD.mp ba]at rx;rw[aD.mp bb]at ry;exact ho af s σ H _ _ v u Q I rx ry ⟨_,_,rfl,rfl,hc _ _ h1,k _ H F R (Gr.refl F) (hg _ _ F)⟩
 ·cases e
def sh(ho:OpR X f (Ji h)):OpR X f (rI (λ_ _=>True) h):=(by rintro af s σ H x y v u Q I rx ry ⟨i,j,h1,h2,_,q⟩;exact ho af s σ H x y v u Q I rx ry ⟨i,j,h1,h2,q⟩)
end
def Pn:Operator->Option G2
 | .Add=>some gQ
 | .Sub=>some UP
 | .Mult=>some Pf
 | .FloorDiv=>some gR
 | .Mod=>some iS
 | .Pow=>some Ku
 | _=>none
def Bq(h:Pn op=some g):q8 X (binaryOp op) g:=by
 unfold Pn at h;split at h<;>cases h
 ·exact Kv
 ·exact fz (sh OB) (by grind) λ_ _ _=>aD.mpr rfl
 ·exact fz OC (λi j e=>show(-pT<i/\i<pT)\/(-pT<j/\j<pT)from dv e) λ_ _ _=>aD.mpr rfl
 ·exact fz JR (λ_ j e=>show 0<j/\j<1073741824 from dv e) λ_ _ _=>aD.mpr rfl
 ·exact fz OD (λ_ _ e=>dv e) λ_ _ _=>aD.mpr rfl
 ·exact fz OE (λ_ _ e=>let ⟨h1,h2,h3⟩:=dv e;⟨h1,by lia,kn h3 (by decide)⟩) λ_ _ _=>aD.mpr rfl
inductive Tr where
 | bL | bl (b:Bool) | int (i:Int) | str (x:Str) | aw (xs:List Tr) | lst (xs:List Tr)
mutual
def eqT:Tr->Tr->Bool
 | .bL,.bL=>true
 | .bl a,.bl b=>a==b
 | .bl a,.int b=>(if a then 1 else 0)==b
 | .int a,.bl b=>a==(if b then 1 else 0)
 | .int a,.int b=>a==b
 | .str a,.str b=>a==b
 | .aw xs,.aw ys=>rf xs ys
 | .lst xs,.lst ys=>rf xs ys
 | _,_=>false
def rf:List Tr->List Tr->Bool
 | [],[]=>true
 | x::xs,y::ys=>eqT x y&&rf xs ys
 | _,_=>false
end
mutual
def dep:Tr->Nat
 | .aw xs=>jN xs+1
 | .lst xs=>jN xs+1
 | _=>0
def jN:List Tr->Nat
 | []=>0
 | x::xs=>max (dep x) (jN xs)
end
mutual
theorem lu:∀p:Tr,eqT p p=true
 | .bL=>rfl
 | .bl b=>kf b
 | .int b=>kf b
 | .str b=>kf b
 | .aw xs=>mW xs
 | .lst xs=>mW xs
theorem mW:∀ps:List Tr,rf ps ps=true
 | []=>rfl
 | x::xs=>gA.mpr ⟨lu x,mW xs⟩
end
theorem lx:∀{xs ys:List Tr},xs.length≠ys.length->rf xs ys=false
 | [],[],h=>absurd rfl h
 | [],_::_,_=>rfl
 | _::_,[],_=>rfl
 | x::xs,y::ys,h=>by show(eqT x y&&rf xs ys)=false;rw[lx (by simpa using h),Bool.and_false]
def pU(xs ys:List Tr)(j:Nat):Bool:=match xs[j]?,ys[j]? with
 | some x,some y=>eqT x y
 | _,_=>true
theorem ly:∀{xs ys:List Tr},xs.length=ys.length->(List.range xs.length).all (pU xs ys)=rf xs ys
 | [],[],_=>rfl
 | [],_::_,h=>by cases h
 | _::_,[],h=>by cases h
 | x::xs,y::ys,h=>by
  have ih:=ly (by simpa using h)
  rw[dh,List.range_succ_eq_map,fF,List.all_map];have e0:pU (x::xs) (y::ys) 0=eqT x y:=rfl;have e1:(pU (x::xs) (y::ys) ∘ Nat.succ)=pU xs ys:=by
   funext j
   simp[pU,Function.comp]
  rw[e0,e1,ih];rfl
def Br(h1:xs.length=m)(h2:ys.length=n):((List.range (min m n)).all (pU xs ys)&&(m==n))=rf xs ys:=by
 subst h1 h2;by_cases h:xs.length=ys.length
 ·rw[<-h,Nat.min_self,ly h];simp
 ·rw[lx h];simp[h]
mutual
def dk(s:Shared):Tr->Value->Prop
 | .bL,u=>u=.none
 | .bl b,u=>u=.bool b
 | .int i,u=>∃t,u=.int i t
 | .str x,u=>∃t,u=.str x t
 | .aw ts,u=>∃a aA,u=.ref a/\s.heap.IsTuple a aA.toArray/\bN s ts aA
 | .lst ts,u=>∃a aA,u=.ref a/\s.heap.IsList a aA.toArray/\bN s ts aA
def bN(s:Shared):List Tr->List Value->Prop
 | [],us=>us=[]
 | t::ts,us=>∃u r,us=u::r/\dk s t u/\bN s ts r
end
section
variable {A:Around} {s:Shared}
theorem bN.len:∀{ts:List Tr} {us:List Value},bN s ts us->ts.length=us.length
 | [],_,h=>by simp only[bN]at h;rw[h];rfl
 | _::_,_,h=>by
  simp only[bN]at h;obtain⟨u,r,rfl,_,h⟩:=h;simp[bN.len h]
def jy(h1:s.heap.IsTuple a x)(h2:s.heap.IsTuple a y):x=y:=by
 obtain⟨o,e,_,n,d⟩:=h1;obtain⟨o',e',_,n',d'⟩:=h2;rw[e]at e';cases e';rw[d]at d';cases d';rfl
def k7(h1:s.heap.IsList a x)(h2:s.heap.IsList a y):x=y:=by
 obtain⟨o,e,_,n,d⟩:=h1;obtain⟨o',e',_,n',d'⟩:=h2;rw[e]at e';cases e';rw[d]at d';cases d';rfl
def pV(h1:s.heap.IsTuple a x)(h2:s.heap.IsList a y):False:=by
 obtain⟨o,e,c,n,d⟩:=h1;obtain⟨o',e',c',n',d'⟩:=h2;rw[e]at e';cases e';rw[c]at c';simp at c'
mutual
theorem dk.inj:∀{p q:Tr} {u:Value},dk s p u->dk s q u->p=q
 | .bL,q,u,h,h'=>by cases q<;>simp_all [dk]
 | .bl b,q,u,h,h'=>by cases q<;>simp_all [dk]
 | .int b,q,u,h,h'=>by
  simp only[dk]at h;obtain⟨t,rfl⟩:=h;cases q<;>simp_all [dk]
 | .str b,q,u,h,h'=>by
  simp only[dk]at h;obtain⟨t,rfl⟩:=h;cases q<;>simp_all [dk]
 | .aw xs,q,u,h,h'=>by
  simp only[dk]at h;obtain⟨a,aA,rfl,h1,h2⟩:=h;cases q with
  | aw ys =>
   simp only[dk]at h';obtain⟨b,UQ,e,g1,g2⟩:=h';cases e;have:=jy h1 g1;have e:aA=UQ:=by simpa using this
   subst e;rw[bN.inj h2 g2]
  | lst ys =>
   simp only[dk]at h';obtain⟨b,UQ,e,g1,g2⟩:=h';cases e;exact(pV h1 g1).elim
  | _=>simp[dk]at h'
 | .lst xs,q,u,h,h'=>by
  simp only[dk]at h;obtain⟨a,aA,rfl,h1,h2⟩:=h;cases q with
  | lst ys =>
   simp only[dk]at h';obtain⟨b,UQ,e,g1,g2⟩:=h';cases e;have:=k7 h1 g1;have e:aA=UQ:=by simpa using this
   subst e;rw[bN.inj h2 g2]
  | aw ys =>
   simp only[dk]at h';obtain⟨b,UQ,e,g1,g2⟩:=h';cases e;exact(pV g1 h1).elim
  | _=>simp[dk]at h'
theorem bN.inj:∀{ps qs:List Tr} {us:List Value},bN s ps us->bN s qs us->ps=qs
 | [],qs,us,h,h'=>by
  simp only[bN]at h;subst h;cases qs with
  | nil=>rfl
  | cons _ _=>simp[bN]at h'
 | p::ps,qs,us,h,h'=>by
  simp only[bN]at h;obtain⟨u,r,rfl,h1,h2⟩:=h;cases qs with
  | nil=>simp[bN]at h'
  | cons q qs =>
   simp only[bN]at h';obtain⟨u',r',e,g1,g2⟩:=h';cases e;rw[dk.inj h1 g1,bN.inj h2 g2]
end
def pW(h:b=c)(r:SeqAt.RcAt A s u w b):SeqAt.RcAt A s u w c:=h▸r
def kE(h:b = !c)(r:SeqAt.RcNeAt A s u w b):SeqAt.RcNeAt A s u w (!c):=h▸r
def Bs(hf:∀x t,u≠.float x t)(h:SeqAt.RcAt A s u w b)(hb:u=w->b=true):SeqAt.EqAt A s u w b:=λprog v E Q hq=>by
 unfold eqBool;refine cD ?_;refine y2 (λz=>?_) (λ_=>?_)
 ·rw[hb (aO z)]at hq;exact ae (gH (ah hq))
 ·cases u with
  | float x t=>exact absurd rfl (hf x t)
  | _=>exact ae (h prog v E _ (i5 hq))
def dk.M9(h:dk s p u):∀y t,u≠.float y t:=λy t z=>by
 subst z;cases p<;>simp[dk]at h
mutual
theorem uR:∀(p q:Tr) (A:Around) (u w:Value),dk s p u->dk s q w->A.units+dep p<cLine->SeqAt.RcAt A s u w (eqT p q)/\SeqAt.RcNeAt A s u w (!(eqT p q))
 | .bL,q,A,u,w,ha,hb,hu=>by
  have fY:A.units<cLine := ‹_›;subst ha;cases q with
  | bL=>cases hb;exact⟨.none_none,.none_none⟩
  | bl=>cases hb;exact⟨(.none_bool _),(.none_bool _)⟩
  | int=>obtain⟨t,rfl⟩:=hb;exact⟨(.none_int _ _),(.none_int _ _)⟩
  | str=>obtain⟨t,rfl⟩:=hb;exact⟨(.none_str _ _),(.none_str _ _)⟩
  | aw=>obtain⟨a,aA,rfl,pR,_⟩:=hb;exact⟨(.none_tuple pR fY),(.none_tuple pR fY)⟩
  | lst=>obtain⟨a,aA,rfl,pR,_⟩:=hb;exact⟨(.none_list pR fY),(.none_list pR fY)⟩
 | .bl k,q,A,u,w,ha,hb,hu=>by
  have fY:A.units<cLine := ‹_›;subst ha;cases q with
  | bL=>cases hb;exact⟨(.bool_none _),(.bool_none _)⟩
  | bl=>cases hb;exact⟨(.bool_bool _ _),(.bool_bool _ _)⟩
  | int=>obtain⟨t,rfl⟩:=hb;exact⟨(.bool_int _ _ _),(.bool_int _ _ _)⟩
  | str=>obtain⟨t,rfl⟩:=hb;exact⟨(.bool_str _ _ _),(.bool_str _ _ _)⟩
  | aw=>obtain⟨a,aA,rfl,pR,_⟩:=hb;exact⟨(.bool_tuple _ pR fY),(.bool_tuple _ pR fY)⟩
  | lst=>obtain⟨a,aA,rfl,pR,_⟩:=hb;exact⟨(.bool_list _ pR fY),(.bool_list _ pR fY)⟩
 | .int k,q,A,u,w,ha,hb,hu=>by
  have fY:A.units<cLine := ‹_›;obtain⟨tk,rfl⟩:=ha;cases q with
  | bL=>cases hb;exact⟨(.int_none _ _),(.int_none _ _)⟩
  | bl=>cases hb;exact⟨(.int_bool _ _ _),(.int_bool _ _ _)⟩
  | int=>obtain⟨t,rfl⟩:=hb;exact⟨(.int_int _ _ _ _),(.int_int _ _ _ _)⟩
  | str=>obtain⟨t,rfl⟩:=hb;exact⟨(.int_str _ _ _ _),(.int_str _ _ _ _)⟩
  | aw=>obtain⟨a,aA,rfl,pR,_⟩:=hb;exact⟨(.int_tuple _ _ pR fY),(.int_tuple _ _ pR fY)⟩
  | lst=>obtain⟨a,aA,rfl,pR,_⟩:=hb;exact⟨(.int_list _ _ pR fY),(.int_list _ _ pR fY)⟩
 | .str k,q,A,u,w,ha,hb,hu=>by
  have fY:A.units<cLine := ‹_›;obtain⟨tk,rfl⟩:=ha;cases q with
  | bL=>cases hb;exact⟨(.str_none _ _),(.str_none _ _)⟩
  | bl=>cases hb;exact⟨(.str_bool _ _ _),(.str_bool _ _ _)⟩
  | int=>obtain⟨t,rfl⟩:=hb;exact⟨(.str_int _ _ _ _),(.str_int _ _ _ _)⟩
  | str=>obtain⟨t,rfl⟩:=hb;exact⟨(.str_str _ _ _ _),(.str_str _ _ _ _)⟩
  | aw=>obtain⟨a,aA,rfl,pR,_⟩:=hb;exact⟨(.str_tuple _ _ pR fY),(.str_tuple _ _ pR fY)⟩
  | lst=>obtain⟨a,aA,rfl,pR,_⟩:=hb;exact⟨(.str_list _ _ pR fY),(.str_list _ _ pR fY)⟩
 | .aw xs,q,A,u,w,ha,hb,hu=>by
  have fY:A.units<cLine:=by lia
  obtain⟨al,Kw,rfl,pL,tL⟩:=ha;cases q with
  | bL=>cases hb;exact⟨(.tuple_none pL fY),(.tuple_none pL fY)⟩
  | bl=>cases hb;exact⟨(.tuple_bool _ pL fY),(.tuple_bool _ pL fY)⟩
  | int=>obtain⟨t,rfl⟩:=hb;exact⟨(.tuple_int _ _ pL fY),(.tuple_int _ _ pL fY)⟩
  | str=>obtain⟨t,rfl⟩:=hb;exact⟨(.tuple_str _ _ pL fY),(.tuple_str _ _ pL fY)⟩
  | lst=>obtain⟨a,aA,rfl,pR,_⟩:=hb;exact⟨(.tuple_list pL pR fY),(.tuple_list pL pR fY)⟩
  | aw ys =>
   obtain⟨a,Kx,rfl,pR,tR⟩:=hb;have e1:xs.length=Kw.toArray.size:=by rw[cU,tL.len]
   have e2:ys.length=Kx.toArray.size:=by rw[cU,tR.len]
   have el:=λj (h1:j<Kw.toArray.size) (h2:j<Kx.toArray.size)=>uS xs ys A.in1 Kw Kx tL tR (by rw[oR];have hu:_+(jN _+1)<_:=hu;lia) j (by simpa using h1) (by simpa using h2)
   exact⟨pW (Br e1 e2) (.tuples pL pR fY el),kE (by rw[Br e1 e2];rfl) (.tuples pL pR fY el)⟩
 | .lst xs,q,A,u,w,ha,hb,hu=>by
  have fY:A.units<cLine:=by lia
  obtain⟨al,Kw,rfl,pL,tL⟩:=ha;cases q with
  | bL=>cases hb;exact⟨(.list_none pL fY),(.list_none pL fY)⟩
  | bl=>cases hb;exact⟨(.list_bool _ pL fY),(.list_bool _ pL fY)⟩
  | int=>obtain⟨t,rfl⟩:=hb;exact⟨(.list_int _ _ pL fY),(.list_int _ _ pL fY)⟩
  | str=>obtain⟨t,rfl⟩:=hb;exact⟨(.list_str _ _ pL fY),(.list_str _ _ pL fY)⟩
  | aw=>obtain⟨a,aA,rfl,pR,_⟩:=hb;exact⟨(.list_tuple pL pR fY),(.list_tuple pL pR fY)⟩
  | lst ys =>
   obtain⟨a,Kx,rfl,pR,tR⟩:=hb;have e1:Kw.toArray.size=xs.length:=by rw[cU,tL.len]
   have e2:Kx.toArray.size=ys.length:=by rw[cU,tR.len]
   by_cases hl:xs.length=ys.length
   ·have sz:Kw.toArray.size=Kx.toArray.size:=by rw[e1,e2];exact hl
    have el:=λj (h1:j<Kw.toArray.size) (h2:j<Kx.toArray.size)=>uS xs ys A.in1 Kw Kx tL tR (by rw[oR];have hu:_+(jN _+1)<_:=hu;lia) j (by simpa using h1) (by simpa using h2)
    exact⟨pW (by rw[e1,ly hl];rfl) (.lists pL pR sz fY el),kE (by rw[e1,ly hl];rfl) (.lists pL pR sz fY el)⟩
   ·have sz:(Kw.toArray.size != Kx.toArray.size)=true:=by rw[e1,e2];simpa using hl
    exact⟨pW (lx hl).symm (.lists_lengths pL pR sz fY),kE (fV not (lx hl)).symm (.lists_lengths pL pR sz fY)⟩
theorem uS:∀(ps qs:List Tr) A (us zs:List Value),bN s ps us->bN s qs zs->A.units+jN ps<cLine ->
  ∀j h1 (h2:j<zs.length),SeqAt.EqAt A s us[j] zs[j] (pU ps qs j)
 | [],qs,A,us,zs,b1,b2,hu=>λj h1 h2=>by
  simp only[bN]at b1;subst b1;cases h1
 | p::ps,qs,A,us,zs,b1,b2,hu=>λj h1 h2=>by
  simp only[bN]at b1;obtain⟨u,ur,rfl,c1,d1⟩:=b1;cases qs with
  | nil =>
   simp only[bN]at b2;subst b2;cases h2
  | cons q qs =>
   simp only[bN]at b2;obtain⟨z,zr,rfl,c2,d2⟩:=b2;have hm:A.units+dep p<cLine/\A.units+jN ps<cLine:=by
    simp only[jN]at hu
    lia
   cases j with
   | zero =>
    refine Bs c1.M9 (uR p q A _ _ c1 c2 hm.1).1 λe=>?_
    simp only[List.getElem_cons_zero]at e;rw[e]at c1;rw[c1.inj c2];exact lu q
   | succ j=>exact uS ps qs A _ _ d1 d2 hm.2 j (by simpa using h1) (by simpa using h2)
end
def Po(b1:dk s p u)(b2:dk s q w)(hu:A.units+dep p<cLine):SeqAt.EqAt A s u w (eqT p q):=by
 refine Bs b1.M9 (uR p q A _ _ b1 b2 hu).1 λz=>?_
 rw[z]at b1;rw[b1.inj b2];exact lu q
end
def bW{α β:Type}(f:α->Option β):List α->Option (List β)
 | []=>some []
 | x::xs=>(f x).bind λy=>(bW f xs).map λys=>y::ys
def Xq:Kd->List Tr->Option Tr
 | .aw,ts=>some (.aw ts)
 | .lst,ts=>some (.lst ts)
 | _,_=>none
def toT(h:List ak):Nat->PV->Option Tr
 | 0,_=>none
 | n+1,p=>match p with
  | .bL=>some .bL
  | .bl b=>some (.bl b)
  | .int i=>some (.int i)
  | .str x=>some (.str x)
  | .fn _=>none
  | p=>(cm h p).bind λq=>(bW (toT h n) q.2).bind (Xq q.1)
def cZ(h:bW f (x::xs)=some ys):∃y r,f x=some y/\bW f xs=some r/\ys=y::r:=by
 obtain⟨y,h1,h2⟩:=aI h;obtain⟨r,h3,h4⟩:=aV h2;exact⟨y,r,h1,h3,h4.symm⟩
theorem uT(h:List ak):∀(n:Nat) (p:PV) (t:Tr),toT h n p=some t->dep t<=n
 | 0,_,_,e=>by cases e
 | n+1,p,t,e=>by
  have go:((cm h p).bind λq=>(bW (toT h n) q.2).bind (Xq q.1))=some t->dep t<=n+1:=λe=>by
   obtain⟨q,_,e⟩:=aI e;obtain⟨ts,e1,e2⟩:=aI e;have hd:∀ps ts,bW (toT h n) ps=some ts->jN ts<=n:=by
    intro ps;induction ps with
    | nil=>intro ts z;cases z;simp[jN]
    | cons p ps ih =>
     intro ts z;obtain⟨y,r,h1,h2,rfl⟩:=cZ z;have:=uT h n p y h1;have:=ih r h2;simp only[jN];lia
   have:=hd _ _ e1;unfold Xq at e2;split at e2<;>cases e2<;>simp only[dep]<;>lia
  unfold toT at e;split at e<;>first | (cases e;simp[dep];done) | (cases e;done) | exact go e
section
variable {X:Cx} {af:List (Addr×Obj)} {σ τ:St} {s:Shared} {aa H:Hp} {ab F:Fz} {st:bJ}
theorem Rep.tree(R:Rep X.K aa ab F st τ H)(I:Inv X af σ H s):∀(n:Nat) (p:PV) (t:Tr) (v:V) (u:Value),toT st.h n p=some t->bu X.K F p v->RelV v u->dk s t u
 | 0,_,_,_,_,e,_,_=>by cases e
 | n+1,p,t,v,u,e,b,r=>by
  have go:((cm st.h p).bind λq=>(bW (toT st.h n) q.2).bind (Xq q.1))=some t->dk s t u:=λe=>by
   obtain⟨⟨k,ps⟩,e0,e⟩:=aI e;obtain⟨ts,e1,e2⟩:=aI e;obtain⟨a,vs,rfl,h2,h3⟩:=R.at e0 b;have hd:∀ps ts vs us,bW (toT st.h n) ps=some ts->ax X.K F ps vs->Vals vs us->bN s ts us:=by
    intro ps;induction ps with
    | nil=>intro ts vs us z b r;cases z;rw[b.cj]at r;cases r;simp[bN]
    | cons p ps ih =>
     intro ts vs us z b r;obtain⟨y,q,h1,h2,rfl⟩:=cZ z;obtain⟨v,w,rfl,b1,b2⟩:=b.bU;cases r with
     | cons ra rr =>
      simp only[bN];exact⟨_,_,rfl,R.tree I n p y v _ h1 b1 ra,ih q w _ h2 b2 rr⟩
   cases r
   match k,e2,h2 with
   | .aw,e2,h2 =>
    cases e2;obtain⟨aA,rr,pl,_⟩:=I.tuple h2.2;simp only[dk];exact⟨a,aA,rfl,pl,hd _ _ _ _ e1 h3 rr⟩
   | .lst,e2,h2 =>
    cases e2;obtain⟨aA,rr,pl,_⟩:=I.list (iu.sq h2);simp only[dk];exact⟨a,aA,rfl,pl.isList,hd _ _ _ _ e1 h3 rr⟩
  unfold toT at e;split at e
  ·cases e;rw[cR.mp b]at r;cases r;simp[dk]
  ·cases e;rw[bC.mp b]at r;cases r;simp[dk]
  ·cases e;rw[aD.mp b]at r;obtain⟨t,rfl⟩:=r;simp[dk]
  ·cases e;rw[b7.mp b]at r;obtain⟨t,rfl⟩:=r;simp[dk]
  ·cases e
  ·exact go e
end
def dU:Nat:=1000
def Dh(h:List ak)(p q:PV):Option Bool:=(toT h dU p).bind λx=>(toT h dU q).map λy=>eqT x y
def gM:G2:=λh p q=>(Dh h p q).map .bl
def Di:G2:=λh p q=>(Dh h p q).map λb=>.bl !b
def Gv:PV->Bool
 | .bL=>true
 | _=>false
def Xr:G2:=λ_ p q=>match q with | .bL=>some (.bl (Gv p)) | _=>none
def Za(h:List ak)(p:PV)(ps:List PV):Option Bool:=(toT h dU p).bind λx=>(bW (toT h dU) ps).map λys=>ys.any λy=>eqT y x
section
variable {X:Cx}
def wI(e:Dh h p q=some b):∃x y,toT h dU p=some x/\toT h dU q=some y/\b=eqT x y:=by
 obtain⟨x,e1,e⟩:=aI e;obtain⟨y,e2,e3⟩:=aV e;exact⟨x,y,e1,e2,e3.symm⟩
def Pp(hu:X.A.units+1150<cLine):q8 X (compareOp .Eq) gM:=by
 rintro af s σ H x y v u Q I rx ry ⟨aa,ab,F,st,τ,pa,pb,p,e,R,ba,bb,k⟩
 obtain⟨b,e',rfl⟩:=aV e;obtain⟨ta,tb,e1,e2,rfl⟩:=wI e';have hd:=uT _ _ _ _ e1;exact(uR ta tb X.A v u (R.tree I _ _ _ _ _ e1 ba rx) (R.tree I _ _ _ _ _ e2 bb ry) (by unfold dU at hd;lia)).1 X.prog X.w X.xe _ ⟨.bl _,H,I,rfl,k _ H F R (Gr.refl F) (bC.mpr rfl)⟩
def Pr(hu:X.A.units+1150<cLine):q8 X (compareOp .NotEq) Di:=by
 rintro af s σ H x y v u Q I rx ry ⟨aa,ab,F,st,τ,pa,pb,p,e,R,ba,bb,k⟩
 obtain⟨b,e',rfl⟩:=aV e;obtain⟨ta,tb,e1,e2,rfl⟩:=wI e';have hd:=uT _ _ _ _ e1;exact(uR ta tb X.A v u (R.tree I _ _ _ _ _ e1 ba rx) (R.tree I _ _ _ _ _ e2 bb ry) (by unfold dU at hd;lia)).2 X.prog X.w X.xe _ ⟨.bl _,H,I,rfl,k _ H F R (Gr.refl F) (bC.mpr rfl)⟩
def Bt{K:W.Frag}(b:bu K F p x):decide (x=.bL)=Gv p:=by
 cases p with
 | bL=>rw[cR.mp b];rfl
 | bl _=>rw[bC.mp b];rfl
 | int _=>rw[aD.mp b];rfl
 | str _=>rw[b7.mp b];rfl
 | ref _=>obtain⟨_,_,rfl⟩:=cz.mp b;rfl
 | fn _=>obtain⟨_,rfl,_⟩:=mV.mp b;rfl
 | nd _ _=>obtain⟨_,_,rfl,_⟩:=iz.mp b;rfl
def Pt:q8 X (compareOp .Is) Xr:=by
 rintro af s σ H x y v u Q I rx ry ⟨aa,ab,F,st,τ,pa,pb,p,e,R,ba,bb,k⟩
 unfold Xr at e;split at e
 ·cases e;exact OG af s σ H x y v u Q I rx ry ⟨cR.mp bb,k _ H F R (Gr.refl F) (bC.mpr (by rw[Bt ba]))⟩
 ·cases e
open Classical in
noncomputable def jO (s:Shared) (p:Tr) (u:Value):Bool:=if h:∃q,dk s q u then eqT h.choose p else false
def uU(b:dk s q u):jO s p u=eqT q p:=by
 have h:∃q,dk s q u:=⟨q,b⟩
 unfold jO;rw[dif_pos h,dk.inj h.choose_spec b]
theorem uV:∀{ts:List Tr} {us:List Value},bN s ts us->us.any (jO s p)=ts.any λy=>eqT y p
 | [],_,b=>by simp only[bN]at b;subst b;rfl
 | q::ts,_,b=>by
  simp only[bN]at b;obtain⟨u,r,rfl,c1,d1⟩:=b;rw[mH,mH,uU c1,uV d1]
theorem oi(bp:dk s p w):∀{ts:List Tr} {us:List Value},bN s ts us->A.units+jN ts<cLine->∀u∈us,SeqAt.EqAt A s u w (jO s p u)
 | [],_,b,_=>λu hu=>by simp only[bN]at b;subst b;cases hu
 | q::ts,_,b,hz=>λu hu=>by
  simp only[bN]at b;obtain⟨u',r,rfl,c1,d1⟩:=b;simp only[jN]at hz;rcases aF.mp hu with rfl | hu
  ·rw[uU c1];exact Po c1 bp (by lia)
  ·exact oi bp d1 (by lia) u hu
theorem Rep.trees{st:bJ}(R:Rep X.K aa ab F st τ H)(I:Inv X af σ H s)(n:Nat):∀(ps:List PV) (ts:List Tr) (vs:List V) (us:List Value),bW (toT st.h n) ps=some ts->ax X.K F ps vs->Vals vs us->bN s ts us/\jN ts<=n
 | [],ts,vs,us,z,b,r=>by cases z;rw[b.cj]at r;cases r;simp[bN,jN]
 | p::ps,ts,vs,us,z,b,r=>by
  obtain⟨y,q,h1,h2,rfl⟩:=cZ z;obtain⟨v,w,rfl,b1,b2⟩:=b.bU;cases r with
  | cons ra rr =>
   obtain⟨h3,h4⟩:=R.trees I n ps q w _ h2 b2 rr;have:=uT _ _ _ _ h1;simp only[jN];exact⟨⟨_,_,rfl,R.tree I n p y v _ h1 b1 ra,h3⟩,by lia⟩
def Gw(e:Za h p ps=some b):∃x ys,toT h dU p=some x/\bW (toT h dU) ps=some ys/\b=ys.any λy=>eqT y x:=by
 obtain⟨x,e1,e⟩:=aI e;obtain⟨y,e2,e3⟩:=aV e;exact⟨x,y,e1,e2,e3.symm⟩
def Gy(hu:X.A.units+1150<cLine){st:bJ}(I:Inv X af σ H s)(rx:RelV x v)(ry:RelV y u)(R:Rep X.K aa ab F st τ H)(ba:bu X.K F pa x)(bb:bu X.K F pb y)
  (es:Gk st.h pb=some ps) (eb:Za st.h pa ps=some b) :
  (Q (.bl b) H->wpAny (model X.prog X.w) X.A (compareOp .In v u) (EP X af σ Q) X.xe s)/\(Q (.bl !b) H->wpAny (model X.prog X.w) X.A (compareOp .NotIn v u) (EP X af σ Q) X.xe s):=by
 obtain⟨t,ts,e1,e2,rfl⟩:=Gw eb;obtain⟨a,vs,rfl,hs,hb⟩:=R.seq es bb;have tp:=R.tree I _ _ _ _ _ e1 ba rx;cases ry;rcases hs with hs | hs
 ·obtain⟨aA,r,pl,_⟩:=I.tuple hs;obtain⟨h1,h2⟩:=R.trees I _ _ _ _ _ e2 hb r;have ml:=λw (hw:w∈aA.toArray)=>oi (A:=X.A.in1) tp h1 (by rw[oR];unfold dU at h2;lia) w (by grind)
  have ea:aA.toArray.any (jO s t)=ts.any λy=>eqT y t:=by rw[show aA.toArray.any (jO s t)=aA.any (jO s t) by simp,uV h1]
  exact⟨λq=>SeqAt.in_tupleAt (jO s t) pl ml ⟨.bl _,H,I,rfl,by grind⟩,λq=>SeqAt.notIn_tupleAt (jO s t) pl ml ⟨.bl _,H,I,rfl,by grind⟩⟩
 ·obtain⟨aA,r,pl,_⟩:=I.list hs.sq;obtain⟨h1,h2⟩:=R.trees I _ _ _ _ _ e2 hb r;have ml:=λw (hw:w∈aA.toArray)=>oi (A:=X.A.in1) tp h1 (by rw[oR];unfold dU at h2;lia) w (by grind)
  have ea:aA.toArray.any (jO s t)=ts.any λy=>eqT y t:=by rw[show aA.toArray.any (jO s t)=aA.any (jO s t) by simp,uV h1]
  exact⟨λq=>SeqAt.in_listAt (jO s t) pl.isList ml ⟨.bl _,H,I,rfl,by grind⟩,λq=>SeqAt.notIn_listAt (jO s t) pl.isList ml ⟨.bl _,H,I,rfl,by grind⟩⟩
end
section
variable {K:W.Frag} {F:Fz}
def ax.qS{ps:List PV}{vs:List V}{i:Int}{p:PV}(h:ax K F ps vs)(e:L2.qS ps i=some p):∃v,L2.qS vs i=some v/\bu K F p v:=by
 unfold L2.qS at e ⊢;rw[<-h.length];cases z:EH ps.length i with
 | none=>rw[z]at e;cases e
 | some j =>
  rw[z]at e;exact h.get e
def iU(xs:List PV)(lo hi:Option Int):List PV:=(xs.drop (HT.dZ xs.length 0 lo)).take (HT.dZ xs.length xs.length hi-HT.dZ xs.length 0 lo)
def ax.cut{ps:List PV}{vs:List V}(h:ax K F ps vs)(lo hi:Option Int):ax K F (iU ps lo hi) (wo vs lo hi):=by
 unfold iU wo;rw[h.length];exact(h.drop _).take _
def cG{p:PV}{vs:List V}(b:ax K F [p] vs):∃v,vs=[v]/\bu K F p v:=by
 obtain⟨v,r,rfl,c,d⟩:=b.bU;rw[d.cj];exact⟨v,rfl,c⟩
def jB{p q:PV}{vs:List V}(b:ax K F [p,q] vs):∃v w,vs=[v,w]/\bu K F p v/\bu K F q w:=by
 obtain⟨v,r,rfl,c,d⟩:=b.bU;obtain⟨w,rfl,e⟩:=cG d;exact⟨v,w,rfl,c,e⟩
end
def lz{prog:Program}{w:World}{A:Around}{E:Value->Shared->Prop}{s:Shared}{t sl:Addr}{aA:Array Value}{vl vu:Value}{lo hi:Option Int}{Q:Value->Shared->Prop}(ht:IsTup s.heap t aA)(hs:s.heap.IsSliceOf sl vl vu .none)(pl:IsPart vl lo)(pu:IsPart vu hi)
  (h0:HT.dZ aA.size 0 lo=0) (h1:HT.dZ aA.size aA.size hi=aA.size) (h:Q (.ref t) s):wpAny (model prog w) A (getItem (.ref t) (.ref sl)) Q E s:=by
 obtain⟨os,Jj,Xh,Ud⟩:=id hs;have hT:s.TypeIs (.ref sl) "slice":=⟨os,Jj,Xh⟩;unfold getItem
 try with_reducible refine cD ?_
 first | refine ae (ah ?_) | skip
 refine ae (wpAny_sequenceKey ht.typeIs (by decide) ?_)
 refine ae (eX ht.typeIs mv (cV mv ht.typeIs entry_tuple_getitem ?_ (args_tuple_getitem _ _)));show wpAny _ _ (Builtin.Tuple.tupleItemsOf (.ref t) >>= _) _ _ s;refine ae (tupleItemsOf_ ht (ae (kr hT ?_)));refine ae (HT.gO hs pl pu ?_);have hc:(((HT.dZ aA.size 0 lo:Nat):Int)==0&&(1:Int)==1&&(HT.dZ aA.size aA.size hi-HT.dZ aA.size 0 lo)==aA.size)=true:=by
  rw[h0,h1];simp
 show wpAny _ _ (if(((HT.dZ aA.size 0 lo:Nat):Int)==0&&1==1&&(HT.dZ aA.size aA.size hi-HT.dZ aA.size 0 lo)==aA.size)=true then _ else _) _ _ s
 rw[if_pos hc];unfold Builtin.Tuple.tupleIsExact;refine ae (ae (kr ht.typeIs (ah ?_)));exact ae (gH (ah ⟨_,rfl,ah h⟩))
def Bu(h:List ak)(lo hi:Option Int)(p:PV):Option PV:=match cm h p with
 | some (.lst,ps)=>some (.lst (iU ps lo hi))
 | some (.aw,ps)=>some (.aw (iU ps lo hi))
 | _=>none
section
variable {X:Cx} {aa:Hp} {ab:Fz} {a b e:Expr} {es:List Expr} {fa fb:Gx PV} {ts:Gx (List PV)} {pos p1 p2:Pos} {lo hi:Option Expr}
def rSl(K:W.Frag):V->Option Int->Option Int->Hp->VK->Prop:=λx lo hi H Q=>∃aa ab F st τ pa p,Bu st.h lo hi pa=some p/\Rep K aa ab F st τ H/\bu K F pa x/\∀v H' F',Rep K aa ab F' st τ H'->Gr F F'->bu K F' p v->Q v H'
def slT:Xi X (rSl X.K):=by
 rintro af s σ H x v vl vu lo hi sl Q I rx hs pl pu ⟨aa,ab,F,st,τ,pa,p,e,R,ba,k⟩
 unfold Bu at e;split at e
 ·rename_i z;cases e;obtain⟨a,vs,rfl,ha,fB⟩:=R.at z ba;refine Ka af s σ H _ v vl vu lo hi sl Q I rx hs pl pu ⟨a,vs,rfl,iu.sq ha,λq hq=>?_⟩
  obtain⟨R2,s2⟩:=R.laid (.lst (wo vs lo hi)) hq;exact k _ _ _ R2 s2 (dJ.mpr ⟨q,_,rfl,iu.of aq,(fB.cut lo hi).mono s2⟩)
 ·rename_i ps z;cases e;cases pa with
  | nd kk pp =>
   cases z;obtain⟨a,vs,rfl,ha,fB⟩:=bH.mp ba;by_cases hw:HT.dZ vs.length 0 lo=0/\HT.dZ vs.length vs.length hi=vs.length
   ·cases rx;obtain⟨aA,r,ht,hz⟩:=I.tuple (aK R.sub ha);have dY:aA.toArray.size=vs.length:=by rw[cU];exact r.length.symm
    refine⟨"tuple",_,mv.lookup,ht.typeIs,?_⟩;refine lz ht hs pl pu (by grind) (by grind) ⟨.ref a,H,I,rfl,k _ H F R (Gr.refl F) ?_⟩
    have hc:iU ps lo hi=ps:=by
     unfold iU;rw[fB.length,hw.1,hw.2,List.drop_zero,Nat.sub_zero,<-fB.length,List.take_length]
    rw[hc];exact ba
   ·refine OQ af s σ H _ v vl vu lo hi sl Q I rx hs pl pu ⟨a,vs,rfl,aK R.sub ha,hw,λq hq=>?_⟩
    obtain⟨R2,s2⟩:=R.laid (.aw (wo vs lo hi)) hq;exact k _ _ _ R2 s2 (bH.mpr ⟨q,_,rfl,fX.of aq,(fB.cut lo hi).mono s2⟩)
  | ref n =>
   obtain⟨c,e1,e2⟩:=aI z;obtain⟨hl,e3⟩:=aB e2;have hk:c.k=.aw:=by grind
   unfold live at hl;rw[hk]at hl;cases hl
  | _=>cases z
 ·cases e
abbrev Pu(X:Cx)(aa:Hp)(ab:Fz)(f:Gx (Option Int)):TO:=tX X aa ab (λ_ a b=>a=b) f
def _root_.L2.PO.imp{X:Cx}{e:Option Expr}{t t':TO}(h:PO X e t)(hi:∀σ H Q,t' σ H Q->t σ H Q):PO X e t':=λaf s σ H Q I hw=>h af s σ H Q I (hi _ _ _ hw)
def mX:PV->Option Int | .int i=>some i | _=>none
def fu{p:PV}{i:Int}(h:mX p=some i):p=.int i:=by
 cases p<;>first | (cases h;rfl) | cases h
def lA(fe:Gx PV):Gx (Option Int):=bnd fe λp=>gI ((mX p).map some)
def Pw:PO X none (Pu X aa ab (aP none)):=J5.imp λσ H Q h=>uP h λ_=>rfl
def Px(h:PE X e (tE X aa ab fa)):PO X (some e) (Pu X aa ab (lA fa)):=(J6 h).imp λσ H Q ⟨F,st,R,h⟩=>⟨F,st,R,h.bnd λp v F1 aM H1 R1 g1 b1 h1=>by
 obtain⟨o,e,z⟩:=h1.gI;obtain⟨i,e1,rfl⟩:=aV e;rw[fu e1]at b1;exact⟨i,aD.mp b1,z _ H1 F1 R1 (Gr.refl _) rfl⟩⟩
def cutE(fa:Gx PV)(fl fh:Gx (Option Int)):Gx PV:=bnd fa λp=>bnd fl λl=>bnd fh λr=>hp λh=>Bu h l r p
def UR{fl fh:Gx (Option Int)}(ha:PE X e (tE X aa ab fa))(hl:PO X lo (Pu X aa ab fl))(hh:PO X hi (Pu X aa ab fh)):PE X (.Subscript e (.Slice lo hi none p2) pos) (tE X aa ab (cutE fa fl fh)):=(F8 slT ha hl hh).imp λσ H Q ⟨F,st,R,h⟩ =>
 ⟨F,st,R,h.bnd λp v F1 aM H1 R1 g1 b1 h1=>⟨F1,aM,R1,h1.bnd λl l' F2 dG H2 R2 g2 b2 h2=>⟨F2,dG,R2,h2.bnd λr r' F3 Jh H3 R3 g3 b3 h3=>by
  cases b2;cases b3;obtain⟨o,e,z⟩:=h3.hp;exact⟨aa,ab,F3,Jh,σ,p,o,e,R3,b1.mono (g2.trans g3),z⟩⟩⟩⟩
abbrev GC:=List ak->List PV->Option PV
def rC(K:W.Frag)(g:GC):List V->Hp->VK->Prop:=λxs H Q=>∃aa ab F st τ ps p,g st.h ps=some p/\Rep K aa ab F st τ H/\ax K F ps xs/\∀v H' F',Rep K aa ab F' st τ H'->Gr F F'->bu K F' p v->Q v H'
abbrev zM(X:Cx)(f:Value)(g:GC):Prop:=k8 X f (rC X.K g)
def nP(g:GC)(ts:Gx (List PV)):Gx PV:=bnd ts λps=>hp λh=>g h ps
def iD{g:GC}{σ:St}{H:Hp}{Q:VK}(h:tE X aa ab (nP g ts) σ H Q):YL (rC X.K g) (tA X aa ab ts) σ H Q:=by
 obtain⟨F,st,R,h⟩:=h;refine⟨F,st,R,h.bnd λps vs F1 aM H1 R1 g1 b1 h1=>?_⟩
 obtain⟨o,e,z⟩:=h1.hp;exact⟨aa,ab,F1,aM,σ,ps,o,e,R1,b1,z⟩
def SJ(h:List ak)(p:PV):Option Nat:=match cm h p with
 | some (.aw,ps)=>some ps.length
 | some (.lst,ps)=>some ps.length
 | some (.iy _ ks,_)=>some ks.length
 | _=>none
def nM:GC:=λh ps=>match ps with
 | [.str z]=>if z.length<=ib then some (.int z.length)else none
 | [p]=>(SJ h p).map λn=>.int n
 | _=>none
def zN:GC:=λh ps=>match ps with
 | [.nd .aw qs]=>some (.aw qs)
 | [p]=>(fA h p).map λqs=>.aw qs
 | _=>none
def Dj:GC:=λ_ ps=>match ps with
 | [.int i]=>some (.int i)
 | [.bl b]=>some (.int (if b then 1 else 0))
 | _=>none
def Kz:GC:=λ_ ps=>match ps with
 | [.int i]=>if 0<=i/\i<1000 then some (.str (toString i))else none
 | _=>none
def lB(ps:List PV):Option (List Int):=bW mX ps
def KA:GC:=λh ps=>match ps with
 | [p]=>(fA h p).bind λqs=>(lB qs).map λns=>.int ns.sum
 | _=>none
def wJ{A:Around}{E:Value->Shared->Prop}{s:Shared}{d:Addr}{o:Obj}{es:Array DictEntry}{ep n:Nat}{Q:Value->Shared->Prop}(hd:(d==sysModules)=false)(ho:s.heap.get? d=some o)(hc:o.ExactDict)(zO:o.data=.dict es ep)(hn:es.size=n)(US:(n:Int)<2^63)
  (h:Q (.int n (s.toks+1)) {s with toks:=s.toks+1+1}):wpAny (model X.prog X.w) A (call (.builtin "len") [.ref d]) Q E s:=by
 have ty:s.TypeIs (.ref d) "dict":=⟨o,ho,hc.1⟩;have hm:MeetsIn X.prog X.w (Builtin.«dict.__len__» ⟨[.ref d],[]⟩) (λ_ R s'=>s'.heap.get? d=some o/\R (.ok (.ret (.int n s'.toks))) {s' with toks:=s'.toks+1}):=.of_wp <| by
  rintro A R s' ⟨kX,hR⟩
  show wpAny _ _ (dictSize d >>= _) _ _ s';refine ae (ae (oO kX zO (ah ?_)));refine ae (wpAny_pendingCount_other hd ?_);refine wpAny_ret_mkInt ?_;rw[Nat.add_zero,hn];exact hR
 refine yx kind_len plain_len entry_len (args_len1 _) ?_;refine ae (ah ?_);refine ae (eX ty F.slot_dict_len (call_meetsIn F.slot_dict_len ty F.entry_dict_len (F.args_dict_len_1 _) hm ⟨ho,?_⟩));show wpAny _ _ _ _ _ {s with toks:=s.toks+1}
 refine ae (cD (ah ?_));refine ae (mL ?_);show wpAny _ _ (if((n:Nat):Int)>=2^63 then _ else _) _ _ _
 rw[if_neg (by lia)]
 exact ae (wpAny_mkInt (ah ⟨_,rfl,h⟩))
def Bv{n:Nat}(h:n<=sizeLine):(n:Int)<2^63:=by
 have h1:n<=2^62:=bh h (by decide)
 have h62:2^62=4611686018427387904:=by decide
 lia
def KC{af:List (Addr×Obj)}{s:Shared}{σ:St}{H:Hp}{a:Addr}{t:Bool}{ks:List (List da)}{vs:List V}{us:List Value}{Q:VK}{F:Hp}(I:Inv X af σ H s)(rs:Vals [V.ref a] us)(h:jK X.K F H a false (.iy t ks) vs)(q:Q (.int ks.length) H):wpAny (model X.prog X.w) X.A (call (.builtin "len") us) (λu s'=>∃v H',Inv X af σ H' s'/\RelV v u/\Q v H') X.xe s:=by
 obtain⟨u,rfl,ru⟩:=iJ rs;cases ru;cases t with
 | false =>
  obtain⟨kvs,h1,h2,h3⟩:=h;obtain⟨z,y,ws,hk,o,es,ep,g1,g2,g3,g4,g5,g6⟩:=(I.hok a _ h1);have hl:ks.length=kvs.length:=by grind
  have hn:es.size=ks.length:=by rw[hl,mI hk,<-g5.length,fE]
  exact wJ y g1 g2 g3 hn (Bv (by grind)) ⟨.int ks.length,H,I.tok _,⟨_,rfl⟩,q⟩
 | true =>
  obtain⟨xs,h1,_,h2,_⟩:=h;obtain⟨z,y,o,es,ep,g1,g2,g3,g4,g5⟩:=(I.hok a _ h1);have hl:ks.length=xs.length:=by grind
  exact wJ y g1 g2 g3 (by rw[<-fE,g4,aJ,hl]) (Bv (by grind)) ⟨.int ks.length,H,I.tok _,⟨_,rfl⟩,q⟩
def Dk:zM X (.builtin "len") nM:=by
 rintro af s σ H xs us Q I rs ⟨aa,ab,F,st,τ,ps,p,e,R,bs,k⟩
 unfold nM at e;split at e
 ·obtain⟨hz,rfl⟩:=aB e;obtain⟨v,rfl,b⟩:=cG bs;rw[b7.mp b]at rs;exact uL af s σ H _ us Q I rs ⟨_,rfl,dC hz,k _ H F R (Gr.refl F) (aD.mpr rfl)⟩
 ·obtain⟨n,e1,rfl⟩:=aV e;obtain⟨v,rfl,b⟩:=cG bs;unfold SJ at e1;split at e1
  ·rename_i z;cases e1;obtain⟨a,vs,rfl,ha,fB⟩:=R.at z b;exact lb af s σ H _ us Q I rs ⟨a,vs,rfl,.inr ha.2,k _ H F R (Gr.refl F) (aD.mpr (by rw[fB.length]))⟩
  ·rename_i z;cases e1;obtain⟨a,vs,rfl,ha,fB⟩:=R.at z b;exact lb af s σ H _ us Q I rs ⟨a,vs,rfl,.inl (iu.sq ha),k _ H F R (Gr.refl F) (aD.mpr (by rw[fB.length]))⟩
  ·rename_i z;cases e1;obtain⟨a,vs,rfl,ha,fB⟩:=R.at z b;exact KC I rs ha (k _ H F R (Gr.refl F) (aD.mpr rfl))
  ·cases e1
 ·cases e
def Dl:zM X (.type "tuple") zN:=by
 rintro af s σ H xs us Q I rs ⟨aa,ab,F,st,τ,ps,p,e,R,bs,k⟩
 unfold zN at e;split at e
 ·cases e;obtain⟨v,rfl,b⟩:=cG bs;obtain⟨a,vs,rfl,ha,fB⟩:=bH.mp b;exact jW af s σ H _ us Q I rs ⟨a,vs,rfl,.inr ⟨aK R.sub ha,k _ H F R (Gr.refl F) b⟩⟩
 ·obtain⟨qs,e1,rfl⟩:=aV e;obtain⟨v,rfl,b⟩:=cG bs;obtain⟨a,vs,rfl,ha,fB⟩:=R.at (cY e1) b;refine jW af s σ H _ us Q I rs ⟨a,vs,rfl,.inl ⟨iu.sq ha,λq hq=>?_⟩⟩
  obtain⟨R2,s2⟩:=R.laid (.aw vs) hq;exact k _ _ _ R2 s2 (bH.mpr ⟨q,_,rfl,fX.of aq,fB.mono s2⟩)
 ·cases e
def Dn:zM X (.type "int") Dj:=by
 rintro af s σ H xs us Q I rs ⟨aa,ab,F,st,τ,ps,p,e,R,bs,k⟩
 unfold Dj at e;split at e
 ·cases e;obtain⟨v,rfl,b⟩:=cG bs;rw[aD.mp b]at rs;exact rV af s σ H _ us Q I rs (.inl ⟨_,rfl,k _ H F R (Gr.refl F) (aD.mpr rfl)⟩)
 ·cases e;obtain⟨v,rfl,b⟩:=cG bs;rw[bC.mp b]at rs;exact rV af s σ H _ us Q I rs (.inr ⟨_,rfl,k _ H F R (Gr.refl F) (aD.mpr rfl)⟩)
 ·cases e
def Dp:zM X (.type "str") Kz:=by
 rintro af s σ H xs us Q I rs ⟨aa,ab,F,st,τ,ps,p,e,R,bs,k⟩
 unfold Kz at e;split at e
 ·rename_i i;obtain⟨⟨h0,h1⟩,rfl⟩:=aB e;obtain⟨v,rfl,b⟩:=cG bs;rw[aD.mp b]at rs;exact uI af s σ H _ us Q I rs ⟨i,rfl,(by
   by_cases h:i.natAbs=0
   ·simp_all
   ·exact tV (Nat.log2_le_self _) (by lia)),k _ H F R (Gr.refl F) (b7.mpr rfl)⟩
 ·cases e
theorem jg{K:W.Frag}{F:Fz}:∀{ps:List PV} {ns:List Int} {vs:List V},lB ps=some ns->ax K F ps vs->vs=ns.map V.int
 | [],ns,vs,h,b=>by cases h;exact b.cj
 | p::r,ns,vs,h,b=>by
  obtain⟨i,ms,h1,h2,rfl⟩:=cZ h;obtain⟨v,vr,rfl,c,d⟩:=b.bU;rw[fu h1]at c;rw[aD.mp c,jg h2 d];rfl
def KD{af:List (Addr×Obj)}{σ:St}{H:Hp}{s:Shared}{F:Fz}(I:Inv X af σ H s){a:Addr}{vs:List V}{ps:List PV}{ns:List Int}(hn:lB ps=some ns)(ha:iu X.K H a vs)(fB:ax X.K F ps vs) :
  ∃xs:Array (Int×Tok),s.heap.IsList a (intItems xs)/\ns=xs.toList.map (·.1):=by
 obtain⟨aA,r,pl,_⟩:=I.list ha.sq;have ev:=jg hn fB;subst ev;have hi:=pd r;obtain⟨xs,ex⟩:=hi.allInts.items;exact⟨xs,by rw[<-ex];exact pl.isList,by rw[<-hi.numsOf,<-nums_intItems,<-ex]⟩
def Dq(hc:X.A.handled=none):zM X (.builtin "sum") KA:=by
 rintro af s σ H xs us Q I rs ⟨aa,ab,F,st,τ,ps,p,e,R,bs,k⟩
 unfold KA at e;split at e
 ·obtain⟨qs,e1,e⟩:=aI e;obtain⟨ns,e2,rfl⟩:=aV e;obtain⟨v,rfl,b⟩:=cG bs;obtain⟨a,vs,rfl,ha,fB⟩:=R.at (cY e1) b;obtain⟨xs,hl,hn⟩:=KD I e2 ha fB;obtain⟨u,rfl,ru⟩:=iJ rs;cases ru;refine sum_intListG hc hl λh' tk t' hk=>⟨.int ns.sum,H,I.kept hk,⟨t',?_⟩,k _ H F R (Gr.refl F) (aD.mpr rfl)⟩
  rw[preSum_eq,mx (by simp),hn]
 ·cases e
inductive Ty where
 | int | str | bool | tuple | list
def Ty.nm:Ty->String
 | .int=>"int" | .str=>"str" | .bool=>"bool" | .tuple=>"tuple" | .list=>"list"
def UT(h:List ak):PV->Option String
 | .bL=>some "NoneType"
 | .bl _=>some "bool"
 | .int _=>some "int"
 | .str _=>some "str"
 | p=>match cm h p with
  | some (.aw,_)=>some "tuple"
  | some (.lst,_)=>some "list"
  | _=>none
def Py(t:Ty)(y:String):Bool:=y==t.nm || (t.nm=="int"&&y=="bool")
def Zb(t:Ty)(fa:Gx PV):Gx PV:=bnd fa λp=>hp λh=>(UT h p).map λy=>.bl (Py t y)
def rIs(K:W.Frag)(t:Ty):List V->Hp->VK->Prop:=λxs H Q=>∃aa ab F st τ p x y,xs=[x,.ty t.nm]/\Rep K aa ab F st τ H/\bu K F p x/\UT st.h p=some y/\Q (.bl (Py t y)) H
def KH(t:Ty):k8 X (.builtin "isinstance") (rIs X.K t):=by
 rintro af s σ H xs us Q I rs ⟨aa,ab,F,st,τ,p,x,y,ex,R,b,ey,q⟩
 subst ex;obtain⟨u,w,rfl,ru,C7⟩:=FU rs;cases C7;have gh:∀tk,EP X af σ Q (.bool (Py t y)) {s with toks:=tk}:=λtk=>⟨.bl _,H,I.tok tk,rfl,q⟩
 have more:(match cm st.h p with
  | some (.aw,_)=>some "tuple"
  | some (.lst,_)=>some "list"
  | _=>none)=some y->wpAny (model X.prog X.w) X.A (call (.builtin "isinstance") [u,.type t.nm]) (EP X af σ Q) X.xe s:=λey=>by
  split at ey
  ·rename_i z;cases ey;obtain⟨a,vs,rfl,h2,h3⟩:=R.at z b;cases ru;obtain⟨aA,_,⟨o,h1,h2,_⟩,_⟩:=I.tuple h2.2;exact W.kia_one W.kitx_tuple I.n9 ⟨o,h1,h2⟩ (by cases t<;>kernel_rfl) (λz=>nomatch z) gh
  ·rename_i z;cases ey;obtain⟨a,vs,rfl,h2,h3⟩:=R.at z b;cases ru;obtain⟨aA,n,_,h1,_⟩:=I.pS h2;exact W.kia_one W.kitx_list I.n9 ⟨_,h1,rfl⟩ (by cases t<;>kernel_rfl) (λz=>nomatch z) gh
  ·cases ey
 cases p with
 | bL =>
  cases ey;rw[cR.mp b]at ru;cases ru;exact W.kia_one W.kitx_none I.n9 True.intro (by cases t<;>kernel_rfl) (λz=>nomatch z) gh
 | bl y =>
  cases ey;rw[bC.mp b]at ru;cases ru;exact W.kia_one W.kitx_bool I.n9 True.intro (by cases t<;>kernel_rfl) (λz=>nomatch z) gh
 | int i =>
  cases ey;rw[aD.mp b]at ru;obtain⟨tk,rfl⟩:=ru;exact W.kia_one W.kitx_int I.n9 True.intro (by cases t<;>kernel_rfl) (λz=>nomatch z) gh
 | str y =>
  cases ey;rw[b7.mp b]at ru;obtain⟨tk,rfl⟩:=ru;exact W.kia_one W.kitx_str I.n9 True.intro (by cases t<;>kernel_rfl) (λz=>nomatch z) gh
 | ref n=>exact more ey
 | fn x=>exact more ey
 | nd k ps=>exact more ey
def nQ:bootBuiltins "isinstance"=some (.builtin "isinstance"):=by kernel_rfl
def iE(t:Ty):bootBuiltins (Str.ofString t.nm)=some (.type t.nm):=by cases t<;>kernel_rfl
def tys:List Ty:=[.int,.str,.bool,.tuple,.list]
def Bw(x:Str):Option Ty:=tys.find? λt=>x==Str.ofString t.nm
def Gz{x:Str}{t:Ty}(h:Bw x=some t):x=Str.ofString t.nm:=by
 have:=List.find?_some h;exact aO this
def Zc{x:Str}{t:Ty}(ht:Bw x=some t)(hg:Gl X "isinstance")(hm:X.mg "isinstance"=none)(Zd:Gl X x)(Xs:X.mg x=none)(ha:PE X a (tE X aa ab fa))(hs:∀es,starEach (a::es) X.env=(false,eval a X.env)::starEach es X.env) :
  PE X (.Call (.Name "isinstance" p1) [a,.Name x p2] [] pos) (tE X aa ab (Zb t fa)):=by
 have hx:=Gz ht;subst hx;refine(jd (KH t) hg hm nQ (gp ha (gp (JF (v:=.ty t.nm) Zd Xs (iE t) rfl (by cases t<;>decide) (by cases t<;>decide)) pF rfl) (hs _)) (by decide) (by decide) (hs _)).imp λσ H Q ⟨F,st,R,h⟩=>?_
 refine⟨F,st,R,h.bnd λp v F1 aM H1 R1 g1 b1 h1=>?_⟩
 obtain⟨o,e,z⟩:=h1.hp;obtain⟨y,e1,rfl⟩:=aV e;exact⟨aa,ab,F1,aM,σ,p,v,y,rfl,R1,b1,e1,z _ H1 F1 R1 (Gr.refl _) (bC.mpr rfl)⟩
def Pz(fa:Gx PV):Gx PV:=bnd fa λp=>gI ((mX p).map λi=>.int (-i))
def UU(ha:PE X a (tE X aa ab fa)):PE X (.UnaryOp .USub a pos) (tE X aa ab (Pz fa)):=(T1 OF ha).imp λσ H Q ⟨F,st,R,h⟩=>⟨F,st,R,h.bnd λp v F1 aM H1 R1 g1 b1 h1=>by
 obtain⟨o,e,z⟩:=h1.gI;obtain⟨i,e1,rfl⟩:=aV e;rw[fu e1]at b1;exact⟨i,aD.mp b1,z _ H1 F1 R1 (Gr.refl _) (aD.mpr rfl)⟩⟩
end
def GA:PV->Option da
 | .int i=>some (.inl i)
 | .str x=>some (.inr x)
 | _=>none
def gS:Bool->PV->Option (List da)
 | false,p=>(GA p).map λk=>[k]
 | true,.nd .aw ps=>if ps.length<1000 then bW GA ps else none
 | true,_=>none
def wK(k:List da)(ks:List (List da)):Bool:=ks.any λj=>decide (j=k)
def iK(k:List da):List (List da)->List PV->Option PV
 | j::ks,p::ps=>if j=k then some p else iK k ks ps
 | _,_=>none
def wL(k:List da)(q:PV):List (List da)->List PV->List PV
 | j::ks,p::ps=>(if j=k then q else p)::wL k q ks ps
 | _,ps=>ps
def wM:wL k q [] ps=ps:=by cases ps<;>rfl
def zP(t:Bool)(k:List da)(q:PV)(ks:List (List da))(ps:List PV):ak:=if wK k ks=true then⟨.iy t ks,wL k q ks ps⟩else⟨.iy t (ks++[k]),ps++[q]⟩
section
variable {K:W.Frag} {F:Fz}
def pX(h:GA p=some k)(b:bu K F p v):v=kV k:=by
 cases p<;>cases h
 ·exact aD.mp b
 ·exact b7.mp b
theorem sj:∀{ps:List PV} {ks:List da} {vs:List V},bW GA ps=some ks->ax K F ps vs->vs=ks.map kV
 | [],_,_,h,b=>by cases h;exact b.cj
 | _::_,_,_,h,b=>by
  obtain⟨k,r,h1,h2,rfl⟩:=cZ h;obtain⟨v,w,rfl,b1,b2⟩:=b.bU;rw[pX h1 b1,sj h2 b2];rfl
def gT(h:gS false p=some k)(b:bu K F p v):∃j,k=[j]/\v=kV j:=by
 obtain⟨j,e,rfl⟩:=aV h;exact⟨j,rfl,pX e b⟩
def fZ(h:gS true p=some k)(b:bu K F p v):∃c,v=.ref c/\fX K F.F c (k.map kV):=by
 unfold gS at h;split at h
 ·grind
 ·obtain⟨_,h⟩:=bO h;obtain⟨c,vs,rfl,hs,hb⟩:=bH.mp b;rw[sj h hb]at hs;exact⟨c,rfl,hs⟩
 ·cases h
theorem jh(j:da):∀kvs:List (da×V),wK [j] (kvs.map λy=>[y.1])=(gj kvs j).isSome
 | []=>rfl
 | (i,v)::r=>by
  have ih:=jh j r;unfold wK at ih ⊢;rw[bz,mH,ih];by_cases h:i=j
  ·subst h;rw[lg rfl];simp
  ·rw[lq h];simp[h]
theorem oj:∀{kvs:List (da×V)} {ps:List PV} {p:PV},iK [j] (kvs.map λy=>[y.1]) ps=some p->ax K F ps (kvs.map (·.2))->∃v,gj kvs j=some v/\bu K F p v
 | [],_,_,h,_=>by cases h
 | (i,v)::r,[],_,h,_=>by cases h
 | (i,v)::r,q::ps,p,h,b=>by
  obtain⟨v',w,e,b1,b2⟩:=b.bU;cases e;have h:(if [i]=[j]then some q else iK [j] (r.map λy=>[y.1]) ps)=some p:=h
  by_cases hi:i=j
  ·subst hi;rw[if_pos rfl]at h;cases h;exact⟨v,lg rfl,b1⟩
  ·rw[if_neg (by grind)]at h
   rw[lq hi];exact oj h b2
def GB(bq:bu K F q v)(b:ax K F ps (kvs.map (·.2))) :
  ∃rg ym,zP false [j] q (kvs.map λy=>[y.1]) ps=⟨.iy false rg,ym⟩/\(putK kvs j v).map (λy=>[y.1])=rg/\ax K F ym ((putK kvs j v).map (·.2)):=by
 unfold zP putK;rw[jh,pK];cases e:(gj kvs j).isSome with
 | false=>exact⟨_,_,rfl,by simp,by simpa using b.append (.cons bq .nil)⟩
 | true =>
  refine⟨_,_,rfl,?_,?_⟩
  ·rw[if_pos rfl,ku];exact List.map_congr_left λy _=>by grind
  ·rw[if_pos rfl];clear e;induction kvs generalizing ps with
   | nil=>rw[mK,wM];exact b
   | cons y r ih =>
    cases ps with
    | nil=>have:=b.length;simp at this
    | cons p ps =>
     obtain⟨v',w,e,b1,b2⟩:=b.bU;simp only[bz,za]at e;obtain⟨rfl,rfl⟩:=e;have ih:=ih b2;by_cases hy:y.1=j
     ·simpa only[bz,wL,hy,fW]using ax.cons bq ih
     ·have:¬ [y.1]=[j]:=by grind
      simpa only[bz,wL,hy,this,cW]using ax.cons b1 ih
def pY(k:List da)(xs:List (List da×Addr×Value)):wK k (xs.map (·.1))=(atKey xs k).isSome:=(Dg xs k).symm
theorem om:∀{xs:List (List da×Addr×Value)} {ps:List PV} {vs:List V} {p:PV},iK k (xs.map (·.1)) ps=some p->ax K F ps vs->Vals vs (xs.map (·.2.2))->∃a r v,atKey xs k=some (a,r)/\RelV v r/\bu K F p v
 | [],_,_,_,h,_,_=>by cases h
 | x::r,[],_,_,h,_,_=>by cases h
 | x::r,q::ps,vs,p,h,b,rv=>by
  obtain⟨v',w,rfl,b1,b2⟩:=b.bU;cases rv with
  | cons r1 r2 =>
   have h:(if x.1=k then some q else iK k (r.map (·.1)) ps)=some p:=h
   by_cases hi:x.1=k
   ·rw[if_pos hi]at h;cases h;exact⟨x.2.1,x.2.2,v',by simp[atKey,hi],r1,b1⟩
   ·rw[if_neg hi]at h;obtain⟨a,r',v,h1,h2,h3⟩:=om h b2 r2;exact⟨a,r',v,by unfold atKey at h1 ⊢;rw[oU,mF hi];exact h1,h2,h3⟩
def PC(bq:bu K F q v)(rq:RelV v r)(hc:fX K F.F c (k.map kV))(hk:dB K F.F xs)(b:ax K F ps vs)(rv:Vals vs (xs.map (·.2.2))) :
  ∃rg ym uN,zP true k q (xs.map (·.1)) ps=⟨.iy true rg,ym⟩/\(storedH xs k c r).map (·.1)=rg/\dB K F.F (storedH xs k c r)/\ax K F ym uN/\Vals uN ((storedH xs k c r).map (·.2.2)):=by
 unfold zP storedH;rw[pY];cases e:(atKey xs k).isSome with
 | false =>
  refine⟨_,_,vs++[v],rfl,by simp,λx hx=>?_,b.append (.cons bq .nil),by simpa using rv.append (.cons rq .nil)⟩
  simp only[ez,cW,fQ,cH]at hx;rcases hx with hx | rfl
  ·exact hk x hx
  ·exact hc
 | true =>
  simp only[fW];have hm:(xs.map (putAt k r)).map (·.1)=xs.map (·.1):=by
   rw[ku];exact List.map_congr_left λy _=>by simp only[Function.comp,putAt];split<;>rfl
  have key:dB K F.F (xs.map (putAt k r)):=λx hx=>by
   obtain⟨y,hy,rfl⟩:=di.mp hx;have:=hk y hy;unfold putAt;split<;>exact this
  suffices h:∃uN,ax K F (wL k q (xs.map (·.1)) ps) uN/\Vals uN ((xs.map (putAt k r)).map (·.2.2)) by
   obtain⟨uN,h1,h2⟩:=h;exact⟨_,_,uN,rfl,hm,key,h1,h2⟩
  clear e hk hm key;induction xs generalizing ps vs with
  | nil=>exact⟨vs,by rw[mK,wM];exact b,rv⟩
  | cons x xs ih =>
   cases ps with
   | nil=>rw[b.cj]at rv;cases rv
   | cons p ps =>
    obtain⟨v',w,rfl,b1,b2⟩:=b.bU;cases rv with
    | cons r1 r2 =>
     obtain⟨uN,h1,h2⟩:=ih b2 r2;by_cases hx:x.1=k
     ·exact⟨v::uN,by simpa only[bz,wL,hx,fW]using ax.cons bq h1,by simpa only[bz,putAt,hx,fW]using Paired.cons rq h2⟩
     ·exact⟨v'::uN,by simpa only[bz,wL,hx,cW]using ax.cons b1 h1,by simpa only[bz,putAt,hx,cW]using Paired.cons r1 h2⟩
end
def dt:G2:=λh p q=>match p with
 | .str z=>(mX q).bind λi=>if z.length<=ib then(qS z.cps.toList i).map λc=>.str ⟨#[c]⟩else none
 | p=>match cm h p with
  | some (.aw,ps)=>(mX q).bind (qS ps)
  | some (.lst,ps)=>(mX q).bind (qS ps)
  | some (.iy t ks,ps)=>(gS t q).bind λk=>iK k ks ps
  | _=>none
section
variable {X:Cx} {aa:Hp} {ab:Fz} {a b e:Expr} {fa fb:Gx PV} {pos:Pos}
def ixT(hu:X.A.units+1150<cLine):OR X (rT X.K dt):=by
 rintro value slice af s σ H x y v u Q I rx ry ⟨aa,ab,F,st,τ,pa,pb,p,e,R,ba,bb,k⟩ hs
 have more:(match cm st.h pa with
  | some (.aw,ps)=>(mX pb).bind (qS ps)
  | some (.lst,ps)=>(mX pb).bind (qS ps)
  | some (.iy t ks,ps)=>(gS t pb).bind λk=>iK k ks ps
  | _=>none)=some p->wpAny (model X.prog X.w) X.A (subscriptTail value slice v u) (EP X af σ Q) X.xe s:=λe=>by
  split at e
  ·rename_i z;obtain⟨i,e1,e2⟩:=aI e;rw[fu e1]at bb;rw[aD.mp bb]at ry;obtain⟨a,vs,rfl,ha,fB⟩:=R.at z ba;obtain⟨w,hw,bw⟩:=fB.qS e2;exact OS value slice af s σ H _ _ v u Q I rx ry ⟨a,vs,_,w,rfl,rfl,ha.2,hw,k _ H F R (Gr.refl F) bw⟩ hs
  ·rename_i z;obtain⟨i,e1,e2⟩:=aI e;rw[fu e1]at bb;rw[aD.mp bb]at ry;obtain⟨a,vs,rfl,ha,fB⟩:=R.at z ba;obtain⟨w,hw,bw⟩:=fB.qS e2;exact J9 value slice af s σ H _ _ v u Q I rx ry ⟨a,vs,_,w,rfl,rfl,iu.sq ha,hw,k _ H F R (Gr.refl F) bw⟩ hs
  ·rename_i t ks ps z;obtain⟨kk,e1,e2⟩:=aI e;obtain⟨a,vs,rfl,ha,fB⟩:=R.at z ba;cases rx;cases t with
   | false =>
    obtain⟨kvs,g1,g2,g3⟩:=ha;obtain⟨j,rfl,rfl⟩:=gT e1 bb;subst g2 g3;obtain⟨w,hw,bw⟩:=oj e2 fB;obtain⟨_,hd,us,zQ,dd⟩:=Bm I.hok (.inl g1);have hr:=zQ.val j;rw[hw]at hr;cases hv:valueAt us j with
    | none=>rw[hv]at hr;exact hr.elim
    | some u' =>
     rw[hv]at hr;exact mM dd.typeIs PySem.F.slot_dict_getitem.lookup (wpAny_getItem_of (ny ry) dd.mapOf hv ⟨w,H,I.tok _,hr,k _ H F R (Gr.refl F) bw⟩) hs
   | true =>
    obtain⟨xs,g1,g2,g3,g4⟩:=ha;obtain⟨c,rfl,hc⟩:=fZ e1 bb;cases ry;subst g3;obtain⟨ad,r,w,hw,C7,bw⟩:=om e2 fB g4;obtain⟨_,hd,dd⟩:=pM I (.inl g1) (λz hz=>aK R.sub (g2 z hz))
    obtain⟨o,_,_,ho,hx,_⟩:=id dd;refine mM ⟨o,ho,hx.1⟩ PySem.F.slot_dict_getitem.lookup (Up (by lia) I (.inl g1) (λz hz=>aK R.sub (g2 z hz)) (aK R.sub hc) hw λs' I'=>⟨w,H,I',C7,k _ H F R (Gr.refl F) bw⟩) hs
  ·cases e
 cases pa with
 | str z =>
  obtain⟨i,e1,e2⟩:=aI e;rw[fu e1]at bb;obtain⟨hz,e2⟩:=bO e2;obtain⟨c,e3,rfl⟩:=aV e2;rw[b7.mp ba]at rx;rw[aD.mp bb]at ry;exact OT value slice af s σ H _ _ v u Q I rx ry ⟨z,i,c,rfl,rfl,dC hz,e3,k _ H F R (Gr.refl F) (b7.mpr rfl)⟩ hs
 | bL=>exact more e
 | bl _=>exact more e
 | int _=>exact more e
 | ref _=>exact more e
 | fn _=>exact more e
 | nd _ _=>exact more e
def Ze(hu:X.A.units+1150<cLine)(ha:PE X a (tE X aa ab fa))(hb:PE X b (tE X aa ab fb))(hs:jz b):PE X (.Subscript a b pos) (tE X aa ab (op2 dt fa fb)):=(Bj (ixT hu) ha hb hs).imp λ_ _ _ h=>oh h
def wN(n:Bool):G2:=λh p q=>match cm h q with
 | some (.iy t ks,_)=>(gS t p).map λk=>.bl (if n=true then !wK k ks else wK k ks)
 | _=>(Gk h q).bind λqs=>(Za h p qs).map λb=>.bl (if n=true then !b else b)
def PD(hu:X.A.units+1150<cLine):q8 X (compareOp .In) (wN false):=by
 rintro af s σ H x y v u Q I rx ry ⟨aa,ab,F,st,τ,pa,pb,p,e,R,ba,bb,k⟩
 unfold wN at e;split at e
 ·rename_i t ks ps z;obtain⟨kk,e1,rfl⟩:=aV e;obtain⟨a,vs,rfl,ha,fB⟩:=R.at z bb;cases ry;cases t with
  | false =>
   obtain⟨kvs,g1,g2,g3⟩:=ha;obtain⟨j,rfl,rfl⟩:=gT e1 ba;obtain⟨_,hd,us,zQ,dd⟩:=Bm I.hok (.inl g1);refine wpAny_in_of (ny rx) hd dd.mapOf ⟨.bl (gj kvs j).isSome,H,I.tok _,?_,k _ H F R (Gr.refl F) (bC.mpr ?_)⟩
   ·rw[(zQ.val j).r9];rfl
   ·rw[<-g2,jh];rfl
  | true =>
   obtain⟨xs,g1,g2,g3,g4⟩:=ha;obtain⟨c,rfl,hc⟩:=fZ e1 ba;cases rx;exact Um (by lia) I (.inl g1) (λz hz=>aK R.sub (g2 z hz)) (aK R.sub hc) λs' I'=>⟨.bl _,H,I',rfl,k _ H F R (Gr.refl F) (bC.mpr (by rw[<-g3,pY];rfl))⟩
 ·obtain⟨qs,e1,e⟩:=aI e;obtain⟨b,e2,rfl⟩:=aV e;exact(Gy hu I rx ry R ba bb e1 e2).1 (k _ H F R (Gr.refl F) (bC.mpr rfl))
def Dr(hu:X.A.units+1150<cLine):q8 X (compareOp .NotIn) (wN true):=by
 rintro af s σ H x y v u Q I rx ry ⟨aa,ab,F,st,τ,pa,pb,p,e,R,ba,bb,k⟩
 unfold wN at e;split at e
 ·rename_i t ks ps z;obtain⟨kk,e1,rfl⟩:=aV e;obtain⟨a,vs,rfl,ha,fB⟩:=R.at z bb;cases ry;cases t with
  | false =>
   obtain⟨kvs,g1,g2,g3⟩:=ha;obtain⟨j,rfl,rfl⟩:=gT e1 ba;obtain⟨_,hd,us,zQ,dd⟩:=Bm I.hok (.inl g1);refine wpAny_notIn_of (ny rx) hd dd.mapOf ⟨.bl (!(gj kvs j).isSome),H,I.tok _,?_,k _ H F R (Gr.refl F) (bC.mpr ?_)⟩
   ·rw[(zQ.val j).r9];rfl
   ·rw[<-g2,jh];rfl
  | true =>
   obtain⟨xs,g1,g2,g3,g4⟩:=ha;obtain⟨c,rfl,hc⟩:=fZ e1 ba;cases rx;exact Uo (by lia) I (.inl g1) (λz hz=>aK R.sub (g2 z hz)) (aK R.sub hc) λs' I'=>⟨.bl _,H,I',rfl,k _ H F R (Gr.refl F) (bC.mpr (by rw[<-g3,pY];rfl))⟩
 ·obtain⟨qs,e1,e⟩:=aI e;obtain⟨b,e2,rfl⟩:=aV e;exact(Gy hu I rx ry R ba bb e1 e2).2 (k _ H F R (Gr.refl F) (bC.mpr rfl))
end
def GD:G2:=λ_ p q=>match q with | .bL=>some (.bl (!Gv p)) | _=>none
def KI:q8 X (compareOp .IsNot) GD:=by
 rintro af s σ H x y v u Q I rx ry ⟨aa,ab,F,st,τ,pa,pb,p,e,R,ba,bb,k⟩
 unfold GD at e;split at e
 ·cases e;exact JT af s σ H x y v u Q I rx ry ⟨cR.mp bb,k _ H F R (Gr.refl F) (bC.mpr (by rw[Bt ba]))⟩
 ·cases e
def Zf:G2:=nO (λ_ _=>true) λi j=>.bl (decide (j<i))
def zR:CmpOp->Option G2
 | .Eq=>some gM
 | .NotEq=>some Di
 | .Lt=>some Ph
 | .LtE=>some Pj
 | .Gt=>some Zf
 | .GtE=>some Pl
 | .Is=>some Xr
 | .IsNot=>some GD
 | .In=>some (wN false)
 | .NotIn=>some (wN true)
def jC(hu:X.A.units+1150<cLine)(h:zR op=some g):q8 X (compareOp op) g:=by
 have nn:∀i j:Int,(λ_ _=>true) i j=true->(λ_ _=>True) i j:=by grind
 cases op<;>cases h
 ·exact Pp hu
 ·exact Pr hu
 ·exact fz (sh T2) nn λ_ _ _=>bC.mpr rfl
 ·exact fz (sh T3) nn λ_ _ _=>bC.mpr rfl
 ·exact fz (sh T4) nn λ_ _ _=>bC.mpr rfl
 ·exact fz (sh T5) nn λ_ _ _=>bC.mpr rfl
 ·exact Pt
 ·exact KI
 ·exact PD hu
 ·exact Dr hu
end L2.U
namespace L2
open PySem PySem.Spec PyProof.Rows
section
variable {X:Cx}
def GF:PE X (.Dict [] [] pos) (MZ (.dK [])):=λaf s σ H Q I h =>
 wpAny_Dict_empty ⟨.ref s.heap.objs.size,_,I.laid (o:=.dK []) (λ_ _ q=>aG _ q) (az _)
  ⟨eL _,my.mpr (cx (aR (pN I))),[],.nil,Heap.DictOf.new s.heap⟩,rfl,h _ (I.hok.fresh (az _))⟩
def UW:V->List V->Hp->VK->Prop:=λx vs H Q=>∃a kvs k y,x=.ref a/\vs=[kV k,y]/\H a=some (.dK kvs)/\kvs.length<sizeLine/\(∀v,gj kvs k=some v->Q v H)/\(gj kvs k=none->Q y (bM H a (.dK (kvs++[(k,y)]))))
def PF:J8 X "dict.setdefault" UW:=by
 intro af s σ H x xs v us Q I rx rv h;obtain⟨a,kvs,k,y,rfl,rfl,e,hl,h1,h2⟩:=h;cases rx;obtain⟨u1,u2,rfl,r1,r2⟩:=rv.two;obtain⟨z,hd,vs,zQ,dd⟩:=Gg I.hok e;refine call_meetsIn EW dd.typeIs PySem.F.entry_dict_setdefault (PySem.F.args_dict_setdefault_3 _ _ _) (kt_meets_setdefault (bE X.prog X.w) a (ny r1) hd u2) ⟨vs,dd,by rw[<-zQ.length];exact z,λw hw=>?_,λhn h' OY hs=>?_⟩
 ·have rk:=zQ.val k;rw[hw]at rk;cases hv:gj kvs k with
  | none=>rw[hv]at rk;exact rk.elim
  | some v0=>rw[hv]at rk;exact⟨v0,H,I.tok _,rk,h1 v0 hv⟩
 ·have rk:=zQ.val k;rw[hn]at rk;have hv:gj kvs k=none:=by
   cases hv:gj kvs k with
   | none=>rfl
   | some v0=>rw[hv]at rk;exact rk.elim
  have KJ:=zQ.put k r2;rw[Gf y hv]at KJ;have he:∃q,h'.get? a=some q:=let ⟨q,_,_,hq,_⟩:=OY;⟨q,hq⟩
  exact⟨y,_,I.write (o:=.dK (kvs++[(k,y)])) (by rw[e];exact True.intro) (.inl rfl) (λc q' hc z=>(hs.2 c hc).trans z) he ⟨by rw[cq];exact hl,hd,_,KJ,OY⟩,r2,h2 hv⟩
def Bx:V->List V->Hp->VK->Prop:=λx vs H Q=>∃(l:Addr) (xs:List V) (i:Int) (y:V),x=.ref l/\vs=[.int i,y]/\H l=some (.lst xs)/\xs.length<sizeLine/\0<=i/\i<=1000000/\Q .bL (bM H l (.lst (xs.take i.toNat++y::xs.drop i.toNat)))
def PH(h0:0<=i)(hi:i<=1000000):¬(!Builtin.List.listFitsIndex i)=true:=by
 unfold Builtin.List.listFitsIndex;have h1:decide (-(2^63:Int)<=i)=true:=by grind
 have h2:decide (i<2^63)=true:=by grind
 rw[h1,h2];simp
def UX(i:Int)(u:Value):Array Value->Array Value:=λxs=>have k:=if i<0 then(i+((xs.size:Nat):Int)).toNat else min i.toNat xs.size;(xs.extract 0 k).push u++xs.extract k
def KL(h0:0<=i)(aA:List Value)(u:Value):UX i u aA.toArray=(aA.take i.toNat++u::aA.drop i.toNat).toArray:=by
 unfold UX;have h1:¬i<0:=by lia
 simp only[h1,cU];apply Array.ext';simp only[List.extract_eq_drop_take];by_cases hb:i.toNat<=aA.length
 ·rw[y0 hb];have h2:List.take (aA.length-i.toNat) (List.drop i.toNat aA)=List.drop i.toNat aA:=mx (by grind)
  simp[h2]
 ·grind
def Ds:Xj X "list.insert" Bx:=by
 intro af s σ H x vs v us Q I rx rv h;obtain⟨l,xs,i,y,rfl,rfl,hH,hz,h0,hi,q⟩:=h;cases rx;obtain⟨u1,u2,rfl,⟨t,rfl⟩,r2⟩:=rv.two;obtain⟨z,aA,n,r,hl,e⟩:=I.fm hH;have hle:=r.length;have J:=I.Kb (t':=s.toks) hH e (KL h0 aA u2) ((r.take i.toNat).append (.cons r2 (r.drop i.toNat))) (by grind)
 exact gG F.slot_list_insert ⟨_,e,rfl⟩ F.entry_list_insert (F.args_list_insert_3 _ _ _) (@PySem.AutoListH.list_insert_list_int_val_1 l aA.toArray n i t u2 (PH h0 hi) (by grind)) ⟨e,.bL,_,J,rfl,q⟩
def PJ(K:W.Frag):V->List V->Hp->VK->Prop:=λx vs H Q=>∃l b xs zs,x=.ref l/\vs=[.ref b]/\H l=some (.lst xs)/\(fX K H b zs\/iu K H b zs)/\xs.length+zs.length<=sizeLine/\Q .bL (bM H l (.lst (xs++zs)))
def uW(l:Addr)(aA:Array Value)(n:Nat)(b:Addr)(more:Array Value)(n2:Nat)(dd:Option Addr)(sl:Array (Option Value))(h0:¬(!aA.isEmpty&&Builtin.List.listTooLong (aA.size+more.size))=true)(h1:aA.size<=sizeLine)(h2:aA.size+more.size<=sizeLine+1) :
  Meets (Builtin.«list.extend» ⟨[.ref l,.ref b],[]⟩) (λ_ R s=>s.heap.get? l=some {cls:=.type "list",dict:=none,data:=.seq aA n,slots:=#[]}/\s.heap.get? b=some {cls:=.type "tuple",dict:=dd,data:=.seq more n2,slots:=sl} /\
   R (.ok (.ret Value.none)) {s with heap:=s.heap.update l (Obj.mapSeq λx=>x++more),toks:=s.toks}) :=
 .of_wp λprog w A R s h=>by
  obtain⟨hp,g,d,tk,os⟩:=s;obtain⟨hl,hb,h⟩:=h;have f1:=AutoSeq1.idx_int;have f2:=AutoSeq1.sub_tuple_tuple;have f3:=AutoSeq1.sub_list_list;have f4:=AutoSeq1.sub_tuple_list;have f5:=AutoSeq1.sub_list_tuple
  wp_walk using (oY hl rfl (_hz':=(by rw[Array.size_append];exact h2))),iX hl,iX hb
  exact⟨_,rfl,h⟩
def PK:Xj X "list.extend" (PJ X.K):=by
 intro af s σ H x vs v us Q I rx rv h;obtain⟨l,b,xs,zs,rfl,rfl,hH,hB,hz,q⟩:=h;cases rx;obtain⟨u,rfl,ru⟩:=rv.one;cases ru;obtain⟨z,aA,n,r,hl,e⟩:=I.fm hH;have go:∀et,Vals zs et->(¬(!aA.toArray.isEmpty&&Builtin.List.listTooLong (aA.toArray.size+et.toArray.size))=true/\aA.toArray.size<=sizeLine/\aA.toArray.size+et.toArray.size<=sizeLine+1) /\
   EP X af σ Q Value.none {s with heap:=s.heap.update l (Obj.mapSeq λx=>x++et.toArray),toks:=s.toks}:=λet r2=>by
  have SH:=r2.length;have hsz:aA.toArray.size+et.toArray.size<=sizeLine:=by grind
  refine⟨⟨?_,by grind,(Nat.le_add_right_of_le ‹_›)⟩,.bL,_,I.Kb hH e (by simp) (r.append r2) (by grind),rfl,q⟩
  rw[wq hsz,Bool.and_false];exact dg
 rcases hB with hB | hB
 ·obtain⟨et,r2,⟨⟨cls,dd,dat,sl⟩,e2,hc,n2,hd⟩,_⟩:=I.tuple hB;simp only at hc hd;subst hc hd;obtain⟨⟨g1,g2,g3⟩,g4⟩:=go et r2;exact gG F.slot_list_extend ⟨_,e,rfl⟩ F.entry_list_extend (F.args_list_extend_2 _ _) (uW l aA.toArray n b et.toArray n2 dd sl g1 g2 g3) ⟨e,e2,g4⟩
 ·obtain⟨et,n2,r2,e2,_⟩:=I.pS hB;obtain⟨⟨g1,g2,g3⟩,g4⟩:=go et r2;exact gG F.slot_list_extend ⟨_,e,rfl⟩ F.entry_list_extend (F.args_list_extend_2 _ _) (AutoSeq1.list_extend_list_list_0 l aA.toArray n b et.toArray n2 g1 g2 g3) ⟨e,e2,g4⟩
def By(kvs:List (da×V))(k:da)(v:V):(putK kvs k v).length<=kvs.length+1:=by
 unfold putK;split
 ·grind
 ·grind
def UY:FF:=λo i v H Q=>∃a kvs k,o=.ref a/\i=kV k/\H a=some (.dK kvs)/\kvs.length<sizeLine/\Q (bM H a (.dK (putK kvs k v)))
def PL:FG X UY:=by
 rintro af s σ H o i v ov iv u Q I ro ri rv ⟨a,kvs,k,ex,ey,e1,e2,q⟩
 subst ex ey;cases ro;obtain⟨z,hd,vs,zQ,dd⟩:=Gg I.hok e1;refine wpAny_setItem_pairs (ny ri) dd (λh' OY PM=>?_) (by rw[<-zQ.length];exact z)
 have KJ:=zQ.put k rv;have he:∃q,h'.get? a=some q:=let ⟨q,_,_,hq,_⟩:=OY;⟨q,hq⟩
 exact⟨_,I.write (o:=.dK (putK kvs k v)) (by rw[e1];exact True.intro) (.inl rfl) (λc q' hc z=>(PM.2 c hc).trans z) he ⟨by have:=By kvs k v;lia,hd,_,KJ,OY⟩,q⟩
def UZ(K:W.Frag):FF:=λo i v H Q=>∃a b xs k,o=.ref a/\i=.ref b/\H a=some (.dT xs)/\dB K H xs/\fX K H b (k.map kV)/\xs.length<sizeLine/\∀r,RelV v r->Q (bM H a (.dT (storedH xs k b r)))
def PN(hu:X.A.units+1<cLine):FG X (UZ X.K):=by
 rintro af s σ H o i v ov iv u Q I ro ri rv ⟨a,b,xs,k,ex,ey,e1,e2,e3,e4,q⟩
 subst ex ey;cases ro;cases ri;exact OX hu I e1 e2 e3 e4 λs4 I4=>⟨_,I4,q u rv⟩
end
end L2
namespace L2.U
open PySem PySem.Spec PyProof.Rows
abbrev MG:=ak->List PV->Option (ak×PV)
def jP(h:List ak):PV->Option (Nat×ak)
 | .ref n=>(h[n]?).bind λc=>if live c=true then some (n,c)else none
 | _=>none
def dM(e:jP h p=some (n,c)):p=.ref n/\h[n]?=some c/\live c=true:=by
 cases p with
 | ref m =>
  obtain⟨d,e1,e2⟩:=aI e;obtain⟨hl,e3⟩:=aB e2;cases e3;exact⟨rfl,e1,hl⟩
 | _=>cases e
def gU(g:MG)(p:PV)(as:List PV):Gx PV:=λst=>(jP st.h p).bind λc=>(g c.2 as).map λr=>(.ok r.2,⟨st.ρ,st.h.set c.1 r.1⟩)
section
variable {X:Cx} {aa H:Hp} {ab F:Fz} {st:bJ} {σ:St}
def wO(K:W.Frag)(r:V->List V->Hp->VK->Prop)(g:MG):Prop:=∀(aa H:Hp) (ab F:Fz) (st:bJ) (σ:St) (n:Nat) (c c':ak) (a:Addr) (as:List PV) (ws:List V) (q:PV) (Q:VK),
 Rep K aa ab F st σ H->st.h[n]?=some c->live c=true->F.μ[n]?=some a->g c as=some (c',q)->ax K F as ws->(∀v F' H',Rep K aa ab F' ⟨st.ρ,st.h.set n c'⟩ σ H'->Gr F F'->bu K F' q v->Q v H')->r (.ref a) ws H Q
def Rep.put(R:Rep X.K aa ab F st σ H){c d:ak}(hc:st.h[n]?=some c)(hl:live c=true)(ha:F.μ[n]?=some a)(hn:jK X.K F.F (bM H a o) a true d.k vs)(hb:ax X.K F d.ps vs) :
  Rep X.K aa ab F ⟨st.ρ,st.h.set n d⟩ σ (bM H a o):=⟨R.c.write hc hl ha hn hb,R.l⟩
def fm(f:List PV->List PV->Option (List PV)):MG:=λc as=>match c.k with
 | .lst=>(f c.ps as).map λqs=>(⟨.lst,qs⟩,.bL)
 | _=>none
def uX
  (h:∀(H:Hp) (F:Fz) (ps as qs:List PV) (vs ws:List V) (a:Addr) (Q:VK) (h:List ak),cg F.F H->f ps as=some qs->H a=some (.lst vs)->ax X.K F ps vs->ax X.K F as ws->(∀uN,ax X.K F qs uN->Q .bL (bM H a (.lst uN)))->r (.ref a) ws H Q):wO X.K r (fm f):=by
 intro aa H ab F st σ n c c' a as ws q Q R hc hl ha hg hb k;unfold fm at hg;split at hg
 ·rename_i hk;obtain⟨qs,e1,e2⟩:=aV hg;cases e2;obtain⟨_,vs,h2,h3⟩:=R.c.cell n c a hc ha hl;rw[hk]at h2;exact h H F c.ps as qs vs ws a Q st.h R.sub e1 h2 h3 hb λuN b'=>k _ F _ (R.put hc hl ha aq b') (Gr.refl _) (cR.mpr rfl)
 ·cases hg
def kF:List PV->List PV->Option (List PV):=λps as=>match as with | [p]=>if ps.length<ib then some (ps++[p])else none | _=>none
def KN:wO X.K Bk (fm kF):=uX λH F ps as qs vs ws a Q h hs hf ha bp ba k=>by
 unfold kF at hf;split at hf
 ·obtain⟨hl,rfl⟩:=aB hf;obtain⟨v,rfl,b⟩:=cG ba;exact⟨a,vs,v,rfl,rfl,ha,by rw[<-bp.length];exact bR hl (dC (az _)),k _ (bp.append ba)⟩
 ·cases hf
def KO:List PV->List PV->Option (List PV):=λps as=>match as with | []=>some ps.reverse | _=>none
def KP:wO X.K wt (fm KO):=uX λH F ps as qs vs ws a Q h hs hf ha bp ba k=>by
 unfold KO at hf;split at hf
 ·cases hf;exact⟨a,vs,rfl,ba.cj,ha,k _ bp.reverse⟩
 ·cases hf
def KQ:List PV->List PV->Option (List PV):=λps as=>match as with
 | [.int i,p]=>if(0<=i/\i<=1000000/\ps.length<ib)then some (ps.take i.toNat++p::ps.drop i.toNat)else none
 | _=>none
def KR:wO X.K Bx (fm KQ):=uX λH F ps as qs vs ws a Q h hs hf ha bp ba k=>by
 unfold KQ at hf;split at hf
 ·obtain⟨⟨h1,h2,h3⟩,rfl⟩:=aB hf;obtain⟨w1,w2,rfl,b1,b2⟩:=jB ba;rw[aD.mp b1];exact⟨a,vs,_,w2,rfl,rfl,ha,bR (by rw[<-bp.length];exact h3) (dC (az _)),h1,h2,k _ ((bp.take _).append (.cons b2 (bp.drop _)))⟩
 ·cases hf
def zS(p:PV)(as:List PV):Gx PV:=λst=>match as with
 | [q]=>(Gk st.h q).bind λrs=>gU (fm λps _=>if ps.length+rs.length<=ib then some (ps++rs)else none) p [] st
 | _=>none
def KS:MG:=λc as=>match c.k,as with
 | .iy false ks,[kp,y]=>(gS false kp).bind λk=>if ks.length<ib then(if wK k ks=true then(iK k ks c.ps).map λp=>(c,p)else some (⟨.iy false (ks++[k]),c.ps++[y]⟩,y))else none
 | _,_=>none
def KU:wO X.K UW KS:=by
 intro aa H ab F st σ n c c' a as ws q Q R hc hl ha hg hb k;unfold KS at hg;split at hg
 ·rename_i ks kp y hk;obtain⟨kk,e1,e2⟩:=aI hg;obtain⟨hz,e2⟩:=bO e2;obtain⟨w1,w2,rfl,b1,b2⟩:=jB hb;obtain⟨j,rfl,rfl⟩:=gT e1 b1;obtain⟨_,vs,h2,h3⟩:=R.c.cell n c a hc ha hl;have hnd:=h2;rw[hk]at h2;obtain⟨kvs,g1,g2,g3⟩:=h2;rw[<-g3]at h3;refine⟨a,kvs,j,w2,rfl,rfl,g1,(by
   have:ks.length=kvs.length:=by grind
   exact bR (by grind) (dC (az _))),λv hv=>?_,λhv=>?_⟩
  ·rw[if_pos (by rw[<-g2,jh,hv];rfl)]at e2
   obtain⟨p,e3,e4⟩:=aV e2;cases e4;rw[<-g2]at e3;obtain⟨v',OI,bv⟩:=oj e3 h3;rw[hv]at OI;cases OI;have e:st.h.set n c=st.h:=by
    apply tY;intro i;by_cases hi:n=i
    ·grind
    ·grind
   rw[e]at k;exact k v F H R (Gr.refl _) bv
  ·rw[if_neg (by rw[<-g2,jh,hv];simp)]at e2
   cases e2;refine k w2 F _ (R.put (vs:=kvs.map (·.2)++[w2]) hc hl ha ⟨kvs++[(j,w2)],aq,by grind⟩ ?_) (Gr.refl _) b2
   exact h3.append (.cons b2 .nil)
 ·cases hg
def Tx.mut(hg:wO X.K r g)(h:Tx X aa ab (bu X.K) F st (gU g p as) σ Q)(R:Rep X.K aa ab F st σ H)(bp:bu X.K F p v)(ba:ax X.K F as ws):r v ws H Q:=by
 obtain⟨q,h1,h2⟩:=h;obtain⟨⟨n,c⟩,e1,e2⟩:=aI h1;obtain⟨⟨c',x⟩,e3,e4⟩:=aV e2;subst e4;obtain⟨rfl,hc,hl⟩:=dM e1;obtain⟨a,ha,rfl⟩:=cz.mp bp;exact hg aa H ab F st σ n c c' a as ws x Q R hc hl ha e3 ba λv F' H' R' g' b'=>h2 v H' F' R' g' b'
def Tx.ext{Q:VK}(h:Tx X aa ab (bu X.K) F st (zS p as) σ Q)(R:Rep X.K aa ab F st σ H)(bp:bu X.K F p v)(ba:ax X.K F as ws):PJ X.K v ws H Q:=by
 obtain⟨x,h1,h2⟩:=h;unfold zS at h1;split at h1
 ·rename_i q;obtain⟨rs,e0,h1⟩:=aI h1;obtain⟨w,rfl,bw⟩:=cG ba;obtain⟨b,zs,rfl,hs,hb⟩:=R.seq e0 bw;obtain⟨⟨n,c⟩,e1,e2⟩:=aI h1;obtain⟨⟨c',y⟩,e3,e4⟩:=aV e2;subst e4;obtain⟨rfl,hc,hl⟩:=dM e1;obtain⟨a,ha,rfl⟩:=cz.mp bp;unfold fm at e3;split at e3
  ·rename_i hk;obtain⟨qs,e5,e6⟩:=aV e3;cases e6;obtain⟨hz,rfl⟩:=aB e5;obtain⟨_,vs,g2,g3⟩:=R.c.cell n c a hc ha hl;rw[hk]at g2;exact⟨a,b,vs,zs,rfl,rfl,g2,hs,by rw[<-g3.length,<-hb.length];exact dC hz,h2 .bL _ F (R.put hc hl ha aq (g3.append hb)) (Gr.refl _) (cR.mpr rfl)⟩
  ·cases e3
 ·cases h1
end
section
variable {prog:Program} {w:World} {A:Around} {R:Result->Shared->Prop} {s:Shared}
abbrev nb(prog:Program)(w:World)(A:Around)(env:Env)(R:Result->Shared->Prop):Value->Shared->Prop:=notedBy (model prog w) A env λe s'=>R (.error e) s'
abbrev Bz(ifs:List Expr)(env:Env):Sem Bool:=forIn ifs true λc r=>if r=true then do let ok <-isTrue c env (eval c env);pure (ForInStep.yield ok)else pure (ForInStep.yield r)
def Dt(I:Nat->Shared->Prop)
  (mR:∀n s,I n s->wpAny (model prog w) A (pyNext it) (λr s1=>match r with
   | none=>R (.ok .next) s1
   | some v=>wpAny (model prog w) A (letOwnedTupleGo tg it v) (λ_ s1'=>wpAny (model prog w) A (assign tg env v) (λ_ s2=>wpAny (model prog w) A (Bz ifs env) (λok s3 =>
      if ok=true then wpAny (model prog w) A (eval elt env) (λx s4=>wpAny (model prog w) A (call (.builtin "list.append") [acc,x]) (λ_ s5=>∃m,m<n/\I m s5) (nb prog w A env R) s4) (nb prog w A env R) s3
      else ∃m,m<n/\I m s3) (nb prog w A env R) s2) (nb prog w A env R) s1') (nb prog w A env R) s1) (nb prog w A env R) s)
  (n:Nat) (h:I n s):codeAny (model prog w) A (.compLoop (.ListComp elt [⟨tg,iter,ifs,0⟩] scope pos) 0 it acc env) R s:=by
 refine codeAny_loop rfl I (λn s hI=>?_) n h
 refine wpAny_noted ?_;rw[compTurn_list];refine ae (wpAny_standAt (ae (thn (mR n s hI) λr s1 h1=>?_)))
 cases r with
 | none=>exact ah h1
 | some v =>
  refine ae (thn h1 λ_ s1' h1'=>ae (thn h1' λ_ s2 h2=>ae (thn h2 λok s3 h3=>?_)))
  cases ok with
  | false=>exact ah ⟨rfl,h3⟩
  | true=>exact ae (ae (thn h3 λx s4 h4=>ae (thn h4 λ_ s5 h5=>ah (ah ⟨rfl,h5⟩))))
end
def ji(env:Env):List (Str×NameKind)->List (Str×Addr)->List (Str×Addr)
 | [],cs=>cs
 | (n,k)::r,cs=>ji env r (if k==.free then(match env.cells.lookup n with | some c=>(n,c)::cs | none=>cs)else cs)
def pZ(h:∀y∈scope.names,y.2=.free->∃c,env.cells.lookup y.1=some c):closureFor scope env=pure (ji env scope.names []):=by
 have all:∀(l:List (Str×NameKind)) (cs:List (Str×Addr)),(∀y∈l,y.2=.free->∃c,env.cells.lookup y.1=some c) ->
   (forIn l cs λx r=>(match x with | (name,kind)=>if(kind==NameKind.free)=true then do let a <-cellOf env name;pure (ForInStep.yield ((name,a)::r))else pure (ForInStep.yield r):Sem (ForInStep (List (Str×Addr)))))=pure (ji env l cs):=by
  intro l;induction l with
  | nil=>intro cs _;rfl
  | cons y l ih =>
   intro cs hl;obtain⟨n,k⟩:=y;rw[oW];by_cases hk:k=.free
   ·subst hk;obtain⟨c,hc⟩:=hl (n,.free) bQ rfl;have zl:=hc;have e1:cellOf env n=pure c:=by unfold cellOf;rw[zl]
    simp only[e1,ji,zl];exact ih _ λy hy=>hl y (bF _ hy)
   ·have hb:(k==NameKind.free)=false:=by simpa using hk
    simp only[hb,ji];exact ih _ λy hy=>hl y (bF _ hy)
 unfold closureFor;have:=all scope.names [] h;simp only[bind_pure]at this ⊢;exact this
theorem wQ:∀(l:List (Str×NameKind)) (cs:List (Str×Addr)) (p:Str×Addr),p∈ji env l cs->p∈cs\/env.cells.lookup p.1=some p.2
 | [],_,_,h=>.inl h
 | (n,k)::r,cs,p,h=>by
  unfold ji at h;rcases wQ r _ p h with q | q
  ·grind
  ·grind
def bP(h:(ji env l []).lookup x=some c):env.cells.lookup x=some c:=by
 rcases wQ l [] (x,c) (dQ h)with q | q
 ·cases q
 ·exact q
theorem sk:∀(l:List (Str×NameKind)) (cs:List (Str×Addr)),(∃c,(x,c)∈cs)->∃c,(x,c)∈ji env l cs
 | [],_,h=>h
 | (n,k)::r,cs,⟨c,h⟩=>by
  unfold ji;refine sk r _ ⟨c,?_⟩;split
  ·grind
  ·exact h
theorem jj:∀(l:List (Str×NameKind)) (cs:List (Str×Addr)),(x,NameKind.free)∈l->(∃c,env.cells.lookup x=some c)->∃c,(x,c)∈ji env l cs
 | [],_,h,_=>by cases h
 | (n,k)::r,cs,h,hc=>by
  unfold ji;rcases aF.mp h with z | z
  ·cases z;obtain⟨c,e⟩:=hc;refine sk r _ ⟨c,?_⟩;simp[e]
  ·exact jj r _ z hc
theorem gK:∀{l:List (Str×Addr)},(x,c)∈l->∃c',l.lookup x=some c'
 | [],h=>by cases h
 | (n,d)::r,h=>by
  rw[gD];cases hx:x==n with
  | true=>exact⟨d,rfl⟩
  | false =>
   rcases aF.mp h with z | z
   ·grind
   ·exact gK z
def cy(X:Cx)(N:List Str)(scope:Scope)(C:Addr)(s:Shared)(H:Hp)(fp:List Addr):Cx where
 prog:=X.prog
 w:=X.w
 K:=X.K
 mg:=X.mg
 base:=X.base
 A:=X.A
 N:=N
 s₀:=s
 aa:=H
 env:=compEnvC scope (ji X.env scope.names []) C X.env
 ay:=X.stack
 stack:=X.stack
 ex:=fp
 fn:=λ_=>false
 calm:=X.calm
 pn:=[]
 xe:=λ_ _=>False
theorem f7{env:Env}:∀(names:List (Str×NameKind)) (x:Str),(names.map fun(n,k)=>if(k==NameKind.free&&env.scope.kind==.function&&env.kindOf n==some .cell)then(n,NameKind.cell)else(n,k)).lookup x =
  (names.lookup x).map λk=>if(k==NameKind.free&&env.scope.kind==.function&&env.kindOf x==some .cell)then NameKind.cell else k
 | [],_=>rfl
 | (n,j)::r,x=>by
  have e:(if(j==NameKind.free&&env.scope.kind==.function&&env.kindOf n==some .cell)=true then(n,NameKind.cell)else(n,j))=(n,if(j==NameKind.free&&env.scope.kind==.function&&env.kindOf n==some .cell)=true then NameKind.cell else j):=by split<;>rfl
  show List.lookup x ((if(j==NameKind.free&&env.scope.kind==.function&&env.kindOf n==some .cell)=true then(n,NameKind.cell)else(n,j))::_)=_
  rw[e,gD,gD];cases hx:x==n with
  | true =>
   have zL:=aO hx;subst zL;rfl
  | false=>exact f7 r x
def lC{env:Env}{names:List (Str×NameKind)}(h:(names.map fun(n,k)=>if(k==NameKind.free&&env.scope.kind==.function&&env.kindOf n==some .cell)then(n,NameKind.cell)else(n,k)).lookup x=some k) :
  names.lookup x=some k\/(k=.cell/\names.lookup x=some .free):=by
 rw[f7]at h;cases z:names.lookup x with
 | none=>rw[z]at h;cases h
 | some j =>
  rw[z]at h;have h:(if(j==NameKind.free&&env.scope.kind==.function&&env.kindOf x==some .cell)=true then NameKind.cell else j)=k:=by grind
  split at h
  ·grind
  ·grind
def uY{env:Env}{names:List (Str×NameKind)}(h:names.lookup x=some .free) :
  (names.map fun(n,k)=>if(k==NameKind.free&&env.scope.kind==.function&&env.kindOf n==some .cell)then(n,NameKind.cell)else(n,k)).lookup x=some .cell \/
  (names.map fun(n,k)=>if(k==NameKind.free&&env.scope.kind==.function&&env.kindOf n==some .cell)then(n,NameKind.cell)else(n,k)).lookup x=some .free:=by
 rw[f7,h];show some (if _ then _ else _)=_\/some (if _ then _ else _)=_
 split
 ·grind
 ·grind
structure gW (X:Cx) (N:List Str) (link:List (Option Nat)) (scope:Scope):Prop where
 kind:scope.kind=.function
 cell:∀y∈scope.names,y.2≠.cell
 names:∀y∈scope.names,y.2=.local->scope.names.lookup y.1=some .local
 free:∀y∈scope.names,y.2=.free->(X.env.kindOf y.1=some .cell\/X.env.kindOf y.1=some .free)
 len:link.length=N.length
 link:∀(i j:Nat) (x:Str),link[i]?=some (some j)->N[i]?=some x->X.N[j]?=some x/\scope.names.lookup x=some .free
def fL(link:List (Option Nat))(σ:St):St:=link.map λo=>o.bind λj=>(σ[j]?).join
section
variable {X:Cx} {af:List (Addr×Obj)} {σ:St} {H:Hp} {s:Shared}
def Inv.adopt(I:Inv X af σ H s)(hn:H D=none)(h1:X.s₀.heap.objs.size<=D)(h2:D≠X.env.locals)(h3:∀x c,X.env.cells.lookup x=some c->c≠D)(h4:∀p∈X.pn++af,p.1≠D)
  (ho:eR X.prog X.w (bM H D o) s.heap D o):Inv X af σ (bM H D o) s:=by
 have ne:∀b u,H b=some u->b≠D:=λb u e z=>by rw[z,hn]at e;cases e
 refine I.step (ch:=[D]) (λb hb=>?_) (λb u _ _ _ e _=>e) (λb u _ _ _ e _=>⟨u.slots,e⟩) (λb u hc _ n=>?_) (λb u _ e=>⟨u,e⟩)
  (λb xs e=>by rw[aH (ne b _ e)];exact e) (λb u xs e=>by rw[aH (ne b _ e)];exact e) (λb ps e=>by rw[aH (ne b _ e)];exact e) (λm hm=>hm) (λb u e=>?_) I.bare
 ·have e:b=D:=by simpa using hb
  subst e;exact⟨.inr h1,h2,h3,h4⟩
 ·rw[aH (λz=>hc (by simp[z]))];exact n
 ·by_cases hb:b=D
  ·subst hb;rw[aq]at e;cases e;exact ho
  ·rw[aH hb]at e;exact(I.hok b u e).uB (λ_ _ _ q=>q) (λc q=>by rw[aH (ne c _ q)];exact q) (λc xs q=>by rw[aH (ne c _ q)];exact q) λc ob v q=>by rw[aH (ne c _ q)];exact q
def zT{N:List Str}{link:List (Option Nat)}(S:gW X N link scope)(I:Inv X af σ H s)(Xu:∀b∈fp,pz X af H b)
  (hC:s.heap.objs.size<=C) (ns:h.Ns C λ_=>none) (hk:∀b o,s.heap.get? b=some o->h.get? b=some o) (Zg:∀b∈fp,∃o,s.heap.get? b=some o) :
  Inv (cy X N scope C s H fp) [] (fL link σ) H {s with heap:=h,toks:=tk}:=by
 have v7:∀y∈scope.names,y.2=.free->∃c,X.env.cells.lookup y.1=some c:=λy hy hf=>I.ok.has y.1 (S.free y hy hf)
 have Zh:∀x c,X.env.cells.lookup x=some c->c<s.heap.objs.size:=λx c e=>let ⟨v,o,ho,_⟩:=I.cell x c e;aC ho
 refine⟨⟨I.ok.mod,S.kind,I.ok.glob,I.ok.blt,hC,λx y c h1 h2=>I.ok.inj x y c (bP h1) (bP h2),λx hx=>?_,λx c hx=>(by cases hx),I.ok.hd,I.ok.frames,.inl rfl,λb hb=>⟨?_,λx c e=>(Xu b hb).2.2.2.2.1 x c (bP e)⟩,I.bs,bh I.ok.bsz I.sz,
  λb o e hb=>?_,λb hb z=>?_,I.stack,I.uD,I.tabs⟩,rfl,I.bare,Un.kept hk,⟨_,ns,λi x v e1 e2 e3=>?_⟩,λx c e=>?_,I.hok.fresh hC,λx c e=>I.freeC x c (bP e),λp hp=>(by cases hp),I.hok.kept hk,by unfold fL;rw[aJ];exact S.len⟩
 ·-- MN cells X4 there
  have zL:=hx;have hf:scope.names.lookup x=some .free:=by
   rcases zL with h1 | h1
   ·rcases lC h1 with q | ⟨_,q⟩
    ·exact absurd rfl (S.cell _ (dQ q))
    ·exact q
   ·rcases lC h1 with q | ⟨z,_⟩
    ·exact q
    ·cases z
  have hm:=dQ hf;obtain⟨c,hc⟩:=jj scope.names [] hm (v7 _ hm rfl);exact gK hc
 ·intro z;obtain⟨o,ho⟩:=Zg b hb;exact absurd (bR (aC ho) (bh hC (gF z.symm))) (dX _)
 ·rcases(Xu b hb).2.2.2.1 with z | z
  ·exact I.ok.noex b o e z
  ·exact absurd (bR (aC e) (bh I.ok.bsz z)) (dX _)
 ·rcases aF.mp (I.uC b z)with q | q
  ·exact(Xu b hb).2.1 q
  ·exact(Xu b hb).2.2.1 q
 ·-- a slot: abi mY from MN Zi
  have hi:i<link.length:=by
   have:=(b6.mp e2).1;unfold fL at this
   rwa [aJ]at this
  unfold fL at e2;rw[bK,b8 hi]at e2;have e2:=bB e2;cases z:link[i]with
  | none=>rw[z]at e2;cases e2
  | some j =>
   rw[z]at e2;have e2:(σ[j]?).join=some v:=e2;obtain⟨hX,hf⟩:=S.link i j x (by rw[b8 hi,z]) e1
   have hm:=dQ hf;have Xv:=S.free _ hm rfl;obtain⟨m,hn,hl⟩:=I.loc;obtain⟨u,r,l⟩:=hl j x v hX (by
    cases q:σ[j]? with
    | none=>rw[q]at e2;cases e2
    | some q'=>rw[q]at e2;cases q' with
     | none=>cases e2
     | some v'=>cases e2;rfl) (by rcases Xv with q | q;exact .inr (.inl q);exact .inr (.inr q))
   refine⟨u,r,.inr ⟨uY hf,?_⟩⟩;obtain⟨c,hc⟩:=jj scope.names [] hm (v7 _ hm rfl);obtain⟨c',zl⟩:=gK hc;refine⟨c',zl,?_⟩;rcases l with⟨lk,_⟩ | ⟨_,d,hd,rR⟩
   ·rcases Xv with q | q<;>(rw[show X.env.kindOf x=some .local from lk]at q;cases q)
   ·have:=bP zl;rw[hd]at this;cases this;exact rR.keeps hk
 ·obtain⟨v,o,ho,hd⟩:=I.cell x c (bP e);exact⟨v,o,hk _ _ ho,hd⟩
end
abbrev TB:=V->St->Hp->(Option V->St->Hp->Prop)->Prop
def PB(X:Cx)(tg:Expr)(ifs:List Expr)(elt:Expr)(tb:TB):Prop :=
 ∀(af:List (Addr×Obj)) (s:Shared) (σ:St) (H:Hp) (v:V) (u:Value) (Q:Option V->St->Hp->Prop),Inv X af σ H s->RelV v u->tb v σ H Q ->
  wpAny (model X.prog X.w) X.A (assign tg X.env u) (λ_ s2=>wpAny (model X.prog X.w) X.A (Bz ifs X.env) (λok s3 =>
   if ok=true then wpAny (model X.prog X.w) X.A (eval elt X.env) (λy s4=>∃v' bj H',Inv X af bj H' s4/\RelV v' y/\Q (some v') bj H') X.xe s3
   else ∃bj H',Inv X af bj H' s3/\Q none bj H') X.xe s2) X.xe s
def GG(hg:PG X tg g)(he:PE X elt te):PB X tg [] elt (λv σ H Q=>g v σ H λiA H1=>te iA H1 λy H2=>Q (some y) iA H2):=by
 intro af s σ H v u Q I r h;refine thn (hg af s σ H v u _ I r h) λ_ s2 ⟨iA,H1,I1,q1⟩=>ah ?_
 rw[if_pos rfl];exact thn (he af s2 iA H1 _ I1 q1) (by rintro y s4 ⟨v',H2,I2,r2,q2⟩;exact⟨v',iA,H2,I2,r2,q2⟩)
def KW(hg:PG X tg g)(hc:PT X c tc)(he:PE X elt te) :
  PB X tg [c] elt (λv σ H Q=>g v σ H λiA H1=>tc iA H1 λb H2=>if b=true then te iA H2 λy H3=>Q (some y) iA H3 else Q none iA H2):=by
 intro af s σ H v u Q I r h;refine thn (hg af s σ H v u _ I r h) λ_ s2 ⟨iA,H1,I1,q1⟩=>?_
 refine wpAny_tests_one (thn (hc af s2 iA H1 _ I1 q1) λb s3 ⟨H2,I2,q2⟩=>?_)
 cases b with
 | true =>
  rw[if_pos rfl]at q2 ⊢;exact thn (he af s3 iA H2 _ I2 q2) (by rintro y s4 ⟨v',H3,I3,r3,q3⟩;exact⟨v',iA,H3,I3,r3,q3⟩)
 | false =>
  rw[if_neg dg]at q2 ⊢;exact⟨iA,H2,I2,q2⟩
def su(link:List (Option Nat))(wi:TI)(tb:TB):TE:=λσ H Q=>wi σ H λJ H1=>∃W:Nat->Nat->List V->St->Hp->Prop,(∃m,W 0 m [] (fL link σ) H1)/\∀i m acc bj H',W i m acc bj H' ->
 (J.stop i H'/\acc.length<=sizeLine/\∀D,H' D=none->Q (.ref D) (bM H' D (.lst acc))) \/
 (J.go i H'/\acc.length<sizeLine/\∀x H2,J.yld i H' x H2->tb x bj H2 λo mn H3=>∃m',m'<m/\W (i+1) m' (acc++o.toList) mn H3)
structure Zj (X:Cx) (af:List (Addr×Obj)) (H:Hp) (C:Addr):Prop where
 free:H C=none
 above:X.s₀.heap.objs.size<=C
 loc:C≠X.env.locals
 cell:∀x c,X.env.cells.lookup x=some c->c≠C
 pin:∀p∈X.pn++af,p.1≠C
def sv(hc:X.calm=true)(S:gW X N link scope)(hi:PI X tg iter wi)
  (hb:∀(C:Addr) (s:Shared) (H:Hp) (fp:List Addr),PB (cy X N scope C s H fp) tg ifs elt tb) (hs:∀x,foldedSetIterable iter X.env x=pure x) (I:Inv X af σ H s) (h:su link wi tb σ H Q)
  (Zk:∀(s5:Shared) (D C:Addr) (H5:Hp) (m:Str->Option Value),Inv X af σ H5 s5->Q (.ref D) H5->s5.heap.Ns C m->Zj X af H5 C->compPost (model X.prog X.w) X.A X.xe use Q' (.ref D) C (.ok .next) s5) :
  wpAny (model X.prog X.w) X.A (comprehension (.ListComp elt [⟨tg,iter,ifs,0⟩] scope pos) scope X.env qX (newList []) false (eval iter X.env) use) Q' X.xe s:=by
 have v7:∀y∈scope.names,y.2=.free->∃c,X.env.cells.lookup y.1=some c:=λy hy hf=>I.ok.has y.1 (S.free y hy hf)
 refine wpAny_comprehension_free rfl hs (pZ v7) S.kind S.names (thn (hi af s σ H _ I h) λv s1 h1=>thn h1 λYw s2 h2=>?_)
 obtain⟨it,fp,tn,J,H2,rfl,I2,T,dG,f2,W,⟨m0,w0⟩,mR⟩:=h2;refine eF (wpAny_newFunctionEnv S.cell (by grind) (λh₁ ns sb=>?_) S.kind)
 dsimp only at ns sb ⊢
 generalize hD:s2.heap.push {cls:=.type "list",dict:=none,data:=.seq [].toArray}=HD at ns sb ⊢
 have hC:HD.objs.size=s2.heap.objs.size+1:=by rw[<-hD,eJ]
 have Xw:s2.heap.objs.size≠HD.objs.size:=by grind
 have GH:s2.heap.objs.size<=HD.objs.size:=by grind
 have old:∀b o,s2.heap.get? b=some o->h₁.get? b=some o:=λb o e=>by
  have dH:=aC e;exact sb.extBut b o (aR (bR dH GH)) (aG _ (by rw[<-hD];exact aG _ e))
 have Zl:h₁.get? s2.heap.objs.size=some {cls:=.type "list",data:=.seq [].toArray} :=
  sb.extBut _ _ Xw (aG _ (by rw[<-hD];exact bc _ rfl))
 generalize eD:s2.heap.objs.size=D at *
 generalize eC:HD.objs.size=C at *
 have exO:∀b∈fp,∃o,s2.heap.get? b=some o:=λb iC=>let ⟨o,e,_⟩:=T.obj _ _ dG b iC;⟨o,e⟩
 have I3:∀tk,Inv (cy X N scope C s2 H2 fp) [] (fL link σ) H2 {s2 with heap:=h₁,toks:=tk}:=λtk =>
  zT S I2 f2 (by rw[eD];exact GH) ns old exO
 have fpD:∀b∈fp,b≠D:=λb iC z=>by
  obtain⟨o,e⟩:=exO b iC;have:=aC e;rw[z,<-eD]at this;exact dX _ this
 have zq:∀{H':Hp} {pl:List (Addr×Obj)},(∀b∈fp,H' b=none)->(∀p∈pl,p.1=D)->∀b∈fp,pz (cy X N scope C s2 H2 fp) pl H' b:=λ{H' pl} hn hp b iC=>by
  have K0:=(I3 0).ok.exf b iC;exact⟨hn b iC,K0.1,(I3 0).ok.exfs b iC,.inl iC,K0.2,λp uZ z=>fpD b iC (z▸hp p (by simpa[cy]using uZ))⟩
 have U0:∀x c,(cy X N scope C s2 H2 fp).env.cells.lookup x=some c->c≠D:=λx c e z=>by
  obtain⟨v,o,ho,_⟩:=I2.cell x c (bP e);have:=aC ho;rw[z,<-eD]at this;exact dX _ this
 have fsD:D∉(cy X N scope C s2 H2 fp).fs:=λz=>by
  obtain⟨_,o,ho,_⟩:=I2.stack.mem z;have:=aC ho;rw[<-eD]at this;exact dX _ this
 have loop:∀s3:Shared,s3={s2 with heap:=h₁,toks:=s2.toks+([]:List (Str×Value)).length} ->
   codeAny (model X.prog X.w) X.A (.compLoop (.ListComp elt [⟨tg,iter,ifs,0⟩] scope pos) 0 (.ref it) (.ref D) (cy X N scope C s2 H2 fp).env) (compPost (model X.prog X.w) X.A X.xe use Q' (.ref D) C) s3:=by
  rintro s3 rfl
  refine Dt (λn s'=>∃i acc bj H' aA nn,Inv (cy X N scope C s2 H2 fp) [] bj H' s'/\tn i s'.heap/\(∀b∈fp,H' b=none)/\H' D=none/\s'.heap.get? D=some {cls:=.type "list",data:=.seq aA.toArray nn}/\Vals acc aA/\W i n acc bj H') ?_ m0
   ⟨0,[],_,H2,[],0,I3 _,T.keep _ _ _ dG λb iC o e=>old b o e,λb iC=>(f2 b iC).1,I2.hok.fresh (gF eD),Zl,.nil,w0⟩
  rintro n s4 ⟨i,acc,Jk,H4,aA,nn,I4,Bn,fr4,hD4,Gd,hv,w4⟩
  have U1:Inv (cy X N scope C s2 H2 fp) [(D,{cls:=.type "list",data:=.seq aA.toArray nn})] Jk H4 s4:=I4.k6 λp hp=>by
   have e:p=(D,{cls:=.type "list",data:=.seq aA.toArray nn}):=by simpa using hp
   subst e;exact⟨Gd,hD4,Xw,fsD,λv=>by simp⟩
  have GI:∀p∈[(D,({cls:=.type "list",data:=.seq aA.toArray nn}:Obj))],p.1=D:=λp hp=>by
   have e:p=(D,{cls:=.type "list",data:=.seq aA.toArray nn}):=by simpa using hp
   rw[e]
  rcases mR i n acc Jk H4 w4 with⟨stop,hz,q⟩ | ⟨go,hz,step⟩
  ·refine thn (T.done (cy X N scope C s2 H2 fp) rfl rfl rfl hc i _ s4 Jk H4 _ U1 (zq fr4 GI) Bn stop) λr s5 ⟨hr,I5⟩=>?_
   subst hr;obtain⟨m,hn,_⟩:=I5.loc;have pD:=I5.pin (D,{cls:=.type "list",data:=.seq aA.toArray nn}) (eY _ (cH.mpr rfl))
   have SK:∀b o,s2.heap.get? b=some o->b≠D/\b≠C:=λb o e=>by
    have:=aC e;rw[eD]at this;exact⟨aR this,aR (bR this GH)⟩
   have Na:X.env.locals≠D/\X.env.locals≠C:=by
    have:=I2.lt;rw[eD]at this;exact⟨aR this,aR (bR this GH)⟩
   have I6:=I2.MT I5.os I5.base I5.hok I5.bare λb iC=>⟨(f2 b iC).2.2.2.1,(f2 b iC).2.1,(f2 b iC).2.2.2.2.1,(f2 b iC).2.2.2.2.2⟩
   have I7:=Inv.adopt (o:=.lst acc) I6 pD.2.1 (bh I2.sz (gF eD)) (cx Na.1) (λx c e=>let ⟨v,o,ho,_⟩:=I2.cell x c e;(SK c o ho).1)
    (λp hp=>(SK p.1 p.2 (I2.pin p hp).1).1) ⟨hz,aA,nn,hv,pD.1⟩
   exact Zk s5 D C _ m I7 (q D pD.2.1) hn ⟨by rw[aH (cx Xw)];exact I5.free,bh (bh I2.sz (gF eD)) GH,cx Na.2,λx c e=>let ⟨v,o,ho,_⟩:=I2.cell x c e;(SK c o ho).2,λp hp=>(SK p.1 p.2 (I2.pin p hp).1).2⟩
  ·refine thn (T.item (cy X N scope C s2 H2 fp) rfl rfl rfl hc i _ s4 Jk H4 _ U1 (zq fr4 GI) Bn go) λr s5 ⟨u,hr,h5⟩=>?_
   subst hr;refine thn h5 λ_ s5' z9=>?_
   obtain⟨x,H5,I5,r5,y5,Ox,YA⟩:=z9;have YB:=I5.pinned (zq YA GI) (T.obj _ _ Ox);have gh:∀{o:Option V} {Xd:St} {H6:Hp} {s6:Shared},Inv (cy X N scope C s2 H2 fp) ([(D,{cls:=.type "list",data:=.seq aA.toArray nn})]++pB fp s5'.heap) Xd H6 s6 ->
     tn (i+1) s6.heap/\(∀b∈fp,H6 b=none)/\H6 D=none/\s6.heap.get? D=some {cls:=.type "list",data:=.seq aA.toArray nn}:=λ{o Xd H6 s6} I6=>by
    have pD:=I6.pin (D,_) (eY _ (oF _ (cH.mpr rfl)));refine⟨T.keep _ _ _ Ox λb iC o e=>(I6.pin (b,o) (eY _ (eY _ (iB iC e)))).1,λb iC=>?_,pD.2.1,pD.1⟩
    obtain⟨o,e,d⟩:=T.obj _ _ Ox b iC;exact(I6.pin (b,o) (eY _ (eY _ (iB iC e)))).2.1
   refine ir (hb C s2 H2 fp _ s5' Jk H5 x u _ YB r5 (step x H5 y5)) (λ_ s6 h6=>ir h6 (λok s7 h7=>?_) λ_ _ z=>False.elim z) λ_ _ z=>False.elim z
   cases ok with
   | false =>
    rw[if_neg dg]at h7 ⊢;obtain⟨Xx,H8,I8,m',Zm,w8⟩:=h7;obtain⟨a1,a2,a3,a4⟩:=gh (o:=none) I8;exact⟨m',Zm,i+1,_,Xx,H8,aA,nn,I8.k6 (λp hp=>by cases hp),a1,a2,a3,a4,by simpa using hv,w8⟩
   | true =>
    rw[if_pos rfl]at h7 ⊢;refine ir h7 (λy s8 z9=>?_) λ_ _ z=>False.elim z
    obtain⟨v8,Xx,H8,I8,r8,m',Zm,w8⟩:=z9;obtain⟨a1,a2,a3,a4⟩:=gh (o:=some v8) I8;have hl:=hv.length;refine gG F.slot_list_append ⟨_,a4,rfl⟩ F.entry_list_append (F.args_list_append_2 _ _) (PySem.list_append D aA.toArray nn y (by rw[cU];lia)) ⟨a4,?_⟩
    have I9:Inv (cy X N scope C s2 H2 fp) [] Xx H8 s8:=I8.k6 (λp hp=>by cases hp)
    have qq:=PySem.IsL.update a4 λz=>z.push y
    have hp:aA.toArray.push y=(aA++[y]).toArray:=by simp
    rw[hp]at qq;refine⟨m',Zm,i+1,_,Xx,H8,aA++[y],_,I9.turned (λb o hne e=>(iY _ _ (cx hne)).trans e) a3 Xw (.inr (gF eD)) U0 (λp hp=>by simp[cy]at hp),T.keep _ _ _ a1 λb iC o e=>(iY _ _ (cx (fpD b iC))).trans e,a2,a3,qq,hv.append (.cons r8 .nil),w8⟩
 exact codeAny_compStart_list (loop _ rfl) (T.self _ 0 _ _ _ (T.keep _ _ _ dG λb iC o e=>old b o e) (loop _ rfl))
def BA(hc:X.calm=true)(S:gW X N link scope)(hi:PI X tg iter wi)
  (hb:∀(C:Addr) (s:Shared) (H:Hp) (fp:List Addr),PB (cy X N scope C s H fp) tg ifs elt tb) (hs:∀x,foldedSetIterable iter X.env x=pure x:=by intro _;rfl) :
  PE X (.ListComp elt [⟨tg,iter,ifs,0⟩] scope pos) (su link wi tb):=by
 intro af s σ H Q I h;rw[eval_ListComp];refine sv hc S hi hb hs I h λs5 D C H5 m I5 q hn L=>⟨m,hn,λh' sb=>?_⟩
 exact⟨.ref D,H5,I5.turned (λb o hne e=>(sb.2 b hne).trans e) L.free L.loc (.inr L.above) L.cell L.pin,rfl,q⟩
def BB(hc:X.calm=true)(hN:X.N.Nodup)(hx:X.N[i]?=some x)(hl:X.env.scope.names.lookup x=some .local)(S:gW X N link scope)(hi:PI X tg iter wi)
  (hb:∀(C:Addr) (s:Shared) (H:Hp) (fp:List Addr),PB (cy X N scope C s H fp) tg ifs elt tb) (hw:swapsWith (.ListComp elt [⟨tg,iter,ifs,0⟩] scope pos) (some (.Name x qX)) Du.line X.env=pure true) (hs:∀x,foldedSetIterable iter X.env x=pure x:=by intro _;rfl) :
  PS X (.Assign [.Name x qX] (.ListComp elt [⟨tg,iter,ifs,0⟩] scope pos) Du) (JN (su link wi tb) (gName i)):=by
 intro af s σ H D I h;rw[exec_Assign_Name_used _ _ _ _ hw];refine ae (wpAny_standAt (ae ?_));refine ae (thn (sv hc S hi hb hs I h λs5 a C H5 m I5 q hn L=>?_) λ_ s' q=>ah (ah q))
 refine wpAny_assign_Name (store_ok2 (v:=.ref a) I5 hN hx (.inl hl) rfl (λs6 I6 k=>?_) (.inr hl))
 refine⟨m,?_,λh' sb=>?_⟩
 ·obtain⟨o,es,ep,ho,r⟩:=hn;obtain⟨b,sb1,hor⟩:=k;have ne:C≠b:=λz=>by
   rcases hor with w | w
   ·exact L.loc (z.trans w)
   ·exact L.cell x b w z.symm
  exact⟨o,es,ep,(sb1.2 C ne).trans ho,r⟩
 ·exact⟨_,H5,I6.turned (λb o hne e=>(sb.2 b hne).trans e) L.free L.loc (.inr L.above) L.cell L.pin,q⟩
def cf(link:List (Option Nat))(ρ:List (Option PV)):List (Option PV):=link.map λo=>o.bind λj=>(ρ[j]?).join
def KG(L:List Nat)(g:Tg):Prop:=∀p st aM,g p st=some aM->aM.ρ.length=st.ρ.length/\∀j:Nat,j∉L->aM.ρ[j]?=st.ρ[j]?
def U2(L:List Nat)(g:SG):Prop:=∀p st aM,g p st=some aM->aM.ρ.length=st.ρ.length/\∀j:Nat,j∉L->aM.ρ[j]?=st.ρ[j]?
def KY(i:Nat):KG [i] (b9 i):=λp st aM h=>by
 obtain⟨_,rfl⟩:=aB h;exact⟨ip,λj hj=>gB (λz=>hj (by simp[z]))⟩
def KZ:U2 [] wG:=λp st aM h=>by
 cases p with
 | nil=>cases h;exact⟨rfl,λ_ _=>rfl⟩
 | cons _ _=>cases h
def GJ(h1:KG L g)(h2:U2 M r):U2 (L++M) (je g r):=λp st aM h=>by
 cases p with
 | nil=>cases h
 | cons p ps =>
  obtain⟨dG,e1,e2⟩:=aI h;obtain⟨l1,k1⟩:=h1 p st dG e1;obtain⟨l2,k2⟩:=h2 ps dG aM e2;exact⟨l2.trans l1,λj hj=>(k2 j λz=>hj (eY _ z)).trans (k1 j λz=>hj (oF _ z))⟩
def PQ(h:U2 L r):KG L (q9 n r):=λp st aM e=>by
 unfold q9 at e;split at e
 ·obtain⟨_,e⟩:=bO e;exact h _ st aM e
 ·cases e
section
variable {K:W.Frag} {F:Fz} {ρ:List (Option PV)} {σ:St}
def Lc.fL(L:Lc K F ρ σ)(link:List (Option Nat)):Lc K F (cf link ρ) (fL link σ) where
 av:=λi p e=>by
  unfold cf at e;rw[bK]at e;cases z:link[i]? with
  | none=>rw[z]at e;cases e
  | some o =>
   rw[z]at e;cases o with
   | none=>cases e
   | some j =>
    have e:(ρ[j]?).join=some p:=bB e;cases w:ρ[j]? with
    | none=>rw[w]at e;cases e
    | some q =>
     rw[w]at e;cases e;obtain⟨v,h1,h2⟩:=L.av j p w;refine⟨v,?_,h2⟩;unfold L2.U.fL;rw[bK,z];show some ((σ[j]?).join)=_;rw[h1];rfl
 len:=by unfold cf L2.U.fL;rw[aJ,aJ]
def Lc.back{L:List Nat}(R:Lc K F PR σ)(hl:Zn.length=σ.length)(h0:Zn=cf link ρ)(hk:∀j:Nat,j∉L->PR[j]?=Zn[j]?)(hL:∀i∈L,link[i]?=some none):Lc K F Zn σ where
 av:=λi p e=>by
  refine R.av i p ?_;rw[hk i λhi=>?_]
  ·exact e
  ·rw[h0]at e;unfold cf at e;rw[bK,hL i hi]at e;cases e
 len:=hl
end
def Zo{α:Type}:Rs α×bJ->Option (α×List ak)
 | (.ok a,st)=>some (a,st.h)
 | _=>none
abbrev Bd:=List (Option PV)->PV->List ak->Option (Option PV×List ak)
def Dv(g:Tg)(fe:Gx PV):Bd:=λρ p h=>(g p ⟨ρ,h⟩).bind λaM=>(fe aM).bind λr=>(Zo r).map λx=>(some x.1,x.2)
def rh(g:Tg)(ft:Gx Bool)(fe:Gx PV):Bd:=λρ p h=>(g p ⟨ρ,h⟩).bind λaM=>(ft aM).bind λr=>match r with
 | (.ok b,dG)=>if b=true then(fe dG).bind λr=>(Zo r).map λx=>(some x.1,x.2)else some (none,dG.h)
 | _=>none
def lD(bd:PV->List ak->Option (Option PV×List ak)):List PV->List ak->Option (List PV×List ak)
 | [],h=>some ([],h)
 | p::ps,h=>(bd p h).bind λr=>(lD bd ps r.2).map λs=>(r.1.toList++s.1,s.2)
section
variable {X:Cx} {aa:Hp} {ab:Fz} {N:List Str} {link:List (Option Nat)} {scope:Scope} {tg iter elt c:Expr} {pos:Pos} {fi:Gx (List PV)} {g:Tg} {fe:Gx PV} {ft:Gx Bool} {L:List Nat} {cl:Bool}
def wR(e:Zo r=some (a,h)):∃st,r=(.ok a,st)/\st.h=h:=by
 obtain⟨r,st⟩:=r;cases r with
 | ok x=>cases e;exact⟨st,rfl,rfl⟩
 | ex m C=>cases e
def _root_.L2.U.PB.imp(h:PB Y tg ifs elt tb)(i:∀v σ H Q,tb' v σ H Q->tb v σ H Q):PB Y tg ifs elt tb':=λaf s σ H v u Q I r w=>h af s σ H v u Q I r (i _ _ _ _ w)
def tb1(X:Cx)(aa:Hp)(ab:Fz)(g:Tg)(fe:Gx PV):TB:=λv σ H Q=>tG X.K aa ab g v σ H λiA H1=>∀Y:Cx,Y.K=X.K->tE Y aa ab fe iA H1 λy H2=>Q (some y) iA H2
def tb2(X:Cx)(aa:Hp)(ab:Fz)(g:Tg)(ft:Gx Bool)(fe:Gx PV):TB:=λv σ H Q=>tG X.K aa ab g v σ H λiA H1=>∀Y:Cx,Y.K=X.K->tT Y aa ab ft iA H1 λt H2=>if t=true then tE Y aa ab fe iA H2 λy H3=>Q (some y) iA H3 else Q none iA H2
section
variable (ht:∀(C:Addr) (s:Shared) (H:Hp) (fp:List Addr),PG (cy X N scope C s H fp) tg (tG X.K aa ab g)) (he:∀(C:Addr) (s:Shared) (H:Hp) (fp:List Addr),PE (cy X N scope C s H fp) elt (tE (cy X N scope C s H fp) aa ab fe))
include ht he
def pb1(C:Addr)(s:Shared)(H:Hp)(fp:List Addr):PB (cy X N scope C s H fp) tg [] elt (tb1 X aa ab g fe) :=
 (GG (ht C s H fp) (he C s H fp)).imp (by rintro v σ H Q ⟨F,st,p,bI,R,b,e,q⟩;exact⟨F,st,p,bI,R,b,e,λbj H' F' R' g'=>q bj H' F' R' g' _ rfl⟩)
def pb2(hw:∀(C:Addr) (s:Shared) (H:Hp) (fp:List Addr),PT (cy X N scope C s H fp) c (tT (cy X N scope C s H fp) aa ab ft))(C:Addr)(s:Shared)(H:Hp)(fp:List Addr):PB (cy X N scope C s H fp) tg [c] elt (tb2 X aa ab g ft fe) :=
 (KW (ht C s H fp) (hw C s H fp) (he C s H fp)).imp (by rintro v σ H Q ⟨F,st,p,bI,R,b,e,q⟩;exact⟨F,st,p,bI,R,b,e,λbj H' F' R' g'=>q bj H' F' R' g' _ rfl⟩)
end
def oo(h:tS X aa ab (fq fe (b9 i)) D σ H):tE X aa ab fe σ H λv H1=>D.nx (σ.set i (some v)) H1:=by
 obtain⟨F,st,R,h⟩:=h;refine⟨F,st,R,h.bnd λp v F1 aM H1 R1 g1 b1 h1=>?_⟩
 obtain⟨bI,e,z⟩:=h1.stp;obtain⟨hi,rfl⟩:=aB e;exact z F1 _ H1 ⟨R1.c,R1.l.set hi b1⟩ (Gr.refl _)
end
def SI(h:Heap)(it l:Addr)(k:Nat)(xs:Array Value):Prop:=(h.IsListIter it l k/\h.IsList l xs)\/(h.IsTupleIter it l k/\h.IsTuple l xs)
def SI.at{h h':Heap}{it l:Addr}{k:Nat}{xs:Array Value}(x:SI h it l k xs)(h1:∀o,h.get? it=some o->h'.get? it=some o)(h2:∀o,h.get? l=some o->h'.get? l=some o):SI h' it l k xs:=by
 rcases x with⟨⟨o,e,r⟩,⟨o',e',r'⟩⟩ | ⟨⟨o,e,r⟩,⟨o',e',r'⟩⟩
 ·exact .inl ⟨⟨o,h1 o e,r⟩,⟨o',h2 o' e',r'⟩⟩
 ·exact .inr ⟨⟨o,h1 o e,r⟩,⟨o',h2 o' e',r'⟩⟩
def SI.Nb{h:Heap}{it l:Addr}{k:Nat}{xs:Array Value}(x:SI h it l k xs):∃o,h.get? it=some o/\∃vs,o.data=.fields vs:=by
 rcases x with⟨⟨o,e,_,d⟩,_⟩ | ⟨⟨o,e,_,d⟩,_⟩
 ·grind
 ·grind
def SI.sq{h:Heap}{it l:Addr}{k:Nat}{xs:Array Value}(x:SI h it l k xs):∃o n,h.get? l=some o/\o.data=.seq xs n:=by
 rcases x with⟨_,⟨o,e,_,n,d⟩⟩ | ⟨_,⟨o,e,_,n,d⟩⟩
 ·grind
 ·grind
def SI.ne{h:Heap}{it l:Addr}{k:Nat}{xs:Array Value}(x:SI h it l k xs):l≠it:=λz=>by
 obtain⟨o,e,vs,d⟩:=x.Nb;obtain⟨o',n,e',d'⟩:=x.sq;subst z;rw[e]at e';cases e';rw[d]at d';cases d'
section
variable {prog:Program} {w:World} {A:Around} {E:Value->Shared->Prop} {s:Shared}
def zU{it t:Addr}{i:Nat}{aA:Array Value}{x:Value}{Q:Value->Shared->Prop}(nA:s.heap.IsTupleIter it t i)(ht:s.heap.IsTuple t aA)(hx:aA[i]?=some x)
  (hQ:∀h',h'.IsTupleIter it t (i+1)->Heap.SameBut it s.heap h'->Q x {s with heap:=h'}):wpAny (model prog w) A (Builtin.SmallTypes.nextOf (.ref it)) Q E s:=by
 obtain⟨o,ho,hc,hd⟩:=id nA;obtain⟨ol,SM,_,nl,Nc⟩:=ht;refine ae (eX nA.typeIs tM (cV tM nA.typeIs EY (by
  show wpAny _ _ (field (.ref it) 0 >>= _) _ _ s;refine ae (cw ho hd rfl ?_);show wpAny _ _ (if(Value.ref t==Value.none)=true then _ else _) _ _ s
  rw[if_neg (show ¬((Value.ref t==Value.none)=true)from dg)]
  show wpAny _ _ (field (.ref it) 1 >>= _) _ _ s;refine ae (cw ho hd (x:=.int i 0) rfl ?_);show wpAny _ _ (seqItems? (.ref t) >>= _) _ _ s;refine ae (fU SM Nc ?_);simp only[eZ,hx];refine ae (kj ho hd (by simp) (ah ⟨x,rfl,ah (hQ _ ⟨_,fD _ ho (tO (i4 hd _)),(t7 ..).trans hc,by rw[i4 hd];simp[rawInt]⟩ (ij ..))⟩))) (EX _)))
def zV{it t:Addr}{i:Nat}{aA:Array Value}{Q:Value->Shared->Prop}(hh:A.handled=none)(nA:s.heap.IsTupleIter it t i)(ht:s.heap.IsTuple t aA)(hx:aA[i]?=none)
  (hE:∀h' e,Heap.ExtBut it s.heap h'->(∃o,h'.get? e=some o/\o.cls=.type "StopIteration")->E (.ref e) {s with heap:=h'}):wpAny (model prog w) A (Builtin.SmallTypes.nextOf (.ref it)) Q E s:=by
 obtain⟨o,ho,hc,hd⟩:=id nA;obtain⟨ol,SM,_,nl,Nc⟩:=ht;refine ae (eX nA.typeIs tM (cV tM nA.typeIs EY (by
  show wpAny _ _ (field (.ref it) 0 >>= _) _ _ s;refine ae (cw ho hd rfl ?_);refine ae (cw ho hd (x:=.int i 0) rfl ?_);show wpAny _ _ (seqItems? (.ref t) >>= _) _ _ s;refine ae (fU SM Nc ?_);simp only[eZ,hx];refine ae (gH (ae (kj ho hd (by simp) ?_)))
  show wpAny _ _ (newExc (.type "StopIteration") [] >>= _) _ _ _;refine ae ?_;simp only[newExc,newTuple];refine ae (eF ?_ (by size_fits))
  refine ae (m:=firstArgMember _ _) (fj (a:=Value.none) (by first | rfl | (simp only[firstArgMember];rfl)) ?_)
  refine eF ?_ (by size_fits)
  simp only[raiseNew];refine ae (wpAny_handled ?_)
  first | rw[show A.in1.handled=none from hh] | rw[hh]
  exact ae (ah (wpAny_throw (hE _ _ (((ij ..).extBut.push _).push _) ⟨_,bc _ rfl,rfl⟩)))) (EX _)))
def SI.next{it l:Addr}{k:Nat}{xs:Array Value}{x:Value}{Q:Value->Shared->Prop}(hi:SI s.heap it l k xs)(hx:xs[k]?=some x)(hQ:∀h',SI h' it l (k+1) xs->Heap.SameBut it s.heap h'->Q x {s with heap:=h'}) :
  wpAny (model prog w) A (Builtin.SmallTypes.nextOf (.ref it)) Q E s:=by
 have ne:=hi.ne;rcases hi with⟨h1,h2⟩ | ⟨h1,h2⟩
 ·exact wpAny_nextOf_list_item h1 h2 hx λh' a b=>hQ h' (.inl ⟨a,h2.extBut b.extBut ne⟩) b
 ·exact zU h1 h2 hx λh' a b=>hQ h' (.inr ⟨a,h2.extBut b.extBut ne⟩) b
def SI.stop{it l:Addr}{k:Nat}{xs:Array Value}{Q:Value->Shared->Prop}(hh:A.handled=none)(hi:SI s.heap it l k xs)(hx:xs[k]?=none)
  (hE:∀h' e,Heap.ExtBut it s.heap h'->(∃o,h'.get? e=some o/\o.cls=.type "StopIteration")->E (.ref e) {s with heap:=h'}):wpAny (model prog w) A (Builtin.SmallTypes.nextOf (.ref it)) Q E s:=by
 rcases hi with⟨h1,h2⟩ | ⟨h1,h2⟩
 ·exact wpAny_nextOf_list_end hh h1 h2 hx hE
 ·exact zV hh h1 h2 hx hE
end
def nl{a b:Nat}(h:a<b):@Ne Addr a b:=aR h
section
variable {prog:Program} {w:World} {A:Around} {E:Value->Shared->Prop} {s:Shared} {z TI TO i1 i2 l1 l2:Nat} {k:Nat} {xs ys:Array Value}
def iL(h:Heap)(l:Addr)(xs:Array Value)(c:String):Prop:=(c="list_iterator"/\h.IsList l xs)\/(c="tuple_iterator"/\h.IsTuple l xs)
def jD{l:Addr}{xs:Array Value}{c:String}{Q:Value->Shared->Prop}(h:iL s.heap l xs c)(hQ:Q (.ref s.heap.objs.size) {s with heap:=s.heap.push {cls:=.type c,data:=.fields #[.ref l,.int 0 0]}}):wpAny (model prog w) A (pyIter (.ref l)) Q E s:=by
 rcases h with⟨rfl,h⟩ | ⟨rfl,h⟩
 ·exact oJ h hQ
 ·exact yQ h hQ
end
def EJ(K:W.Frag)(H:Hp)(c:Bool)(l:Addr)(vs:List V):Prop:=if c=true then uF K H l vs else fX K H l vs
def K1(h:Heap)(c:Bool)(it l:Addr)(k:Nat):Prop:=if c=true then h.IsListIter it l k else h.IsTupleIter it l k
def p0(c:Bool):String:=if c=true then "list_iterator" else "tuple_iterator"
section
variable {X:Cx} {af:List (Addr×Obj)} {σ:St} {H:Hp} {s:Shared}
def EJ.get(I:Inv X af σ H s){c:Bool}{l:Addr}{vs:List V}(h:EJ X.K H c l vs):∃aA:List Value,Vals vs aA/\iL s.heap l aA.toArray (p0 c):=by
 unfold p0;cases c with
 | true =>
  obtain⟨aA,r,pl,_⟩:=I.list (h);exact⟨aA,r,.inl ⟨rfl,pl.isList⟩⟩
 | false =>
  obtain⟨aA,r,pl,_⟩:=I.tuple (h);exact⟨aA,r,.inr ⟨rfl,pl⟩⟩
def EJ.inj(I:Inv X af σ H s){c:Bool}{l:Addr}{vs ws:List V}(h:EJ X.K H c l vs)(h':EJ X.K H c l ws):vs=ws:=by
 cases c with
 | true=>exact I.k7 h h'
 | false=>exact I.jy h h'
def Nd{h:Heap}{c:Bool}{it l:Addr}{k:Nat}{xs:Array Value}(h1:K1 h c it l k)(h2:iL h l xs (p0 c)):SI h it l k xs:=by
 cases c with
 | true =>
  rcases h2 with⟨_,q⟩ | ⟨q,_⟩
  ·exact .inl ⟨h1,q⟩
  ·exact absurd q (by decide)
 | false =>
  rcases h2 with⟨q,_⟩ | ⟨_,q⟩
  ·exact absurd q (by decide)
  ·exact .inr ⟨h1,q⟩
def K2{h:Heap}{c:Bool}{it l:Addr}{k k':Nat}{xs:Array Value}{h0:Heap}(h1:SI h it l k xs)(h2:iL h0 l xs (p0 c))(kp:∀o,h0.get? l=some o->h.get? l=some o):K1 h c it l k:=by
 cases c with
 | true =>
  rcases h2 with⟨_,⟨o,e,hc,_⟩⟩ | ⟨q,_⟩
  ·rcases h1 with⟨a,_⟩ | ⟨_,⟨o',e',zl,_⟩⟩
   ·exact a
   ·grind
  ·exact absurd q (by decide)
 | false =>
  rcases h2 with⟨q,_⟩ | ⟨_,⟨o,e,hc,_⟩⟩
  ·exact absurd q (by decide)
  ·rcases h1 with⟨_,⟨o',e',zl,_⟩⟩ | ⟨a,_⟩
   ·grind
   ·exact a
def Inv.turns{t':Nat}{h':Heap}{ch:List Addr}(I:Inv X af σ H s)(hf:∀b∈ch,pz X af H b)(kp:∀b o,b∉ch->s.heap.get? b=some o->h'.get? b=some o):Inv X af σ H {s with heap:=h',toks:=t'}:=by
 have Tz:∀b u,H b=some u->b∉ch:=λb u e z=>by rw[(hf b z).1]at e;cases e
 refine I.step (λb hb=>⟨(hf b hb).2.2.2.1,(hf b hb).2.1,(hf b hb).2.2.2.2.1,(hf b hb).2.2.2.2.2⟩) (λb o _ _ hc e _=>kp b o hc e) (λb o _ _ hc e _=>⟨o.slots,kp b o hc e⟩) (λ_ _ _ _ n=>n)
  (λb o hc e=>⟨o,kp b o hc e⟩) (λ_ _ e=>e) (λ_ _ _ e=>e) (λ_ _ e=>e) (λm hm=>?_) (λb u e=>?_) I.bare
 ·obtain⟨o,es,ep,ho,r⟩:=hm;exact⟨o,es,ep,kp _ o (λz=>(hf _ z).2.1 rfl) ho,r⟩
 ·refine(I.hok b u e).uB (λc v hc q=>kp c v ?_ q) (λ_ q=>q) (λ_ _ q=>q) λ_ _ _ q=>q
  rcases hc with z | z
  ·rw[z];exact Tz b u e
  ·exact Tz c _ z
end
def K1.at{h h':Heap}{c:Bool}{it l:Addr}{k:Nat}(x:K1 h c it l k)(h1:∀o,h.get? it=some o->h'.get? it=some o):K1 h' c it l k:=by
 cases c with
 | true =>
  obtain⟨o,e,r⟩:=(x);exact(⟨o,h1 o e,r⟩)
 | false =>
  obtain⟨o,e,r⟩:=(x);exact(⟨o,h1 o e,r⟩)
def K1.obj{h:Heap}{c:Bool}{it l:Addr}{k:Nat}(x:K1 h c it l k):∃o,h.get? it=some o/\∀v,o.data≠.cell v:=by
 unfold K1 at x;split at x
 ·obtain⟨o,e,_,d⟩:=x;exact⟨o,e,λv=>by grind⟩
 ·obtain⟨o,e,_,d⟩:=x;exact⟨o,e,λv=>by grind⟩
def GL{prog:Program}{w:World}{A:Around}{it l:Addr}{xs:Array Value}(hh:A.handled=none):Draws prog w A it [it,l] xs.size (λi x=>xs[i]?=some x) (λi h=>SI h it l i xs) where
 live:=λi h st=>by
  obtain⟨o,e,_⟩:=st.Nb;exact⟨o,e⟩
 frame:=λi h h' st k=>st.at (λo e=>k it (by simp) o e) (λo e=>k l (by simp) o e)
 item:=λi s Q E hi st hQ=>SI.next st (ie hi) λh' a b=>hQ _ h' s.toks (ie hi) a b
 done:=λs Q E st hE=>SI.stop hh st (mw (az _)) hE
set_option maxHeartbeats 2000000 in
theorem GN(l:Addr)(xs:Array Value)(c:String)(part:Obj) :
  Meets (Builtin.«enumerate.__new__» ⟨[.type "enumerate",.ref l],[]⟩) (λ_ R s=>iL s.heap l xs c/\s.heap.get? l=some part /\
   ∀h1 h2:Heap,h1=s.heap.push {cls:=.type c,data:=.fields #[.ref l,.int 0 0]}->h2=h1.push {cls:=.type "enumerate",data:=.fields #[.none,.bool false,.ref s.heap.objs.size,rawInt 0,.none,.none]}->R (.ok (.ret (.ref h1.objs.size))) {s with heap:=h2}) :=
 .of_wp λprog w A R s h=>by
  obtain⟨hp,g,d,tk,os⟩:=s;obtain⟨hl,hpt,h⟩:=h;have hL:iL (Shared.heap ⟨hp,g,d,tk,os⟩) l xs c:=hl;have u0:=sub_enumerate;rcases hl with⟨rfl,⟨o,e,hc,n,hd⟩⟩ | ⟨rfl,⟨o,e,hc,n,hd⟩⟩
  ·obtain⟨oc,od,Zr,ON⟩:=o;replace hc:oc=.type "list":=hc;replace hd:Zr=.seq xs n:=hd
   wp_walk using iX e
   refine wpAny_stack_any λst=>ah ?_
   split
   ·rename_i c' _ _ _ _ _;cases(c'==Value.type "enumerate")<;>(wp_walk using iX e,jD hL)<;>exact⟨_,rfl,h _ _ rfl rfl⟩
   ·wp_walk using iX e,jD hL
    exact⟨_,rfl,h _ _ rfl rfl⟩
  ·obtain⟨oc,od,Zr,ON⟩:=o;replace hc:oc=.type "tuple":=hc;replace hd:Zr=.seq xs n:=hd
   wp_walk using iX e
   refine wpAny_stack_any λst=>ah ?_
   split
   ·rename_i c' _ _ _ _ _;cases(c'==Value.type "enumerate")<;>(wp_walk using iX e,jD hL)<;>exact⟨_,rfl,h _ _ rfl rfl⟩
   ·wp_walk using iX e,jD hL
    exact⟨_,rfl,h _ _ rfl rfl⟩
def K3{prog:Program}{w:World}{A:Around}{E:Value->Shared->Prop}{s:Shared}{e it l:Addr}{k:Nat}{i:Int}{xs:Array Value}{old:Value}{Q:Option Value->Shared->Prop}(hh:A.handled=none)(a1:IsEnum s.heap e it i old)(st:SI s.heap it l k xs)(hx:xs[k]?=none)(hQ:∀h',Heap.ExtBut it s.heap h'->Q none {s with heap:=h'}):wpAny (model prog w) A (pyNext (.ref e)) Q E s:=by
 have ty:s.TypeIs (.ref e) "enumerate":=⟨_,a1,rfl⟩;unfold pyNext;refine ae (ja (eX ty F.slot_enumerate_next (cV F.slot_enumerate_next ty F.entry_enumerate_next (by
  show wpAny _ _ (field (.ref e) 2 >>= _) _ _ _;refine ae (cw a1 rfl rfl (ae (SI.stop hh st hx λh' y sb ⟨o,ho,hc⟩=>?_)))
  exact ae (mC ⟨o,ho,hc⟩ o6 (ah (hQ _ sb)))) (F.args_enumerate_next_1 _))))
def Ien(K:W.Frag)(c:Bool)(l:Addr):It where
 go:=λi H=>∃vs v,EJ K H c l vs/\vs[i]?=some v
 yld:=λi H x H'=>∃T v,H T=none/\x=.ref T/\H'=bM H T (.aw [.int i,v])/\∀vs,EJ K H c l vs->vs[i]?=some v
 stop:=λi H=>∃vs,EJ K H c l vs/\vs.length<=i
def eTn(e it l:Nat)(c:Bool)(i:Nat)(h:Heap):Prop:=(∃old,IsEnum h e it i old)/\K1 h c it l i
def K4{P:Program}{w:World}{K:W.Frag}{elts:List Expr}{x1:Nat}{OJ:Pos}{e it l:Nat}{c:Bool}(ord:it<e)(o1:l<it) :
  Turn P w K (.Tuple elts x1 OJ) (Ien K c l) [e,it] e (eTn e it l c) where
 mem:=bQ
 obj:=by
  rintro i h ⟨⟨_,a1⟩,a2⟩ b hb
  simp only[aF,aQ,aU]at hb;rcases hb with rfl | rfl
  ·exact⟨_,a1,λv=>by simp⟩
  ·exact a2.obj
 keep:=(by rintro i h h' ⟨⟨old,a1⟩,a2⟩ k;exact⟨⟨old,k e (by simp) _ a1⟩,a2.at λo x=>k it (by simp) o x⟩)
 item:=by
  rintro X hP hw hK hc i af s σ H E I hf ⟨⟨old,a1⟩,a2⟩ ⟨vs,v,hv,ev⟩
  subst hP hw hK;obtain⟨aA,r1,k1⟩:=hv.get I;obtain⟨x,ex,rx⟩:=r1.get ev;have ne:e≠it:=mJ ord;have nel:e≠l:=mJ (kn o1 ord);have Nc:X.A.in1.handled=none:=I.ok.hd hc;refine wpAny_pyNext_enum_itemD (GL (xs:=aA.toArray) (l:=l) Nc) a1 (Nd a2 k1) (by
   have:=(b6.mp ex).1;simpa using this) ne (by simp[ne,nel]) λx' h' tk zL hO st hT PM kp=>⟨_,rfl,?_⟩
  have xe:x'=x:=by
   have e1:aA.toArray[i]?=some x:=by simpa using ex
   rw[e1]at zL;cases zL;rfl
  subst xe;refine wpAny_letOwnedTupleGo_enum hO λXy Zs sb=>?_
  have big:∀b∈[e,it],b<s.heap.objs.size:=λb hb=>by
   simp only[aF,aQ,aU]at hb;have h1:e<s.heap.objs.size:=aC a1;rcases hb with rfl | rfl<;>lia
  have eT:e≠s.heap.objs.size:=aR (big e (by simp))
  have Zt:∀b o,b∉[e,it]->s.heap.get? b=some o->Xy.get? b=some o:=λb o hb z=>by
   simp only[aF,aQ,aU,not_or]at hb;exact sb.extBut _ _ hb.1 (kp b o hb.1 hb.2 z)
  have I1:Inv X af σ H {s with heap:=Xy,toks:=tk+1}:=Inv.turns I hf Zt
  have hn:H s.heap.objs.size=none:=I.fresh;have Xz:=I.wa (H':=H) (az _) hn;have pr:Xy.get? s.heap.objs.size=some {cls:=.type "tuple",data:=.seq #[.int i tk,x']}:=sb.extBut _ _ (cx eT) hT
  have I2:=Inv.adopt (D:=s.heap.objs.size) (o:=.aw [.int i,v]) I1 hn (by
    rcases Xz.2.2.2.1 with q | q
    ·exact I.sz
    ·exact q) Xz.2.1 Xz.2.2.2.2.1 Xz.2.2.2.2.2 ⟨(by show 2<=sizeLine;decide),[.int i tk,x'],.cons ⟨tk,rfl⟩ (.cons rx .nil),⟨_,pr,rfl,0,rfl⟩⟩
  refine⟨.ref s.heap.objs.size,_,I2,rfl,⟨s.heap.objs.size,v,hn,rfl,rfl,λuN h1=>?_⟩,⟨⟨_,Zs⟩,?_⟩,λb hb=>?_⟩
  ·rw[<-EJ.inj I hv h1];exact ev
  ·have nli:l≠it:=aR o1;have q:=K2 (k':=i) st k1 λo z=>kp l o (cx nel) nli z
   exact q.at λo z=>sb.extBut _ _ (cx ne) z
  ·rw[aH (aR (big b hb))];exact(hf b hb).1
 done:=by
  rintro X hP hw hK hc i af s σ H E I hf ⟨⟨old,a1⟩,a2⟩ ⟨vs,hv,he⟩
  subst hP hw hK;obtain⟨aA,r1,k1⟩:=hv.get I;have hz:aA.toArray[i]?=none:=mw (by rw[cU,<-r1.length];exact he)
  refine K3 (I.ok.hd hc) a1 (Nd a2 k1) hz λh' sb=>⟨rfl,?_⟩
  exact Inv.turns (t':=s.toks) I hf λb o hb z=>by
   simp only[aF,aQ,aU,not_or]at hb;exact sb b o hb.2 z
 self:=(by rintro A i s Q E ⟨⟨_,a1⟩,_⟩ q;exact wpAny_pyIter_enum a1 q)
def Nf:Expr->Bool
 | .Tuple _ _ _=>true
 | _=>false
def p6:PV->Option (List PV)
 | .nd .aw ps=>some ps
 | .nd .lst ps=>some ps
 | _=>none
def jk(p q:PV):PV:=.aw [p,q]
def p7{K:W.Frag}(h:p6 p=some ps)(b:bu K F p x):∃c l vs,x=.ref l/\EJ K F.F c l vs/\ax K F ps vs/\∀F',cg F.F F'->EJ K F' c l vs:=by
 unfold p6 at h;split at h
 ·cases h;obtain⟨l,vs,rfl,h1,h2⟩:=bH.mp b;exact⟨false,l,vs,rfl,h1,h2,λF' s=>aK s h1⟩
 ·cases h;obtain⟨l,vs,rfl,h1,h2⟩:=dJ.mp b;exact⟨true,l,vs,rfl,h1.sq,h2,λF' s=>(pO s h1).sq⟩
 ·cases h
def sx{K:W.Frag}(hs:uF K F.F a vs)(hb:ax K F ps vs):Walk K F ps (Xc K a):=by
 intro aa ab F' st σ H R s i;have hq:=(s.s.trans R.sub).seq hs;refine⟨λp e=>?_,λe=>?_⟩
 ·obtain⟨v,e1,b1⟩:=hb.get e;refine⟨⟨vs,v,hq,e1⟩,λx H' ⟨hH,y⟩=>?_⟩
  subst hH;have:=y vs hq;rw[e1]at this;cases this;exact⟨F',R,Gr.refl _,b1.mono s⟩
 ·refine⟨vs,hq,?_⟩;rw[<-hb.length];exact j2.mp e
def GO{K:W.Frag}(hs:fX K F.F a vs)(hb:ax K F ps vs):Walk K F ps (Yx K a):=by
 intro aa ab F' st σ H R s i;have hq:=aK (s.s.trans R.sub) hs;refine⟨λp e=>?_,λe=>?_⟩
 ·obtain⟨v,e1,b1⟩:=hb.get e;refine⟨⟨vs,v,hq,e1⟩,λx H' ⟨hH,y⟩=>?_⟩
  subst hH;have:=y vs hq;rw[e1]at this;cases this;exact⟨F',R,Gr.refl _,b1.mono s⟩
 ·refine⟨vs,hq,?_⟩;rw[<-hb.length];exact j2.mp e
def mZ(lo:Int)(n:Nat):List PV:=(List.range n).map fun(i:Nat)=>.int (lo+i)
def p8{K:W.Frag}(lo:Int)(n:Nat):Walk K F (mZ lo n) (TV lo n):=by
 intro aa ab F' st σ H R s i;unfold mZ;refine⟨λp e=>?_,λe=>?_⟩
 ·rw[bK]at e;by_cases hi:i<n
  ·rw[oG hi]at e;cases e;exact⟨hi,λx H' ⟨hH,y⟩=>by subst hH y;exact⟨F',R,Gr.refl _,aD.mpr rfl⟩⟩
  ·rw[gz (by simpa using hi)]at e;cases e
 ·rw[bK]at e;by_cases hi:i<n
  ·rw[oG hi]at e;cases e
  ·exact oS hi
def jl:Nat->List PV->List PV
 | _,[]=>[]
 | k,p::r=>jk (.int k) p::jl (k+1) r
theorem jE:∀(ps:List PV) (k i:Nat),(jl k ps)[i]?=ps[i]?.map λp=>jk (.int ((k+i:Nat):Int)) p
 | [],k,i=>by simp[jl]
 | p::r,k,0=>by simp[jl]
 | p::r,k,i+1=>by
  simp only[jl,List.getElem?_cons_succ];rw[jE r (k+1) i,show k+1+i=k+(i+1) by lia]
def K8{K:W.Frag}(k1:∀F',cg F.F F'->EJ K F' c l vs)(b1:ax K F ps vs):Walk K F (jl 0 ps) (Ien K c l):=by
 intro aa ab F' st σ H R s i;have h1:=k1 H (s.s.trans R.sub);refine⟨λp e=>?_,λe=>?_⟩
 ·rw[jE]at e;cases z1:ps[i]? with
  | none=>rw[z1]at e;cases e
  | some p1 =>
   rw[z1]at e;cases e;obtain⟨v,e1,XA⟩:=b1.get z1;refine⟨⟨vs,v,h1,e1⟩,λx H' z9=>?_⟩
   obtain⟨T,v',hn,hx,hH,Dc⟩:=z9;have g1:=Dc vs h1;rw[e1]at g1;cases g1;subst hx hH;obtain⟨R2,s2⟩:=R.laid (.aw [.int i,v]) hn;refine⟨_,R2,s2,bH.mpr ⟨T,[.int i,v],rfl,fX.of aq,.cons ?_ (.cons (XA.mono (s.trans s2)) .nil)⟩⟩;rw[kq];exact aD.mpr rfl
 ·refine⟨vs,h1,?_⟩;rw[jE]at e;cases z1:ps[i]? with
  | none =>
   have:=j2.mp z1;rw[b1.length]at this;exact this
  | some p1=>rw[z1]at e;cases e
section
variable {X:Cx} {aa:Hp} {ab:Fz} {a b e tg:Expr} {fa fb:Gx PV} {ts:Gx (List PV)} {pos p:Pos}
def Dw(i j:Int):Bool:=decide (-(2^62)<=i/\i<2^62 /\ -(2^62)<=j/\j<2^62)
def wU:List PV->Option (List PV)
 | [.int j]=>if Dw 0 j=true then some (mZ 0 j.toNat)else none
 | _=>none
def PU:List PV->Option (List PV)
 | [.int i,.int j]=>if Dw i j=true then some (mZ i (j-i).toNat)else none
 | _=>none
def u3(g:List PV->Option (List PV))(ts:Gx (List PV)):Gx (List PV):=bnd ts λps=>gI (g ps)
def GP(hg:Gl X "range")(hm:X.mg "range"=none)(ha:PA X [a] (tA X aa ab ts))(hs:starEach [a] X.env=[(false,eval a X.env)]:=by rfl):PI X tg (.Call (.Name "range" p) [a] [] pos) (tI X aa ab (u3 wU ts)) :=
 (CV hg hm ha hs).imp λσ H Rr ⟨F,st,R,h⟩=>⟨F,st,R,h.bnd λps vs F1 aM H1 R1 g1 b1 h1=>by
  obtain⟨o,e,z⟩:=h1.gI;unfold wU at e;split at e
  ·obtain⟨hr,rfl⟩:=aB e;obtain⟨v,rfl,b⟩:=cG b1;obtain⟨_,_,h3,h4⟩:=dv hr;rw[aD.mp b];exact⟨_,rfl,h3,h4,z _ H1 F1 R1 (Gr.refl _) (p8 0 _)⟩
  ·cases e⟩
def GQ(hg:Gl X "range")(hm:X.mg "range"=none)(ha:PA X [a,b] (tA X aa ab ts))(hs:starEach [a,b] X.env=[(false,eval a X.env),(false,eval b X.env)])(CY:starEach [b] X.env=[(false,eval b X.env)]):PI X tg (.Call (.Name "range" p) [a,b] [] pos) (tI X aa ab (u3 PU ts)) :=
 (CW hg hm ha hs CY).imp λσ H Rr ⟨F,st,R,h⟩=>⟨F,st,R,h.bnd λps vs F1 aM H1 R1 g1 b1 h1=>by
  obtain⟨o,e,z⟩:=h1.gI;unfold PU at e;split at e
  ·obtain⟨hr,rfl⟩:=aB e;obtain⟨v,w,rfl,b,c⟩:=jB b1;have hr:=dv hr;rw[aD.mp b,aD.mp c];exact⟨_,_,rfl,hr,z _ H1 F1 R1 (Gr.refl _) (p8 _ _)⟩
  ·cases e⟩
def BC(fa:Gx PV):Gx (List PV):=bnd fa λp=>gI ((p6 p).map λps=>jl 0 ps)
def Zu(ht:Nf tg=true)(hg:Gl X "enumerate")(hm:X.mg "enumerate"=none)(ha:PE X a (tE X aa ab fa))(hs:starEach [a] X.env=[(false,eval a X.env)]) :
  PI X tg (.Call (.Name "enumerate" p) [a] [] pos) (tI X aa ab (BC fa)):=by
 rintro af s σ H R I ⟨F,st,Rp,h⟩
 have hA:=gp ha pF hs pos af s σ H (λvs H'=>∃F' bI x pa ps,vs=[x]/\Rep X.K aa ab F' bI σ H'/\bu X.K F' pa x/\p6 pa=some ps/\∀b U3 Gq,Rep X.K aa ab Gq bI σ U3->Gr F' Gq->Walk X.K Gq (jl 0 ps) b->R b U3) I
  ⟨F,st,Rp,h.bnd λp v F1 aM H1 R1 g1 b1 h1=>by
   obtain⟨o,e,z⟩:=h1.gI;obtain⟨ps,e1,rfl⟩:=aV e;exact⟨F1,aM,v,p,ps,rfl,R1,b1,e1,z⟩⟩
 refine Call_ (ld_blt I hg hm boot_enumerate (eW (thn hA λus s1 z9=>?_) hs rfl))
 obtain⟨vs,H1,I1,r1,F1,aM,x,pa,ps,ev,R1,b1,f3,q⟩:=z9;subst ev;obtain⟨u1,rfl,U4⟩:=iJ r1;obtain⟨c1,l1,vs1,rfl,q1,XB,k1⟩:=p7 f3 b1;cases U4;obtain⟨aA,v1,SN⟩:=(k1 H1 R1.sub).get I1;obtain⟨part,Ng⟩:∃o,s1.heap.get? l1=some o:=by
  rcases SN with⟨_,⟨o,e,_⟩⟩ | ⟨_,⟨o,e,_⟩⟩
  ·grind
  ·grind
 have Zv:=aC Ng;refine callType_new PySem.F.called_enumerate (by decide) (PySem.F.typeCall_enumerate_1 _) (PySem.F.newCall_enumerate_1 _) (λobj=>PySem.F.args_object_init_2 obj _) PySem.F.entry_enumerate_new (GN l1 aA.toArray (p0 c1) part) ⟨SN,Ng,λh1 h2 e1 e2=>?_⟩
 have z1:h1.objs.size=s1.heap.objs.size+1:=by simp_all
 have p1:∀b o,s1.heap.get? b=some o->h1.get? b=some o:=λb o e=>by rw[e1];exact aG _ e
 have p2:∀b o,h1.get? b=some o->h2.get? b=some o:=λb o e=>by rw[e2];exact aG _ e
 have g2:IsEnum h2 h1.objs.size s1.heap.objs.size 0 .none:=by rw[e2];exact bc _ rfl
 have g1:=p2 _ _ (by rw[e1];exact bc _ rfl)
 have I2:Inv X af σ H1 {s1 with heap:=h2,toks:=s1.toks}:=I1.kept λb o e=>p2 _ _ (p1 _ _ e)
 have mP:∀b,s1.heap.objs.size<=b->H1 b=none:=λb hb=>I1.hok.fresh hb
 refine⟨⟨_,g2,rfl⟩,?_⟩;show wpAny _ _ (pyIter (.ref h1.objs.size)) _ _ {s1 with heap:=h2,toks:=s1.toks}
 refine wpAny_pyIter_enum g2 ?_;cases tg with
 | Tuple elts x1 OJ =>
  refine⟨h1.objs.size,[h1.objs.size,s1.heap.objs.size],_,_,H1,rfl,I2,K4 (by lia) Zv,⟨⟨_,g2⟩,(by
   cases c1 with
   | true=>exact(⟨_,g1,rfl,rfl⟩)
   | false=>exact(⟨_,g1,rfl,rfl⟩))⟩,λb hb=>?_,q _ H1 F1 R1 (Gr.refl _) (K8 k1 XB)⟩
  simp only[aF,aQ,aU]at hb;have O2:s1.heap.objs.size<=b:=by rcases hb with rfl | rfl<;>lia
  exact I1.wa O2 (mP b O2)
 | _=>cases ht
end
inductive BD where
 | sq (ps:List PV) | cl (n:Nat)
def U5(K:W.Frag)(F:Fz):BD->It->Prop
 | .sq ps,J=>Walk K F ps J
 | .cl n,J=>∃a,F.μ[n]?=some a/\J=Xc K a
abbrev Dx(X:Cx)(aa:Hp)(ab:Fz)(f:Gx BD):TI:=tX X aa ab (U5 X.K) f
def Jm(f:Gx (List PV)):Gx BD:=bnd f λps=>aP (.sq ps)
def Nh(n:Nat)(h:List ak)(i:Nat):Option (Option PV):=match cm h (.ref n)with
 | some (.lst,ps)=>some ps[i]?
 | _=>none
def K9(h:List ak)(p:PV):Option BD:=match p6 p with
 | some ps=>some (.sq ps)
 | none=>match p with
  | .ref n=>match cm h (.ref n)with
   | some (.lst,_)=>some (.cl n)
   | _=>none
  | _=>none
def lE(fe:Gx PV):Gx BD:=bnd fe λp=>hp λh=>K9 h p
def GR(g:Tg)(body:Gx dn)(n:Nat):Nat->Nat->Gx dn
 | 0,_=>λ_=>none
 | f+1,i=>λst=>match Nh n st.h i with
  | some (some p)=>bnd (stp (g p)) (λ_=>bnd body (wH (GR g body n f (i+1)))) st
  | some none=>some (.ok .nx,st)
  | none=>none
def Zw(g:Tg)(body:Gx dn):BD->Gx dn
 | .sq ps=>dD g body ps
 | .cl n=>GR g body n ib 0
def wV(fi:Gx BD)(g:Tg)(body:Gx dn):Gx dn:=bnd fi (Zw g body)
section
variable {X:Cx} {aa:Hp} {ab:Fz} {e tg iter:Expr} {fa:Gx PV} {fb:Gx dn} {body:List Stmt} {pos:Pos}
def La(h:PI X tg e (tI X aa ab f)):PI X tg e (Dx X aa ab (Jm f)):=(by rintro af s σ H R I ⟨F,st,Rp,hh⟩;exact h af s σ H R I ⟨F,st,Rp,hh.bnd λps J F1 aM H1 R1 g1 b1 h1=>h1.aP J H1 F1 R1 (Gr.refl _) b1⟩)
def GS{K:W.Frag}{st:bJ}(R:Rep K aa ab F st σ H)(ha:F.μ[n]?=some a)(e:Nh n st.h i=some o):∃ps vs,o=ps[i]?/\uF K H a vs/\ax K F ps vs:=by
 unfold Nh at e;split at e
 ·rename_i ps z;cases e;obtain⟨a',vs,e1,h1,h2⟩:=R.at z (cz.mpr ⟨a,ha,rfl⟩);cases e1;exact⟨ps,vs,rfl,iu.sq h1,h2⟩
 ·cases e
def GU(he:PE X e (tE X aa ab fa)):PI X tg e (Dx X aa ab (lE fa)):=by
 rintro af s σ H R I ⟨F,st,Rp,h⟩
 obtain⟨r,e1,e2⟩:=At.bnd h
 match r,e2 with
 | (.ex m C,aM),e2 =>
  exact FK he af s σ H R I ⟨F,st,Rp,_,e1,e2⟩
 | (.ok p,aM),e2 =>
  obtain⟨ps,e3,q⟩:=At.hp e2;unfold K9 at e3;split at e3
  ·rename_i qs e4;cases e3;unfold p6 at e4;split at e4
   ·cases e4;refine FK he af s σ H R I ⟨F,st,Rp,_,e1,λv H1 F1 R1 s1 b1=>?_⟩
    obtain⟨a,vs,rfl,hs,hb⟩:=bH.mp b1;exact⟨a,rfl,⟨vs,aK R1.sub hs⟩,q _ H1 F1 R1 s1 (GO hs hb)⟩
   ·cases e4;refine uG he af s σ H R I ⟨F,st,Rp,_,e1,λv H1 F1 R1 s1 b1=>?_⟩
    obtain⟨a,vs,rfl,hs,hb⟩:=dJ.mp b1;exact⟨a,rfl,⟨vs,(pO R1.sub hs).sq⟩,q _ H1 F1 R1 s1 (sx hs.sq hb)⟩
   ·cases e4
  ·split at e3
   ·rename_i n _;split at e3
    ·rename_i qs z;cases e3;refine uG he af s σ H R I ⟨F,st,Rp,_,e1,λv H1 F1 R1 s1 b1=>?_⟩
     obtain⟨a,vs,rfl,hs,hb⟩:=R1.at z b1;obtain⟨a',ha,e5⟩:=cz.mp b1;cases e5;exact⟨a,rfl,⟨vs,iu.sq hs⟩,q _ H1 F1 R1 s1 ⟨a,ha,rfl⟩⟩
    ·cases e3
   ·cases e3
def PX{fi:Gx BD}(hp:PassesOwn (model X.prog X.w) X.A X.env X.xe)(hc:X.calm=true)(hi:PI X tg iter (Dx X aa ab fi))(hg:PG X tg (tG X.K aa ab g))(hb:PSs X body (tS X aa ab fb))
  (hs:∀x,foldedSetIterable iter X.env x=pure x:=by intro _;rfl):PS X (.For tg iter body [] pos) (tS X aa ab (wV fi g fb)):=(uH hp hc hi hg hb hs).imp <| by
 rintro D σ H ⟨F,st,R,h⟩
 refine⟨F,st,R,h.bnd λsr J F1 aM H1 R1 g1 wk h1=>?_⟩
 cases sr with
 | sq ps =>
  refine⟨λi m bj H'=>m=ps.length-i/\i<=ps.length/\∃F' bI,Rep X.K aa ab F' bI bj H'/\Gr F1 F'/\Sa X aa ab F' D bI (dD g fb (ps.drop i)),⟨ps.length,by simp,eL _,F1,aM,R1,Gr.refl _,h1⟩,?_⟩
  rintro i m bj H' ⟨rfl,hi,F',bI,R',s',hr⟩
  obtain⟨wg,PY⟩:=wk aa ab F' bI bj H' R' s' i;by_cases dH:i<ps.length
  ·obtain⟨go,wy⟩:=wg ps[i] (b8 dH);rw[tN dH]at hr;refine .inr ⟨go,λqR H2=>∃F2 dG,Rep X.K aa ab F2 dG qR H2/\Gr F1 F2/\Sa X aa ab F2 D dG (dD g fb (ps.drop (i+1))),λqR H2 n2=>⟨ps.length-(i+1),by lia,rfl,dH,n2⟩,λx H2 y=>?_⟩
   obtain⟨F2,R2,s2,b2⟩:=wy x H2 y;obtain⟨r,e1,e2⟩:=At.bnd hr;obtain⟨GV,e3,e4⟩:=aV e1;subst e4;refine⟨F2,bI,ps[i],GV,R2,b2,e3,λmn H3 F3 R3 s3=>⟨F3,GV,R3,?_⟩⟩
   exact Sa.mR _ (λF4 Bn Jk H4 R4 g4 z=>⟨F4,Bn,R4,(s'.trans (s2.trans s3)).trans g4,z⟩) (Sa.mono (e2) (s2.trans s3))
  ·have e:i=ps.length:=by lia
   subst e;rw[ub]at hr;exact .inl ⟨PY (gz (az _)),At.aP hr F' bj H' R' (Gr.refl _)⟩
 | cl n =>
  obtain⟨a,ha,rfl⟩:=wk;refine⟨λi m bj H'=>∃F' bI,Rep X.K aa ab F' bI bj H'/\Gr F1 F'/\Sa X aa ab F' D bI (GR g fb n m i),⟨ib,F1,aM,R1,Gr.refl _,h1⟩,?_⟩
  rintro i m bj H' ⟨F',bI,R',s',hr⟩
  cases m with
  | zero=>obtain⟨r,e,_⟩:=hr;cases e
  | succ m =>
   obtain⟨r,e1,e2⟩:=hr;have e1:(match Nh n bI.h i with
    | some (some p)=>bnd (stp (g p)) (λ_=>bnd fb (wH (GR g fb n m (i+1)))) bI
    | some none=>some (.ok .nx,bI)
    | none=>none)=some r:=e1
   cases z:Nh n bI.h i with
   | none=>rw[z]at e1;cases e1
   | some o =>
    obtain⟨ps,vs,ho,hq,Bp⟩:=GS R' (s'.m n a ha) z;cases o with
    | none =>
     rw[z]at e1;cases e1;refine .inl ⟨⟨vs,hq,?_⟩,e2 F' bj H' R' (Gr.refl _)⟩;rw[<-Bp.length];exact j2.mp ho.symm
    | some p =>
     rw[z]at e1;obtain⟨v,hv,bv⟩:=Bp.get ho.symm;refine .inr ⟨⟨vs,v,hq,hv⟩,λqR H2=>∃F2 dG,Rep X.K aa ab F2 dG qR H2/\Gr F1 F2/\Sa X aa ab F2 D dG (GR g fb n m (i+1)),λqR H2 n2=>⟨m,mE m,n2⟩,λx H2 ⟨hH,y⟩=>?_⟩
     subst hH;have:=y vs hq;rw[hv]at this;cases this;obtain⟨r',q1,q2⟩:=At.bnd (⟨r,e1,e2⟩);obtain⟨GV,e3,e4⟩:=aV q1;subst e4;refine⟨F',bI,p,GV,R',bv,e3,λmn H3 F3 R3 s3=>⟨F3,GV,R3,?_⟩⟩
     exact Sa.mR _ (λF4 Bn Jk H4 R4 g4 z=>⟨F4,Bn,R4,(s'.trans s3).trans g4,z⟩) (Sa.mono (q2) s3)
end
def BE(bd:PV->List ak->Option (Option PV×List ak))(n:Nat):Nat->Nat->List ak->Option (List PV×List ak)
 | 0,_,_=>none
 | f+1,i,h=>match Nh n h i with
  | some (some p)=>(bd p h).bind λr=>(BE bd n f (i+1) r.2).map λs=>(r.1.toList++s.1,s.2)
  | some none=>some ([],h)
  | none=>none
def U6(bd:PV->List ak->Option (Option PV×List ak))(h:List ak):BD->Option (List PV×List ak)
 | .sq ps=>if ps.length<=ib then lD bd ps h else none
 | .cl n=>BE bd n ib 0 h
def Ni(c:Bool)(ρ:List (Option PV))(r:List PV×List ak):Option (Rs PV×bJ):=if c=true then lr ⟨.lst,r.1⟩ ⟨ρ,r.2⟩else some (.ok (.lst r.1),⟨ρ,r.2⟩)
def iM(c:Bool)(link:List (Option Nat))(fi:Gx BD)(bd:Bd):Gx PV:=bnd fi λs st=>(U6 (bd (cf link st.ρ)) st.h s).bind (Ni c st.ρ)
section
variable {X:Cx} {aa:Hp} {ab:Fz} {N:List Str} {link:List (Option Nat)} {scope:Scope} {tg iter elt c:Expr} {pos:Pos} {fi:Gx BD} {g:Tg} {fe:Gx PV} {ft:Gx Bool} {L:List Nat} {cl:Bool}
def wW{aM:bJ}{Q:VK}(R':jA X.K aa ab F' hf H')(L1:Lc X.K F1 aM.ρ σ)(g':Gr F1 F')(Bp:ax X.K F' done acc)(hn:H' D=none)(e4:Ni cl aM.ρ (done,hf)=some r)(e2:Gj X aa ab F1 (λa bI=>∀b H' F',Rep X.K aa ab F' bI σ H'->Gr F1 F'->bu X.K F' a b->Q b H') r):Q (.ref D) (bM H' D (.lst acc)):=by
 have Ro:Rep X.K aa ab F' ⟨aM.ρ,hf⟩ σ H':=⟨R',L1.mono g'⟩;cases cl with
 | true =>
  have e4:=e4;exact Tx.lr (Tx.mono ⟨r,e4,e2⟩ g' λ_ _ z=>z) Ro hn aq Bp
 | false =>
  have e4:=e4;cases e4;obtain⟨R2,s2⟩:=Ro.laid (.lst acc) hn;exact e2 _ _ _ R2 (g'.trans s2) (dJ.mpr ⟨D,acc,rfl,iu.of aq,Bp.mono s2⟩)
def sy{Q:VK}
  (hb:∀(F2:Fz) (ρ:List (Option PV)) (p:PV) (h h':List ak) (o:Option PV) (x:V) (bj:St) (H2:Hp) (Q':Option V->St->Hp->Prop),bd (cf link ρ) p h=some (o,h')->Rep X.K aa ab F2 ⟨cf link ρ,h⟩ bj H2->bu X.K F2 p x ->
   (∀o' mn H3 F3,Rep X.K aa ab F3 ⟨cf link ρ,h'⟩ mn H3->Gr F2 F3->ax X.K F3 o.toList (Option.toList o')->Q' o' mn H3)->tb x bj H2 Q')
  (h:tE X aa ab (iM cl link fi bd) σ H Q):su link (Dx X aa ab fi) tb σ H Q:=by
 obtain⟨F,st,R,h⟩:=h;refine⟨F,st,R,h.bnd λsr J F1 aM H1 R1 g1 wk h1=>?_⟩
 obtain⟨r,e1,e2⟩:=h1;obtain⟨⟨rs,hf⟩,e3,e4⟩:=aI e1;cases sr with
 | sq ps =>
  obtain⟨dY,e3⟩:=bO e3;refine⟨λi m acc bj H'=>m=ps.length-i/\i<=ps.length/\acc.length<=i/\∃F' h' done rest,Rep X.K aa ab F' ⟨cf link aM.ρ,h'⟩ bj H'/\Gr F1 F'/\lD (bd (cf link aM.ρ)) (ps.drop i) h'=some (rest,hf)/\done++rest=rs/\ax X.K F' done acc,
   ⟨ps.length,rfl,eL _,az _,F1,aM.h,[],rs,⟨R1.c,R1.l.fL link⟩,Gr.refl _,e3,rfl,.nil⟩,?_⟩
  rintro i m acc bj H' ⟨rfl,hi,ha,F',h',done,rest,R',g',hr,hd,Bp⟩
  obtain⟨wg,PY⟩:=wk aa ab F' _ bj H' R' g' i;by_cases dH:i<ps.length
  ·rw[tN dH]at hr;obtain⟨⟨o,h2⟩,e5,e6⟩:=aI hr;obtain⟨⟨r2,h3⟩,e7,e8⟩:=aV e6;cases e8;obtain⟨go,wy⟩:=wg ps[i] (b8 dH);refine .inr ⟨go,tV (bh ha hi) (tV dY (by decide)),λx H2 y=>?_⟩
   obtain⟨F2,R2,s2,b2⟩:=wy x H2 y;refine hb F2 aM.ρ ps[i] h' h2 o x bj H2 _ e5 R2 b2 λo' mn H3 F3 R3 s3 b3=>⟨ps.length-(i+1),by lia,rfl,dH,?_,F3,h2,done++o.toList,r2,R3,g'.trans (s2.trans s3),e7,by rw[<-hd,oP],(Bp.mono (s2.trans s3)).append b3⟩
   rw[cq];cases o'<;>simp <;> lia
  ·have e:i=ps.length:=by lia
   subst e;rw[ub]at hr;cases hr;rw[fg]at hd;subst hd;exact .inl ⟨PY (gz (az _)),bh ha (dC dY),λD hn=>wW R'.c R1.l g' Bp hn e4 e2⟩
 | cl n =>
  obtain⟨a,hna,rfl⟩:=wk;refine⟨λi m acc bj H'=>i+m=ib/\acc.length<=i/\∃F' h' done rest,Rep X.K aa ab F' ⟨cf link aM.ρ,h'⟩ bj H'/\Gr F1 F'/\BE (bd (cf link aM.ρ)) n m i h'=some (rest,hf)/\done++rest=rs/\ax X.K F' done acc,
   ⟨ib,kq _,az _,F1,aM.h,[],rs,⟨R1.c,R1.l.fL link⟩,Gr.refl _,e3,rfl,.nil⟩,?_⟩
  rintro i m acc bj H' ⟨hm,ha,F',h',done,rest,R',g',hr,hd,Bp⟩
  cases m with
  | zero=>cases hr
  | succ m =>
   have hr:(match Nh n h' i with
    | some (some p)=>(bd (cf link aM.ρ) p h').bind λr=>(BE (bd (cf link aM.ρ)) n m (i+1) r.2).map λs=>(r.1.toList++s.1,s.2)
    | some none=>some ([],h')
    | none=>none)=some (rest,hf):=hr
   have zI:i<=ib:=by lia
   cases z:Nh n h' i with
   | none=>rw[z]at hr;cases hr
   | some o =>
    obtain⟨ps,vs,ho,hq,hbq⟩:=GS R' (g'.m n a hna) z;rw[z]at hr;cases o with
    | none =>
     cases hr;rw[fg]at hd;subst hd;refine .inl ⟨⟨vs,hq,?_⟩,bh ha (dC zI),λD hn=>wW R'.c R1.l g' Bp hn e4 e2⟩
     rw[<-hbq.length];exact j2.mp ho.symm
    | some p =>
     obtain⟨⟨o,h2⟩,e5,e6⟩:=aI hr;obtain⟨⟨r2,h3⟩,e7,e8⟩:=aV e6;cases e8;obtain⟨v,hv,bv⟩:=hbq.get ho.symm;refine .inr ⟨⟨vs,v,hq,hv⟩,tV (bh ha zI) (by decide),λx H2 ⟨hH,y⟩=>?_⟩
     subst hH;have:=y vs hq;rw[hv]at this;cases this;refine hb F' aM.ρ p h' h2 o v bj H2 _ e5 R' bv λo' mn H3 F3 R3 s3 b3=>⟨m,mE m,by lia,?_,F3,h2,done++o.toList,r2,R3,g'.trans s3,e7,by rw[<-hd,oP],(Bp.mono s3).append b3⟩
     rw[cq];cases o'<;>simp <;> lia
def GW(hg:KG L g)(hL:∀i∈L,link[i]?=some none)(h:tE X aa ab (iM cl link fi (Dv g fe)) σ H Q):su link (Dx X aa ab fi) (tb1 X aa ab g fe) σ H Q :=
 sy (λF2 ρ p h h' o x bj H2 Q' e R2 b2 k=>by
  obtain⟨aM,e1,e⟩:=aI e;obtain⟨r,e2,e⟩:=aI e;obtain⟨⟨a,hh⟩,e3,e4⟩:=aV e;cases e4;obtain⟨Jh,rfl,rfl⟩:=wR e3;obtain⟨l1,k1⟩:=hg _ _ _ e1;refine⟨F2,_,p,aM,R2,b2,e1,λmn H3 F3 R3 s3 Y hY=>⟨F3,aM,by grind,_,e2,λv H4 F4 R4 s4 b4=>?_⟩⟩
  rw[hY]at R4 b4;exact k (some v) mn H4 F4 ⟨R4.c,(R3.l.mono s4).back (l1.symm.trans R3.l.len) rfl k1 hL⟩ (s3.trans s4) (.cons b4 .nil)) h
def GX(hg:KG L g)(hL:∀i∈L,link[i]?=some none)(h:tE X aa ab (iM cl link fi (rh g ft fe)) σ H Q):su link (Dx X aa ab fi) (tb2 X aa ab g ft fe) σ H Q :=
 sy (λF2 ρ p h h' o x bj H2 Q' e R2 b2 k=>by
  obtain⟨aM,e1,e⟩:=aI e;obtain⟨r,e2,e⟩:=aI e;obtain⟨l1,k1⟩:=hg _ _ _ e1;refine⟨F2,_,p,aM,R2,b2,e1,λmn H3 F3 R3 s3 Y hY=>⟨F3,aM,by grind,r,e2,?_⟩⟩
  match r,e with
  | (.ok b,dG),e =>
   intro b' H4 F4 R4 s4 eb;cases eb;cases b with
   | true =>
    have e:=e;obtain⟨r,e5,e⟩:=aI e;obtain⟨⟨a,hh⟩,e6,e7⟩:=aV e;cases e7;obtain⟨Jh,rfl,rfl⟩:=wR e6;rw[if_pos rfl];refine⟨F4,dG,R4,_,e5,λv H5 F5 R5 s5 b5=>?_⟩
    rw[hY]at R5 b5;exact k (some v) mn H5 F5 ⟨R5.c,(R3.l.mono (s4.trans s5)).back (l1.symm.trans R3.l.len) rfl k1 hL⟩ (s3.trans (s4.trans s5)) (.cons b5 .nil)
   | false =>
    have e:=e;cases e;rw[hY]at R4;exact k none mn H4 F4 ⟨R4.c,(R3.l.mono s4).back (l1.symm.trans R3.l.len) rfl k1 hL⟩ (s3.trans s4) .nil) h
end
end L2.U
namespace PySem
open PyProof.Rows
def Raw(h:Heap)(a:Addr)(es:Array DictEntry)(ep:Nat):Prop:=∃o,h.get? a=some o/\o.ExactDict/\o.data=.dict es ep
section
variable {prog:Program} {w:World} {A:Around} {E:Value->Shared->Prop} {s:Shared} {it d:Addr} {i ep:Nat} {es:Array DictEntry}
def wX{Q:Value->Shared->Prop}(hd:(d==sysModules)=false)(hr:Raw s.heap d es ep)
  (q:Q (.ref s.heap.objs.size) {s with heap:=s.heap.push {cls:=.type "dict_keyiterator",data:=.fields #[.ref d,.int 0 0,.int es.size 0,.int ep 0]}}):wpAny (model prog w) A (pyIter (.ref d)) Q E s:=by
 obtain⟨o,ho,hc,hx⟩:=hr;have hT:s.TypeIs (.ref d) "dict":=⟨o,ho,hc.1⟩;refine yR hT F.slot_dict_iter (cV F.slot_dict_iter hT F.entry_dict_iter ?_ (F.args_dict_iter_1 _));unfold Builtin.«dict.__iter__» Builtin.Dict.dictSlotNone Builtin.Dict.showsAll;refine ae (ae (yI hT (show wpAny _ _ (pure (Value.ref d)) _ _ s from ah ?_)))
 show wpAny _ _ ((if(d==sysModules)=true then _ else _) >>= _) _ _ s
 rw[if_neg (by rw[hd];exact dg)]
 refine ae (ah (ae (oO ho hx (ae (wpAny_dictEpoch ho hx ?_)))));exact ae (eF (ah ⟨_,rfl,"dict_keyiterator",_,⟨_,bc _ rfl,rfl⟩,yt.lookup,q⟩))
def lF{Q:Option Value->Shared->Prop}(hh:A.handled=none)(nA:s.heap.IsKeyIter it d i es.size ep)(hr:Raw s.heap d es ep)
  (h1:∀e,es[i]?=some e->∀h',h'.IsKeyIter it d (i+1) es.size ep->Heap.SameBut it s.heap h'->Q (some e.key) {s with heap:=h'})
  (h2:es[i]?=none->∀h',Heap.ExtBut it s.heap h'->Q none {s with heap:=h'}):wpAny (model prog w) A (pyNext (.ref it)) Q E s:=by
 obtain⟨o,ho,hc,hx⟩:=id nA;obtain⟨u,hu,_,hy⟩:=hr;have hT:=nA.typeIs;unfold pyNext;refine ae (ja (eX (name:=Str.ofString "__next__") hT yt (cV yt hT F.entry_dict_keyiterator_next ?_ (F.args_dict_keyiterator_next_1 _))));refine ae (ah (ae (ae ?_)))
 first | refine ae (yr hT (ah ?_)) | refine ae (yA hT (ah ?_))
 refine ae (wpAny_fieldsOf ho hx ?_);simp only[show Builtin.Dict_items.ownsTuple "dict_keyiterator"=false by decide,ez,cW]
 show wpAny _ _ (if(Value.ref d==Value.none)=true then _ else _) _ _ s
 rw[if_neg (show ¬((Value.ref d==Value.none)=true)from dg)]
 refine ae (ah (ae (oO hu hy ?_)));rw[if_neg (by simp)]
 refine ae (ah (ae (wpAny_dictEpoch hu hy ?_)));rw[if_neg (by simp)]
 refine ah ?_;cases he:es[i]? with
 | some e =>
  simp only[show ¬((i:Int)<0)from by lia,cW,eZ,he]
  refine ae ?_
  first | refine ae (yr hT (ah ?_)) | refine ae (yA hT (ah ?_))
  refine ae (wpAny_isOneOf_keyiter hT ?_);show wpAny _ _ (setField (.ref it) 1 (rawInt ((i:Int)+1)) >>= _) _ _ s;refine ae (kj ho hx (by simp) ?_)
  have k:(s.heap.update it (Obj.mapFields (·.setIfInBounds 1 (rawInt ((i:Int)+1))))).IsKeyIter it d (i+1) es.size ep :=
   ⟨_,fD _ ho (tO (i4 hx _)),(t7 ..).trans hc,by rw[i4 hx];simp[rawInt]⟩
  refine ae (cD (ae (wpAny_isOneOf_keyiter (s:={s with heap:=s.heap.update it (Obj.mapFields (·.setIfInBounds 1 (rawInt ((i:Int)+1))))}) k.typeIs ?_)))
  exact show wpAny _ _ (pure e.key) _ _ _ from ah (ah ⟨_,rfl,ah (h1 e he _ k (ij ..))⟩)
 | none =>
  simp only[show ¬((i:Int)<0)from by lia,cW,eZ,he]
  refine ae ?_
  first | refine ae (yr hT (ah ?_)) | refine ae (yA hT (ah ?_))
  show wpAny _ _ (setField (.ref it) 0 .none >>= _) _ _ s;refine ae (kj ho hx (by simp) ?_)
  show wpAny _ _ (newExc (.type "StopIteration") [] >>= _) _ _ _;refine ae ?_;simp only[newExc,newTuple];refine ae (eF ?_ (by size_fits))
  refine ae (m:=firstArgMember _ _) (fj (a:=Value.none) (by first | rfl | (simp only[firstArgMember];rfl)) (eF ?_ (by size_fits)))
  simp only[raiseNew];refine ae (wpAny_handled ?_);rw[show A.in1.handled=none from hh]
  refine ae (ah (wpAny_throw ?_));refine ae (mC (T:="StopIteration") (b:=true) ⟨_,bc _ rfl,rfl⟩ o6 ?_);exact ah (h2 he _ (((ij ..).extBut.push _).push _))
end
end PySem
namespace L2.U
open PySem PySem.Spec PyProof.Rows
abbrev EnT(P:Program)(w:World)(es:Array DictEntry)(xs:List (List da×Addr×Value)):Prop:=es.toList=xs.map (entryOfKey (tupleKind (bE P w)))
def u4(a:Addr)(es:Array DictEntry)(ep:Nat):HO:=.ext λh=>Raw h a es ep
def U7(a:Addr)(es:Array DictEntry)(ep:Nat)(xs:List (List da×Addr×Value)):It :=
 ⟨λi H=>H a=some (u4 a es ep)/\i<xs.length,λi H x H'=>H'=H/\∃z,xs[i]?=some z/\x=.ref z.2.1,λi H=>H a=some (u4 a es ep)/\xs.length<=i⟩
def GY{P:Program}{w:World}{K:W.Frag}{tg:Expr}(a it:Addr)(es:Array DictEntry)(ep:Nat)(hx:EnT P w es xs):Turn P w K tg (U7 a es ep xs) [it] it (λi h=>h.IsKeyIter it a i es.size ep) where
 mem:=by simp
 obj:=λi h st b hb=>by
  rw[cH]at hb;subst hb;obtain⟨o,e,c,d⟩:=st;exact⟨o,e,λv z=>by rw[d]at z;cases z⟩
 keep:=λi h h' st k=>st.at λo e=>k it (by simp) o e
 item:=by
  intro X hP hw hK hc i af s σ H E I hf st hg;subst hP hw hK;obtain⟨ha,hi⟩:=hg;obtain⟨f0,f1,f2,f3,f4,f5⟩:=hf it (by simp)
  have ee:es[i]?=some (entryOfKey (tupleKind (bE X.prog X.w)) xs[i]):=by rw[entry_at hx,b8 hi];rfl
  refine lF (I.ok.hd hc) st (I.hok a _ ha).1 (λe he h' nA hs=>?_) λz=>by rw[ee]at z;cases z
  cases ee.symm.trans he;have I1:Inv X af σ H {s with heap:=h'}:=I.turned (λb o hb e=>hs.extBut b o hb e) f0 f1 f3 f4 f5
  obtain⟨o,ho,zl,hd⟩:=id nA;exact⟨_,rfl,wb ho zl hd (by decide) ⟨.ref xs[i].2.1,H,I1,rfl,⟨rfl,_,b8 hi,rfl⟩,nA,λb hb=>(hf b hb).1⟩⟩
 done:=by
  intro X hP hw hK hc i af s σ H E I hf st hg;subst hP hw hK;obtain⟨ha,hi⟩:=hg;obtain⟨f0,f1,f2,f3,f4,f5⟩:=hf it (by simp)
  refine lF (I.ok.hd hc) st (I.hok a _ ha).1 (λe he h' nA hs=>?_) λ_ h' eb=>⟨rfl,I.turned (λb o hb e=>eb b o hb e) f0 f1 f3 f4 f5⟩
  rw[entry_at hx,gz hi]at he;cases he
 self:=λ_ _ _ _ _ st h=>wpAny_pyIter_keyiter st h
section
variable {X:Cx} {tg:Expr}
abbrev Zx(X:Cx)(a:Addr)(es:Array DictEntry)(xs:List (List da×Addr×Value)):Prop:=EnT X.prog X.w es xs/\(xs.map (·.1)).Nodup/\xs.length<=sizeLine/\(a==sysModules)=false
def Zy(X:Cx)(te:TE):TI:=λσ H R=>te σ H λx H1=>∃a xs,x=.ref a/\H1 a=some (.dT xs)/\∀es ep,Zx X a es xs->R (U7 a es ep xs) (bM H1 a (u4 a es ep))
def GZ{l:Expr}{tl:TE}(hl:PE X l tl):PI X tg l (Zy X tl):=by
 intro af s σ H R I h;refine thn (hl af s σ H _ I h) λv s1 z9=>?_
 obtain⟨x,H1,I1,r1,a,xs,rfl,ha,q⟩:=z9;cases r1;obtain⟨hz,hS,o,es,ep,d1,d2,d3,d4,d5⟩:=I1.hok a _ ha;have dd:Raw s1.heap a es ep:=⟨o,d1,d2,d3⟩;have I2:Inv X af σ (bM H1 a (u4 a es ep)) s1:=I1.write (e:=a) (by rw[ha];trivial) (.inl rfl) (λb u _ q=>q) ⟨o,d1⟩ ⟨dd,⟨o,d1⟩,λh1 h2 ⟨o',e1,e2⟩ k=>⟨o',k _ e1,e2⟩⟩
 refine wX hS dd ?_;refine⟨s1.heap.objs.size,[s1.heap.objs.size],_,_,_,rfl,I2.kept λb o e=>aG _ e,GY a _ es ep d4,⟨_,bc _ rfl,rfl,rfl⟩,λb hb=>?_,q es ep ⟨d4,d5,hz,hS⟩⟩
 rw[cH]at hb;subst hb;exact I2.wa (az _) (I2.hok.fresh (az _))
def U8(X:Cx)(D:px):px:={D with nx:=λσ H=>D.nx σ H\/∃a xs es ep,Zx X a es xs/\H a=some (u4 a es ep)/\D.nx σ (bM H a (.dT xs))}
def G0{st:Stmt}{t:TS}(h:PS X st t):PS X st (λD σ H=>t (U8 X D) σ H):=by
 intro af s σ H D I q;refine ir (h af s σ H _ I q) (λf s1 z=>?_) λ_ _ z=>z
 cases f with
 | next =>
  obtain⟨bj,H',I',z | ⟨a,xs,es,ep,⟨r1,r2,r3,r4⟩,ha,z⟩⟩:=z
  ·exact⟨bj,H',I',z⟩
  ·obtain⟨o,d1,d2,d3⟩:Raw s1.heap a es ep:=(I'.hok a _ ha).1;have I2:Inv X af bj (bM H' a (.dT xs)) s1:=I'.write (e:=a) (by rw[ha];trivial) (.inl rfl) (λb u _ q=>q) ⟨o,d1⟩ ⟨r3,r4,o,es,ep,d1,d2,d3,r1,r2⟩
   exact⟨bj,_,I2,z⟩
 | brk=>exact z
 | cont=>exact z
 | ret u=>exact z
end
def NE(H H':Hp):Prop:=∀c o,H c=some o->(∀φ,o≠.ext φ)->H' c=some o
section
variable {K:W.Frag} {H H' G G':Hp}
def NE.rd(e:NE H H')(h:Rd H a u)(hu:∀φ,u≠.ext φ):Rd H' a u:=by
 rcases h with h | ⟨o,h⟩
 ·exact .inl (e _ _ h hu)
 ·exact .inr ⟨o,e _ _ h λ_ z=>nomatch z⟩
def NE.aw(e:NE H H')(h:fX K H a xs):fX K H' a xs:=h.imp (λh=>e.rd h λ_ z=>nomatch z) id
def jK.ne(h:jK K G H a x k vs)(g:NE G G')(e:NE H H'):jK K G' H' a x k vs:=by
 cases k with
 | aw=>exact⟨h.1,e.aw h.2⟩
 | lst =>
  cases x with
  | true=>exact e _ _ h λ_ z=>nomatch z
  | false=>exact Or.imp (λh=>e.rd h λ_ z=>nomatch z) id h
 | ins C ns =>
  obtain⟨Ca,dx,fs,h1,h2,h3,h4,h5⟩:=h;exact⟨Ca,dx,fs,h1,h2,h3,e _ _ h4 (λ_ z=>nomatch z),h5⟩
 | iy t ks =>
  cases t with
  | false =>
   obtain⟨kvs,h1,h2⟩:=h;exact⟨kvs,e _ _ h1 (λ_ z=>nomatch z),h2⟩
  | true =>
   obtain⟨xs,h1,h2,h3⟩:=h;exact⟨xs,e _ _ h1 (λ_ z=>nomatch z),λz hz=>g.aw (h2 z hz),h3⟩
mutual
theorem bu.ne{F F':Fz}(g:NE F.F F'.F)(m:F'.μ=F.μ):∀{p:PV} {v:V},bu K F p v->bu K F' p v
 | .bL,_,h=>h
 | .bl _,_,h=>h
 | .int _,_,h=>h
 | .str _,_,h=>h
 | .ref _,_,h=>by obtain⟨a,h1,h2⟩:=h;exact⟨a,by rw[m];exact h1,h2⟩
 | .fn _,_,h=>h
 | .nd k ps,_,h=>by obtain⟨a,vs,h1,h2,h3⟩:=h;exact⟨a,vs,h1,h2.ne g g,ax.ne g m h3⟩
theorem ax.ne{F F':Fz}(g:NE F.F F'.F)(m:F'.μ=F.μ):∀{ps:List PV} {vs:List V},ax K F ps vs->ax K F' ps vs
 | [],_,h=>h
 | _::_,_,h=>by obtain⟨v,r,h1,h2,h3⟩:=h;exact⟨v,r,h1,bu.ne g m h2,ax.ne g m h3⟩
end
end
def zW:ak:=⟨.aw,[]⟩
def wY(H:Hp)(a:Addr):Hp:=λb=>if b=a then none else H b
def p9(h:b≠a):wY H a b=H b:=if_neg h
section
variable {K:W.Frag} {aa H:Hp} {ab F F':Fz} {st:bJ} {σ:St} {a:Addr} {n:Nat} {c:ak}
def Nj{μ:List Addr}(hd:μ.Nodup)(h1:μ[n]?=some a)(h2:μ[m]?=some b)(hm:m≠n):b≠a:=λz=>by
 subst z;exact hm ((List.getElem?_inj (b6.mp h2).1 hd).mp (h2.trans h1.symm))
def Rep.lock(R:Rep K aa ab F st σ H)(ha:F.μ[n]?=some a)(hf:F.F a=none)(u:HO):Rep K aa ab ⟨bM F.F a u,F.μ⟩ ⟨st.ρ,st.h.set n zW⟩ σ (bM H a u)/\Gr F ⟨bM F.F a u,F.μ⟩:=by
 have g:Gr F ⟨bM F.F a u,F.μ⟩:=⟨dW hf,λ_ _ h=>h⟩
 have h0:=(R.c.new n a ha).1;refine⟨⟨⟨λb o e=>?_,λb o e=>?_,R.c.base.trans g,λb o e=>?_,λm b e=>?_,by simp[R.c.hl],R.c.nd,λm d b hd hb hl=>?_⟩,R.l.mono g⟩,g⟩
 ·have e:bM F.F a u b=some o:=e;by_cases hb:b=a
  ·subst hb;rw[aq]at e ⊢;exact e
  ·rw[aH hb]at e ⊢;exact R.c.sub _ _ e
 ·rw[aH (bG e h0)];exact R.c.keep _ _ e
 ·have e:bM F.F a u b=some o:=e;by_cases hb:b=a
  ·subst hb;exact .inr h0
  ·rw[aH hb]at e;exact R.c.fresh _ _ e
 ·obtain⟨h1,o,h2⟩:=R.c.new m b e;by_cases hb:b=a
  ·subst hb;exact⟨h1,u,aq⟩
  ·exact⟨h1,o,by rw[aH hb];exact h2⟩
 ·by_cases hm:m=n
  ·subst hm;rw[List.getElem?_set_self' ]at hd;cases z:st.h[m]? with
   | none=>rw[z]at hd;cases hd
   | some d'=>rw[z]at hd;cases hd;cases hl
  ·rw[gB (cx hm)]at hd;have iC:=Nj R.c.nd ha hb hm;obtain⟨h1,vs,h2,h3⟩:=R.c.cell m d b hd hb hl;exact⟨(aH iC).trans h1,vs,h2.to g.s (λo e=>by rw[aH iC];exact e) (λz=>z),h3.mono g⟩
def Rep.unlock{F1:Fz}(R:Rep K aa ab F' ⟨ρ,h⟩ σ H)(ha:F'.μ[n]?=some a)(hx:F'.F a=some (.ext φ))(g1:Gr F1 F')(hf:F1.F a=none)(b0:Gr ab F1)(hn:n<h.length)(u:HO)(hc:∀G,cg F1.F G->jK K G (bM H a u) a true c.k vs)(hv:ax K F1 c.ps vs) :
  Rep K aa ab ⟨wY F'.F a,F'.μ⟩ ⟨ρ,h.set n c⟩ σ (bM H a u)/\Gr F1 ⟨wY F'.F a,F'.μ⟩:=by
 have g:Gr F1 ⟨wY F'.F a,F'.μ⟩:=⟨λb o e=>(p9 (bG e hf)).trans (g1.s _ _ e),g1.m⟩
 have hne:NE F'.F (wY F'.F a):=λb o e q=>by
  by_cases hb:b=a
  ·subst hb;rw[hx]at e;cases e;exact absurd rfl (q φ)
  ·rw[p9 hb];exact e
 have h0:=(R.c.new n a ha).1;have hHa:H a=some (.ext φ):=R.c.sub _ _ hx;have hnH:NE H (bM H a u):=λb o e q=>by
  by_cases hb:b=a
  ·subst hb;rw[hHa]at e;cases e;exact absurd rfl (q φ)
  ·rw[aH hb];exact e
 refine⟨⟨⟨λb o e=>?_,λb o e=>?_,b0.trans g,λb o e=>?_,λm b e=>?_,by rw[ip];exact R.c.hl,R.c.nd,λm d b hd hb hl=>?_⟩,⟨λi p e=>?_,R.l.len⟩⟩,g⟩
 ·by_cases hb:b=a
  ·subst hb;exact nomatch (show none=some o from(if_pos rfl:wY F'.F b b=none).symm.trans e)
  ·rw[aH hb];exact R.c.sub _ _ ((p9 hb).symm.trans e)
 ·rw[aH (bG e h0)];exact R.c.keep _ _ e
 ·by_cases hb:b=a
  ·subst hb;exact .inr h0
  ·exact R.c.fresh _ _ ((p9 hb).symm.trans e)
 ·obtain⟨h1,o,h2⟩:=R.c.new m b e;by_cases hb:b=a
  ·subst hb;exact⟨h1,u,aq⟩
  ·exact⟨h1,o,by rw[aH hb];exact h2⟩
 ·by_cases hm:m=n
  ·subst hm;rw[j4 hn]at hd;cases hd;cases ha.symm.trans hb;exact⟨if_pos rfl,vs,hc _ g.s,hv.mono g⟩
  ·rw[gB (cx hm)]at hd;have iC:=Nj R.c.nd ha hb hm;obtain⟨h1,ws,h2,h3⟩:=R.c.cell m d b hd hb hl;exact⟨(p9 iC).trans h1,ws,h2.ne hne hnH,ax.ne (F:=F') (F':=⟨wY F'.F a,F'.μ⟩) hne rfl h3⟩
 ·obtain⟨v,h1,h2⟩:=R.l.av i p e;exact⟨v,h1,bu.ne (F:=F') (F':=⟨wY F'.F a,F'.μ⟩) hne rfl h2⟩
end
def kyP:da->PV
 | .inl i=>.int i
 | .inr x=>.str x
def jm(ks:List (List da)):List PV:=ks.map λk=>.aw (k.map kyP)
def unD(n:Nat)(c:ak):Rs dn×bJ->Option (Rs dn×bJ)
 | (.ok .nx,st)=>if n<st.h.length then some (.ok .nx,⟨st.ρ,st.h.set n c⟩)else none
 | (.ok (.rt p),st)=>some (.ok (.rt p),st)
 | _=>none
def Dy:Kd->Option (List (List da))
 | .iy true ks=>some ks
 | _=>none
def U9(fe:Gx PV)(g:Tg)(body:Gx dn):Gx dn:=bnd fe λp st=>(jP st.h p).bind λq=>(Dy q.2.k).bind λks=>(dD g body (jm ks) ⟨st.ρ,st.h.set q.1 zW⟩).bind (unD q.1 q.2)
theorem oq{K:W.Frag}{F:Fz}:∀k:List da,ax K F (k.map kyP) (k.map kV)
 | []=>.nil
 | .inl i::k=>.cons (aD.mpr rfl) (oq k)
 | .inr x::k=>.cons (b7.mpr rfl) (oq k)
def wZ{K:W.Frag}(hF:F.F a=some (u4 a es ep))(hk:dB K F.F xs):Walk K F (jm (xs.map (·.1))) (U7 a es ep xs):=by
 intro aa ab F' st σ H R s i;have hH:=R.c.sub _ _ (s.s _ _ hF);unfold jm;rw[ku,bK];refine⟨λp e=>?_,λe=>⟨hH,?_⟩⟩
 ·obtain⟨y,hy,rfl⟩:=gy.mp e;refine⟨⟨hH,(b6.mp hy).1⟩,λx H' z=>?_⟩
  obtain⟨rfl,k,XC,rfl⟩:=z;cases hy.symm.trans XC;exact⟨F',R,Gr.refl _,bH.mpr ⟨_,_,rfl,aK s.s (hk y (fO hy)),oq _⟩⟩
 ·rw[Option.map_eq_none_iff]at e;exact j2.mp e
section
variable {X:Cx} {aa:Hp} {ab:Fz} {tg iter:Expr} {fe:Gx PV} {fb:Gx dn} {body:List Stmt} {pos:Pos} {D:px}
def PZ(hp:PassesOwn (model X.prog X.w) X.A X.env X.xe)(hc:X.calm=true)(he:PE X iter (tE X aa ab fe))(hg:PG X tg (tG X.K aa ab g))(hb:PSs X body (tS X aa ab fb))
  (hs:∀x,foldedSetIterable iter X.env x=pure x:=by intro _;rfl):PS X (.For tg iter body [] pos) (tS X aa ab (U9 fe g fb)):=(G0 (uH hp hc (GZ he) hg hb hs)).imp λD σ H h=>by
 obtain⟨F,st,R,h⟩:=h;refine⟨F,st,R,h.bnd λp v F1 aM H1 R1 g1 b1 h1=>?_⟩
 obtain⟨r,e1,e2⟩:=h1;obtain⟨⟨n,c⟩,d1,e0⟩:=aI e1;clear e1;obtain⟨rfl,Lb,hl⟩:=dM d1;obtain⟨ks,d2,e1⟩:=aI e0;obtain⟨q,d3,e1⟩:=aI e1;obtain⟨a,ha,rfl⟩:=cz.mp b1;obtain⟨ck,cp⟩:=c;have d2:Dy ck=some ks:=d2;cases ck with
 | iy t rg =>
  cases t with
  | false=>cases d2
  | true =>
   cases d2;obtain⟨hf,ws,⟨xs,k1,k2,k3,k4⟩,hv⟩:=R1.c.cell n _ a Lb ha hl;subst k3;refine⟨a,xs,rfl,k1,λes ep hx=>?_⟩
   obtain⟨R2,g2⟩:=R1.lock ha hf (u4 a es ep);have hn:n<aM.h.length:=(b6.mp Lb).1;have hF:bM F1.F a (u4 a es ep) a=some (u4 a es ep):=aq;have wk:Walk X.K ⟨bM F1.F a (u4 a es ep),F1.μ⟩ (jm (xs.map (·.1))) (U7 a es ep xs):=wZ hF λz hz=>aK g2.s (k2 z hz)
   have h2:Sa X aa ab ⟨bM F1.F a (u4 a es ep),F1.μ⟩ (U8 X D) ⟨aM.ρ,aM.h.set n zW⟩ (dD g fb (jm (xs.map (·.1)))):=by
    refine⟨q,d3,?_⟩;obtain⟨f | ⟨m,C⟩,Jh⟩:=q
    ·cases f with
     | nx =>
      intro F' bj H' R' g';obtain⟨Zz,e4⟩:=bO e1;cases e4;obtain⟨R4,g4⟩:=Rep.unlock (c:=⟨.iy true (xs.map (·.1)),cp⟩) R' (g'.m n a ha) (g'.s _ _ hF) (g2.trans g') hf R1.c.base Zz (.dT xs) (λG g9=>⟨xs,aq,λz hz=>aK g9 (k2 z hz),rfl,k4⟩) hv
      exact .inr ⟨a,xs,es,ep,hx,R'.c.sub _ _ (g'.s _ _ hF),e2 _ bj _ R4 g4⟩
     | rt p=>cases e1;exact λv F' H' C' g' b'=>e2 v F' H' C' (g2.trans g') b'
     | bk=>cases e1
     | ct=>cases e1
    ·cases e1
   generalize hps:jm (xs.map (·.1))=ps at wk h2
   generalize XD:(⟨bM F1.F a (u4 a es ep),F1.μ⟩:Fz)=F2 at R2 wk h2
   generalize (⟨aM.ρ,aM.h.set n zW⟩:bJ)=dG at R2 h2
   refine⟨λi m bj H'=>m=ps.length-i/\i<=ps.length/\∃F' bI,Rep X.K aa ab F' bI bj H'/\Gr F2 F'/\Sa X aa ab F' (U8 X D) bI (dD g fb (ps.drop i)),⟨ps.length,by simp,eL _,F2,dG,R2,Gr.refl _,h2⟩,?_⟩
   rintro i m bj H' ⟨rfl,hi,F',bI,R',s',hr⟩
   obtain⟨wg,PY⟩:=wk aa ab F' bI bj H' R' s' i;by_cases dH:i<ps.length
   ·obtain⟨go,wy⟩:=wg ps[i] (b8 dH);rw[tN dH]at hr;refine .inr ⟨go,λqR H2=>∃Va dG,Rep X.K aa ab Va dG qR H2/\Gr F2 Va/\Sa X aa ab Va (U8 X D) dG (dD g fb (ps.drop (i+1))),λqR H2 n2=>⟨ps.length-(i+1),by lia,rfl,dH,n2⟩,λx H2 y=>?_⟩
    obtain⟨Va,R2,s2,b2⟩:=wy x H2 y;obtain⟨r,e1,e2⟩:=At.bnd hr;obtain⟨GV,e3,e4⟩:=aV e1;subst e4;refine⟨Va,bI,ps[i],GV,R2,b2,e3,λmn H3 F3 R3 s3=>⟨F3,GV,R3,?_⟩⟩
    exact Sa.mR _ (λF4 Bn Jk H4 R4 g4 z=>⟨F4,Bn,R4,(s'.trans (s2.trans s3)).trans g4,z⟩) (Sa.mono (e2) (s2.trans s3))
   ·have e:i=ps.length:=by lia
    subst e;rw[ub]at hr;exact .inl ⟨PY (gz (az _)),At.aP hr F' bj H' R' (Gr.refl _)⟩
 | _=>cases d2
end
structure Lk (X:Cx) (F:Fz) (n:Nat) (a:Addr) (es:Array DictEntry) (ep:Nat) (xs:List (List da×Addr×Value)) (ps:List PV):Prop where
 m:F.μ[n]?=some a
 f:F.F a=some (u4 a es ep)
 d:Zx X a es xs
 k:dB X.K F.F xs
 v:∃vs,Vals vs (xs.map (·.2.2))/\ax X.K F ps vs
def Lk.mono{X:Cx}(h:Lk X F n a es ep xs ps)(g:Gr F F'):Lk X F' n a es ep xs ps:=⟨g.m n a h.m,g.s _ _ h.f,h.d,λz hz=>aK g.s (h.k z hz),let ⟨vs,h1,h2⟩:=h.v;⟨vs,h1,h2.mono g⟩⟩
def ZA:PV->Option (List PV)
 | .nd .lst qs=>some qs
 | _=>none
def Vb(n:Nat)(ks:List (List da))(ps:List PV)(p q:PV):Option (List PV):=match p with
 | .ref m=>if m=n then(gS true q).bind λk=>(iK k ks ps).bind ZA else none
 | _=>none
def ZC(fa fb:Gx PV)(g:Tg)(f:Gx dn)(n:Nat)(ks:List (List da))(ps:List PV):Gx dn:=bnd fa λp=>bnd fb λq=>bnd (gI (Vb n ks ps p q)) λqs=>dD g f qs
def G1(fe:Gx PV)(g:Tg)(f:Nat->List (List da)->List PV->Gx dn):Gx dn:=bnd fe λp st=>(jP st.h p).bind λq=>(Dy q.2.k).bind λks=>(dD g (f q.1 ks q.2.ps) (jm ks) ⟨st.ρ,st.h.set q.1 zW⟩).bind (unD q.1 q.2)
def rLk(X:Cx):R2:=λx y H Q=>∃aa ab F st τ n a es ep xs ps pa pb qs,Vb n (xs.map (·.1)) ps pa pb=some qs/\Rep X.K aa ab F st τ H/\Lk X F n a es ep xs ps/\bu X.K F pa x/\bu X.K F pb y/\∀w,bu X.K F (.lst qs) w->Q w H
section
variable {X:Cx} {aa:Hp} {ab:Fz} {tg iter va vb:Expr} {fe fa fb:Gx PV} {f:Gx dn} {body:List Stmt} {pos ZD:Pos} {D:px} {g:Tg}
def lkT(hu:X.A.units+1150<cLine):OR X (rLk X):=by
 rintro value slice af s σ H x y v u Q I rx ry ⟨aa,ab,F,st,τ,n,a,es,ep,xs,ps,pa,pb,qs,e,R,lk,ba,bb,k⟩ hs
 cases pa with
 | ref m =>
  obtain⟨rfl,e9⟩:=bO (show(if m=n then(gS true pb).bind λk=>(iK k (xs.map (·.1)) ps).bind ZA else none)=some qs from e)
  obtain⟨kk,e1,e8⟩:=aI e9;obtain⟨p,e2,e3⟩:=aI e8;obtain rfl:p=.lst qs:=by
   unfold ZA at e3;split at e3
   ·cases e3;rfl
   ·cases e3
  obtain⟨a',ha,rfl⟩:=cz.mp ba;obtain rfl:=bB (ha.symm.trans lk.m);cases rx;obtain⟨c,rfl,hc⟩:=fZ e1 bb;cases ry;obtain⟨vs,rv,bv⟩:=lk.v;obtain⟨ad,r,w,hw,C7,bw⟩:=om e2 bv rv;obtain⟨o,ho,hx,hd⟩:Raw s.heap a' es ep:=(I.hok a' _ (R.sub _ _ lk.f)).1;have dd:s.heap.DictOfH (tupleKind (bE X.prog X.w)) a' xs:=⟨o,es,ep,ho,hx,hd,lk.d.1,λz hz=>key_is I (aK R.sub (lk.k z hz)),lk.d.2.1⟩
  exact mM ⟨o,ho,hx.1⟩ PySem.F.slot_dict_getitem.lookup (wpAny_getItem_heap (j5 (by lia)) (key_is I (aK R.sub hc)) dd hw ⟨w,H,I.tok _,C7,k w bw⟩) hs
 | _=>cases e
def BF{J:It}{F1:Fz}{aM:bJ}{H1:Hp}{σ:St}{ps:List PV}{tb:TS}(wk:Walk X.K F1 ps J)(R1:Rep X.K aa ab F1 aM σ H1)(h1:Sa X aa ab F1 D aM (dD g f ps))(ht:∀D F' bI bj H',Gr F1 F'->Rep X.K aa ab F' bI bj H'->Sa X aa ab F' D bI f->tb D bj H') :
  ∃W:Nat->Nat->St->Hp->Prop,(∃m,W 0 m σ H1)/\∀i m σ H,W i m σ H->(J.stop i H/\D.nx σ H)\/(J.go i H/\∃N:St->Hp->Prop,(∀bj H',N bj H'->∃m',m'<m/\W (i+1) m' bj H')/\∀x H',J.yld i H x H'->tG X.K aa ab g x σ H' λqR H2=>tb {D with nx:=N,ct:=N,bk:=D.nx} qR H2):=by
 refine⟨λi m bj H'=>m=ps.length-i/\i<=ps.length/\∃F' bI,Rep X.K aa ab F' bI bj H'/\Gr F1 F'/\Sa X aa ab F' D bI (dD g f (ps.drop i)),⟨ps.length,by simp,eL _,F1,aM,R1,Gr.refl _,h1⟩,?_⟩
 rintro i m bj H' ⟨rfl,hi,F',bI,R',s',hr⟩
 obtain⟨wg,PY⟩:=wk aa ab F' bI bj H' R' s' i;by_cases dH:i<ps.length
 ·obtain⟨go,wy⟩:=wg ps[i] (b8 dH);rw[tN dH]at hr;refine .inr ⟨go,λqR H2=>∃F2 dG,Rep X.K aa ab F2 dG qR H2/\Gr F1 F2/\Sa X aa ab F2 D dG (dD g f (ps.drop (i+1))),λqR H2 n2=>⟨ps.length-(i+1),by lia,rfl,dH,n2⟩,λx H2 y=>?_⟩
  obtain⟨F2,R2,s2,b2⟩:=wy x H2 y;obtain⟨r,e1,e2⟩:=At.bnd hr;obtain⟨GV,e3,e4⟩:=aV e1;subst e4;refine⟨F2,bI,ps[i],GV,R2,b2,e3,λmn H3 F3 R3 s3=>ht _ F3 GV mn H3 (s'.trans (s2.trans s3)) R3 ?_⟩
  exact Sa.mR _ (λF4 Bn Jk H4 R4 g4 z=>⟨F4,Bn,R4,(s'.trans (s2.trans s3)).trans g4,z⟩) (Sa.mono (e2) (s2.trans s3))
 ·have e:i=ps.length:=by lia
  subst e;rw[ub]at hr;exact .inl ⟨PY (gz (az _)),At.aP hr F' bj H' R' (Gr.refl _)⟩
def tLk(X:Cx)(aa:Hp)(ab:Fz)(f:Nat->List (List da)->List PV->Gx dn):TS:=λD σ H=>∃F st n a es ep xs ps,Rep X.K aa ab F st σ H/\Lk X F n a es ep xs ps/\Sa X aa ab F D st (f n (xs.map (·.1)) ps)
def ZE(hu:X.A.units+1150<cLine)(hp:PassesOwn (model X.prog X.w) X.A X.env X.xe)(hc:X.calm=true)(ha:PE X va (tE X aa ab fa))(hb:PE X vb (tE X aa ab fb))(hx:jz vb)(hg:PG X tg (tG X.K aa ab g))(hf:PSs X body (tS X aa ab f)) :
  PS X (.For tg (.Subscript va vb ZD) body [] pos) (tLk X aa ab (ZC fa fb g f)):=(uH hp hc (uG (Bj (lkT hu) ha hb hx)) hg hf (by intro _;rfl)).imp λD σ H h=>by
 obtain⟨F,st,n,a,es,ep,xs,ps,R,lk,h⟩:=h;refine⟨F,st,R,h.bnd λp v F1 aM H1 R1 g1 b1 h1=>⟨F1,aM,R1,h1.bnd λq w F2 dG H2 R2 g2 b2 h2=>?_⟩⟩
 obtain⟨qs,e,h3⟩:=At.gI (At.bnd h2);refine⟨aa,ab,F2,dG,σ,n,a,es,ep,xs,ps,p,q,qs,e,R2,lk.mono (g1.trans g2),b1.mono g2,b2,λw' bw=>?_⟩
 obtain⟨l,vs,rfl,hs,hb⟩:=dJ.mp bw;exact⟨l,rfl,⟨vs,(pO R2.sub hs).sq⟩,BF (sx hs.sq hb) R2 h3 λD F' bI bj H' _ R' z=>⟨F',bI,R',z⟩⟩
def Ld{f:Nat->List (List da)->List PV->Gx dn}(hp:PassesOwn (model X.prog X.w) X.A X.env X.xe)(hc:X.calm=true)(he:PE X iter (tE X aa ab fe))(hg:PG X tg (tG X.K aa ab g))(hb:PSs X body (tLk X aa ab f))
  (hs:∀x,foldedSetIterable iter X.env x=pure x:=by intro _;rfl):PS X (.For tg iter body [] pos) (tS X aa ab (G1 fe g f)):=(G0 (uH hp hc (GZ he) hg hb hs)).imp λD σ H h=>by
 obtain⟨F,st,R,h⟩:=h;refine⟨F,st,R,h.bnd λp v F1 aM H1 R1 g1 b1 h1=>?_⟩
 obtain⟨r,e1,e2⟩:=h1;obtain⟨⟨n,c⟩,d1,e0⟩:=aI e1;clear e1;obtain⟨rfl,Lb,hl⟩:=dM d1;obtain⟨ks,d2,e1⟩:=aI e0;obtain⟨q,d3,e1⟩:=aI e1;obtain⟨a,ha,rfl⟩:=cz.mp b1;obtain⟨ck,cp⟩:=c;have d2:Dy ck=some ks:=d2;cases ck with
 | iy t rg =>
  cases t with
  | false=>cases d2
  | true =>
   cases d2;obtain⟨hf,ws,⟨xs,k1,k2,k3,k4⟩,hv⟩:=R1.c.cell n _ a Lb ha hl;subst k3;refine⟨a,xs,rfl,k1,λes ep hx=>?_⟩
   obtain⟨R2,g2⟩:=R1.lock ha hf (u4 a es ep);have hn:n<aM.h.length:=(b6.mp Lb).1;have hF:bM F1.F a (u4 a es ep) a=some (u4 a es ep):=aq;have lk:Lk X ⟨bM F1.F a (u4 a es ep),F1.μ⟩ n a es ep xs cp:=⟨ha,hF,hx,λz hz=>aK g2.s (k2 z hz),ws,k4,hv.mono g2⟩
   have wk:Walk X.K ⟨bM F1.F a (u4 a es ep),F1.μ⟩ (jm (xs.map (·.1))) (U7 a es ep xs):=wZ hF lk.k;have h2:Sa X aa ab ⟨bM F1.F a (u4 a es ep),F1.μ⟩ (U8 X D) ⟨aM.ρ,aM.h.set n zW⟩ (dD g (f n (xs.map (·.1)) cp) (jm (xs.map (·.1)))):=by
    refine⟨q,d3,?_⟩;obtain⟨o | ⟨m,C⟩,Jh⟩:=q
    ·cases o with
     | nx =>
      intro F' bj H' R' g';obtain⟨Zz,e4⟩:=bO e1;cases e4;obtain⟨R4,g4⟩:=Rep.unlock (c:=⟨.iy true (xs.map (·.1)),cp⟩) R' (g'.m n a ha) (g'.s _ _ hF) (g2.trans g') hf R1.c.base Zz (.dT xs) (λG g9=>⟨xs,aq,λz hz=>aK g9 (k2 z hz),rfl,k4⟩) hv
      exact .inr ⟨a,xs,es,ep,hx,R'.c.sub _ _ (g'.s _ _ hF),e2 _ bj _ R4 g4⟩
     | rt p=>cases e1;exact λv F' H' C' g' b'=>e2 v F' H' C' (g2.trans g') b'
     | bk=>cases e1
     | ct=>cases e1
    ·cases e1
   exact BF wk R2 h2 λD F' bI bj H' g' R' z=>⟨F',bI,n,a,es,ep,xs,cp,R',lk.mono g',z⟩
 | _=>cases d2
def P0(fe:Gx PV):Gx PV:=bnd fe λp st=>match p with
 | .ref n=>(jP st.h (.ref n)).bind λq=>match q.2.k with
  | .lst=>some (.ok (.lst q.2.ps),⟨st.ρ,st.h.set n zW⟩)
  | _=>none
 | p=>some (.ok p,st)
def Vc{e:Expr}(he:PE X e (tE X aa ab fe)):PE X e (tE X aa ab (P0 fe)):=he.imp λσ H Q h=>by
 obtain⟨F,st,R,h⟩:=h;refine⟨F,st,R,h.bnd λp v F1 aM H1 R1 g1 b1 h1=>?_⟩
 have keep:(∀n,p≠.ref n)->Q v H1:=λhp=>by
  obtain⟨r,e1,e2⟩:=h1;cases p with
  | ref n=>exact absurd rfl (hp n)
  | _=>cases e1;exact e2 _ _ F1 R1 (Gr.refl _) b1
 cases p with
 | ref n =>
  obtain⟨r,e1,e2⟩:=h1;obtain⟨⟨m,c⟩,d1,e3⟩:=aI (show(jP aM.h (.ref n)).bind _=some r from e1)
  obtain⟨z,Lb,hl⟩:=dM d1;cases z;obtain⟨a,ha,rfl⟩:=cz.mp b1;obtain⟨ck,cp⟩:=c;cases ck with
  | lst =>
   cases e3;obtain⟨hf,ws,k1,hv⟩:=R1.c.cell n _ a Lb ha hl;have k1:H1 a=some (.lst ws):=k1;obtain⟨R2,g2⟩:=R1.lock ha hf (.lst ws);have eH:bM H1 a (.lst ws)=H1:=by
    funext b
    by_cases hb:b=a
    ·subst hb;rw[aq,k1]
    ·rw[aH hb]
   rw[eH]at R2;exact e2 _ _ _ R2 g2 (dJ.mpr ⟨a,ws,rfl,iu.of aq,hv.mono g2⟩)
  | _=>cases e3
 | _=>exact keep λ_ z=>nomatch z
end
def BG{P:Program}{w:World}{H':Hp}{h1 h5 B:Heap}(x:kA P w H' h1)(hB:∀b o,H' b=some o->∃ob,B.get? b=some ob)(k1:B.StaysIn h1)(k5:B.StaysIn h5):kA P w H' h5:=λa o e=>by
 have keep:∀b u o',H' b=some o'->h1.get? b=some u->h5.get? b=some u:=λb u o' eb q=>by
  obtain⟨ob,XE⟩:=hB b o' eb;have:=k1 b ob XE;rw[q]at this;cases this;exact k5 b _ XE
 refine(x a o e).uB (λb u hb q=>?_) (λ_ q=>q) (λ_ _ q=>q) λ_ _ _ q=>q
 rcases hb with rfl | hb
 ·exact keep _ _ _ e q
 ·exact keep _ _ _ hb q
def G3{l:List Env}{H H':Hp}{h h1 h5 B B':Heap}(u:Un (mP l) [] H H' h h1)(sm:Dm H H')(hB:∀b o,H' b=some o->∃ob,B.get? b=some ob)(hU:∀b ob,h.get? b=some ob->H b=none->b∉mP l->B.get? b=some ob)
  (k5:B.StaysIn h5) (fr:h1.FunFrames B' l) (up:h1.UpToSlots h5):Un (mP l) [] H H' h h5:=by
 have slot:∀b o,h.get? b=some o->H b=none->b∈mP l->∃sl,h5.get? b=some {o with slots:=sl}:=λb o q n hb=>by
  obtain⟨sl,e⟩:=u.slot b o q n hb (by simp)
  obtain⟨_,o',kX,hd⟩:=fr.mem hb;rw[e]at kX;cases kX;obtain⟨Tu,e'⟩:=up b _ e hd;exact⟨Tu,e'⟩
 refine⟨λb o q n hb _=>k5 b o (hU b o q n hb),λb o q n hb _=>slot b o q n hb,u.free,λb o q hx=>?_,u.tups,u.frzs,u.tbls⟩
 cases z:H b with
 | none =>
  by_cases hb:b∈mP l
  ·grind
  ·exact⟨o,k5 b o (hU b o q z hb)⟩
 | some v =>
  obtain⟨v',z'⟩:=sm b v z;obtain⟨ob,XE⟩:=hB b v' z';exact⟨ob,k5 b ob XE⟩
def Dz{P:Program}{w:World}{H:Hp}{h:Heap}{a:Addr}{o:HO}(x:eR P w H h a o):∃ob,h.get? a=some ob:=by
 cases o with
 | lst xs=>obtain⟨_,_,_,_,e⟩:=x;exact⟨_,e⟩
 | aw xs=>obtain⟨_,_,_,ob,e,_⟩:=x;exact⟨_,e⟩
 | dK kvs=>obtain⟨_,_,_,_,o,_,_,e,_⟩:=x;exact⟨_,e⟩
 | dT kvs=>obtain⟨_,_,o,_,_,e,_⟩:=x;exact⟨_,e⟩
 | set S n=>obtain⟨o,_,_,_,e,_⟩:=x;exact⟨_,e⟩
 | ins C dx fs=>obtain⟨_,_,_,e,_⟩:=x;exact⟨_,e⟩
 | own y=>obtain⟨_,e⟩:=x;exact⟨_,e⟩
 | xd fs=>obtain⟨_,⟨_,_,_,e,_⟩,_⟩:=x;exact⟨_,e⟩
 | W6 lo hi=>obtain⟨_,_,_,e⟩:=x;exact⟨_,e⟩
 | nk ob u=>obtain⟨e,_⟩:=x;exact⟨_,e⟩
 | zb q=>obtain⟨_,e,_⟩:=x;exact⟨_,e⟩
 | W5 f y=>exact⟨_,show h.get? a=some _ from x⟩
 | ext φ=>obtain⟨_,⟨_,e⟩,_⟩:=x;exact⟨_,e⟩
section
variable {P:Program} {w:World} {K:W.Frag} {mg:Str->Option Value} {base:Heap} {N:List Str} {qual:Str} {scope:Scope} {f:Addr} {cd:Value} {A:Around} {ay:List Env} {s:Shared} {H:Hp} {E E1:XK} {af:List (Addr×Obj)} {σ:St} {H1:Hp} {s1 s':Shared} {e:Value}
def BH(I:Inv (ek (gP P w) P w K mg base N qual scope f cd A ay s H E) af σ H1 s1){b:Addr}{ob:Obj}(q:s.heap.get? b=some ob)(hb:b∉mP ay):b∉mP (envOfC qual scope s.heap.objs.size f cd::ay):=λhm=>by
 rcases aF.mp (I.uC b hm)with z | z
 ·exact absurd (aC q) (by rw[z];exact dX _)
 ·exact hb z
def w5(I:Inv (ek (gP P w) P w K mg base N qual scope f cd A ay s H E) af σ H1 s1)(h:gP P w (envOfC qual scope s.heap.objs.size f cd::ay) H1 s1 E1 e s')(hE:∀cls H2,E1 cls none H2->Dm H H2/\E cls none H2) :
  (ek (gP P w) P w K mg base N qual scope f cd A ay s H E).xe e s':=by
 obtain⟨a,cls,a0,B,H2,rfl,Jj,hb,un,hok,sm,he,P1,hB,hU⟩:=h;obtain⟨Vd,hE⟩:=hE cls H2 he;have I2:=I.MT Jj un hok hb (λb z=>absurd z (by simp))
 refine wpAny_leaves_onW I.ok.frames rfl P1 λh' P2 up=>?_
 have hU':∀b ob,s.heap.get? b=some ob->H b=none->b∉mP ay->B.get? b=some ob:=λb ob q n hb=>hU b ob (I.base.keep b ob q n hb (by simp[ek])) (I.base.free b ob q n (by simp[ek])) (BH I q hb)
 exact⟨a,cls,a0,B,H2,rfl,Jj.trans I.os,hb,G3 I2.base Vd hB hU' P2.1 P1.2.2.1.2.2 up,BG hok hB P1.1 P2.1,Vd,hE,P2,hB,hU'⟩
def BI{h1:Heap}{a:Addr}{cls:Value}{vs:List Value}(I:Inv (ek (gP P w) P w K mg base N qual scope f cd A ay s H E) af σ H1 s1)(hm:Heap.MadeExcOf s1.heap h1 a cls vs)(Vd:Dm H H1)(hE:E cls none H1) :
  (ek (gP P w) P w K mg base N qual scope f cd A ay s H E).xe (.ref a) {s1 with heap:=h1}:=by
 have hB:∀b o,H1 b=some o->∃ob,(W.hideAll s1.heap (mP (envOfC qual scope s.heap.objs.size f cd::ay))).get? b=some ob:=λb o e=>by
  obtain⟨ob,q⟩:=Dz (I.hok b o e);exact⟨ob,W.hideAll_get _ q λhb=>by
   have:=I.uD b hb;rw[e]at this;cases this⟩
 have hU:∀b ob,s.heap.get? b=some ob->H b=none->b∉mP ay->(W.hideAll s1.heap (mP (envOfC qual scope s.heap.objs.size f cd::ay))).get? b=some ob:=λb ob q n hb =>
  W.hideAll_get _ (I.base.keep b ob q n hb (by simp[ek])) (BH I q hb)
 refine wpAny_leaves_madeW I.ok.frames rfl (λb o q=>W.of_hideAll _ q) (W.funFrames_hide I.stack λenv he b hb=>oI.mpr ⟨env,he,hb⟩) hm λh' t P1 aw tn up=>?_
 refine⟨a,cls,.ref t,_,H1,rfl,I.os,I.bare,G3 (I.base.trans (Un.kept hm.keeps)) Vd hB hU P1.1 (I.funs.of_keeps λb o q _=>⟨o,hm.keeps b o q,rfl⟩) up,BG (I.hok.kept hm.keeps) hB (λb o q=>hm.keeps b o (W.of_hideAll _ q)) P1.1,Vd,hE,P1,hB,hU⟩
end
def zX(K:W.Frag)(f:Addr)(cC:Value):Prop:=∃oc od fd rM,K.lookup f=some ⟨oc,od,.func fd,rM⟩/\fd.code=cC
def Le{P:Program}{w:World}{K:W.Frag}{mg:Str->Option Value}{base:Heap}{x qual:Str}{st:Stmt}{f:Addr}{fd:FuncData}{N ps:List Str}{k:Nat}{sp:Sp}(F:zc K x qual st f fd)(S:dj N ps (ao st))(len:∀vs H Q E,sp vs H Q E->vs.length=ps.length)
  (hbody:∀(cC:Value) (A:Around) (ay:List Env) (s:Shared) (H:Hp) (vs:List V) (Q:VK) (E:XK),zX K f cC->dq k (A.deeper (envOfC qual (ao st) s.heap.objs.size f cC))->sp vs H Q E ->
   ∃t,PSs (ek (gP P w) P w K mg base N qual (ao st) f cC A ay s H E) (cO st) t/\t {nx:=λ_ H'=>Q .bL H',rt:=Q} (start N vs) H):FnOk P w K mg base (gP P w) (k+1) f fd ps sp:=by
 obtain⟨oc,od,kV,doc,pm,an,cC,ct,rM,rfl,lk,yl⟩:=F.ex;exact T8 lk yl S len λA ay s H vs Q E hr SF=>hbody cC A ay s H vs Q E ⟨oc,od,_,rM,lk,rfl⟩ hr SF
def nR(H:Hp)(μ:List Addr):Hp:=λb=>if b∈μ then none else H b
section
variable {K:W.Frag} {aa H H':Hp} {ab F F':Fz} {h h':List ak}
def DA{μ:List Addr}{b:Addr}{o:HO}(e:nR H μ b=some o):H b=some o/\b∉μ:=by
 unfold nR at e;split at e
 ·cases e
 ·grind
def DB{μ:List Addr}{b:Addr}(e:nR H μ b=none):H b=none\/b∈μ:=by
 unfold nR at e;split at e
 ·grind
 ·grind
def jA.enter(C:jA K aa ab F h H):jA K (nR H F.μ) F F h H/\∀b o,H b=some o->nR H F.μ b=some o\/∃n:Nat,F.μ[n]?=some b:=by
 refine⟨⟨C.sub,λb o e=>(DA e).1,Gr.refl F,λa o e=>.inl e,λn a e=>⟨if_pos (fO e),(C.new n a e).2⟩,C.hl,C.nd,C.cell⟩,λb o e=>?_⟩
 by_cases hb:b∈F.μ
 ·obtain⟨n,hn⟩:=oE.mp hb;exact .inr ⟨n,hn⟩
 ·exact .inl (by unfold nR;rw[if_neg hb];exact e)
def jA.leave(C:jA K aa ab F h H)(D:jA K (nR H F.μ) F F' h' H'):jA K aa ab F' h' H':=by
 have none_of:∀a,nR H F.μ a=none->aa a=none:=λa e=>by
  rcases DB e with z | z
  ·exact C.keep.free z
  ·obtain⟨n,hn⟩:=oE.mp z;exact(C.new n a hn).1
 refine⟨D.sub,λb o e=>D.keep b o ?_,C.base.trans D.base,λa o e=>?_,λn a e=>⟨none_of a (D.new n a e).1,(D.new n a e).2⟩,D.hl,D.nd,D.cell⟩
 ·unfold nR;rw[if_neg λhb=>?_]
  ·exact C.keep b o e
  ·obtain⟨n,hn⟩:=oE.mp hb;rw[(C.new n b hn).1]at e;cases e
 ·rcases D.fresh a o e with z | z
  ·exact C.fresh a o z
  ·grind
end
abbrev m4:=List PV->List ak->Option (Rs PV×List ak)
def P4(K:W.Frag)(aa:Hp)(F:Fz)(h':List ak)(Q:VK)(E:XK):Rs PV->Prop
 | .ok p=>∀v F' H',jA K aa F F' h' H'->bu K F' p v->Q v H'
 | .ex _ C=>∀cls F' H',jA K aa F F' h' H'->ClsAt K C cls->E cls none H'
def DC(K:W.Frag)(n:Nat)(f:m4):Sp:=λvs H Q E=>∃aa F h ps r h',jA K aa F F h H/\(∀b o,H b=some o->aa b=some o\/∃n:Nat,F.μ[n]?=some b)/\ax K F ps vs/\ps.length=n/\f ps h=some (r,h')/\P4 K aa F h' Q E r
def dE(n:Nat)(ps:List PV):List (Option PV):=ps.map some++List.replicate (n-ps.length) none
def Ve:Rs dn×bJ->Option (Rs PV×List ak)
 | (.ok (.rt p),st)=>some (.ok p,st.h)
 | (.ok .nx,st)=>some (.ok .bL,st.h)
 | (.ex m C,st)=>some (.ex m C,st.h)
 | _=>none
def gX(fb:Gx dn)(n:Nat):m4:=λps h=>(fb ⟨dE n ps,h⟩).bind Ve
def w6{K:W.Frag}{F:Fz}{ps:List PV}{vs:List V}{N:List Str}(b:ax K F ps vs):Lc K F (dE N.length ps) (start N vs) where
 av:=λi p e=>by
  unfold dE at e;unfold start;by_cases hi:i<ps.length
  ·rw[j3 (by simpa using hi),bK]at e
   cases z:ps[i]? with
   | none=>rw[z]at e;cases e
   | some q =>
    rw[z]at e;cases e;obtain⟨v,h1,h2⟩:=b.get z;refine⟨v,?_,h2⟩;rw[j3 (by simpa using (b.length▸hi)),bK,h1]
    rfl
  ·rw[yu (by simpa using hi),List.getElem?_replicate]at e
   split at e<;>cases e
 len:=by unfold dE start;simp[b.length]
def BJ{K:W.Frag}{aa H H':Hp}{F F':Fz}{h':List ak}(full:∀b o,H b=some o->aa b=some o\/∃n:Nat,F.μ[n]?=some b)(D:jA K aa F F' h' H'):Dm H H':=λb o e=>by
 rcases full b o e with z | ⟨n,hn⟩
 ·exact⟨o,D.keep b o z⟩
 ·exact(D.new n b (D.base.m n b hn)).2
def G4{P:Program}{w:World}{K:W.Frag}{mg:Str->Option Value}{base:Heap}{x qual:Str}{st:Stmt}{f:Addr}{fd:FuncData}{N ps:List Str}{k:Nat}{fb:Gx dn}(F:zc K x qual st f fd)(S:dj N ps (ao st))
  (hbody:∀(cC:Value) (A:Around) (ay:List Env) (s:Shared) (H:Hp) (E:XK),zX K f cC->dq k (A.deeper (envOfC qual (ao st) s.heap.objs.size f cC))->∀(aa:Hp) (ab:Fz),
   PSs (ek (gP P w) P w K mg base N qual (ao st) f cC A ay s H E) (cO st) (tS (ek (gP P w) P w K mg base N qual (ao st) f cC A ay s H E) aa ab fb)):FnOk P w K mg base (gP P w) (k+1) f fd ps (DC K ps.length (gX fb N.length)):=by
 refine Le F S (by rintro vs H Q E ⟨_,_,_,_,_,_,_,_,b,hl,_⟩;rw[<-b.length];exact hl) λcC A ay s H vs Q E OZ hr z9=>?_
 obtain⟨aa,F,h,as,r,h',C,full,b,hl,hf,res⟩:=z9;refine⟨_,hbody cC A ay s H E OZ hr aa F,F,⟨dE N.length as,h⟩,⟨C,w6 b⟩,?_⟩;obtain⟨q,e1,e2⟩:=aI hf;refine⟨q,e1,?_⟩;rcases q with⟨f | ⟨m,c⟩,st⟩
 ·cases f with
  | rt=>cases e2;exact λv F' H' C' g b'=>res v F' H' C' b'
  | nx=>cases e2;exact λF' bj H' R g=>res .bL F' H' R.c (cR.mpr rfl)
  | _=>cases e2
 ·cases e2;cases m with
  | true=>exact λF' bj H' af s1 h1 a cls vs R sf I hc hm=>BI I hm (BJ full R.c) (res cls F' H' R.c hc)
  | false=>exact λbj af H1 s1 e s' I h=>w5 I h (by rintro cls H2 ⟨hc,F',R,sf⟩;exact⟨BJ full R.c,res cls F' H2 R.c hc⟩)
mutual
def noRef:PV->Bool
 | .ref _=>false
 | .nd _ ps=>au ps
 | _=>true
def au:List PV->Bool
 | []=>true
 | p::ps=>noRef p&&au ps
end
section
variable {K:W.Frag} {F:Fz} {μ:List Addr}
mutual
theorem bu.any:∀{p:PV} {v:V},noRef p=true->bu K F p v->bu K ⟨F.F,μ⟩ p v
 | .bL,_,_,b=>cR.mpr (cR.mp b)
 | .bl _,_,_,b=>bC.mpr (bC.mp b)
 | .int _,_,_,b=>aD.mpr (aD.mp b)
 | .str _,_,_,b=>b7.mpr (b7.mp b)
 | .fn _,_,_,b=>mV.mpr (mV.mp b)
 | .ref _,_,h,_=>by simp[noRef]at h
 | .nd k ps,_,h,b=>by
  obtain⟨a,vs,h1,h2,h3⟩:=iz.mp b;exact iz.mpr ⟨a,vs,h1,h2,ax.any h h3⟩
theorem ax.any:∀{ps:List PV} {vs:List V},au ps=true->ax K F ps vs->ax K ⟨F.F,μ⟩ ps vs
 | [],_,_,b=>by rw[b.cj];exact .nil
 | _::_,_,h,b=>by
  simp only[au,aE]at h;obtain⟨v,r,rfl,b1,b2⟩:=b.bU;exact .cons (b1.any h.1) (ax.any h.2 b2)
end
end
def m5(h:List ak):Nat->PV->Option PV
 | 0,p=>if noRef p=true then some p else none
 | n+1,p=>if noRef p=true then some p else match p with
  | .ref m=>(h[m]?).bind λc=>if live c=true then(bW (m5 h n) c.ps).map (.nd c.k)else none
  | .nd k ps=>(bW (m5 h n) ps).map (.nd k)
  | _=>none
open Classical in
noncomputable def jQ (F:Fz) (h:List ak) (H:Hp):Hp:=λa=>match F.F a with
 | some o=>some o
 | none=>if(∃(n:Nat) (c:ak),F.μ[n]?=some a/\h[n]?=some c/\live c=true)then H a else none
section
variable {K:W.Frag} {aa H:Hp} {ab F:Fz} {h:List ak}
def gY{a:Addr}{o:HO}(e:F.F a=some o):jQ F h H a=some o:=by unfold jQ;rw[e]
def DD{a:Addr}{n:Nat}{c:ak}(e:F.F a=none)(h1:F.μ[n]?=some a)(h2:h[n]?=some c)(h3:live c=true):jQ F h H a=H a:=by
 unfold jQ;rw[e];exact if_pos ⟨n,c,h1,h2,h3⟩
def w9{a:Addr}{o:HO}(e:jQ F h H a=some o):F.F a=some o\/(H a=some o/\∃n:Nat,F.μ[n]?=some a):=by
 unfold jQ at e;split at e
 ·grind
 ·split at e
  ·grind
  ·cases e
def jA.m5(C:jA K aa ab F h H)(μ:List Addr):∀(n:Nat) (p q:PV) (v:V),m5 h n p=some q->bu K F p v->bu K ⟨jQ F h H,μ⟩ q v:=by
 have keep:∀{p:PV} {v:V},noRef p=true->bu K F p v->bu K ⟨jQ F h H,μ⟩ p v:=λhn b =>
  bu.mono (F:=⟨F.F,μ⟩) (F':=⟨jQ F h H,μ⟩) ⟨λb o e=>gY e,λ_ _ e=>e⟩ (b.any hn)
 intro n;induction n with
 | zero =>
  intro p q v e b;obtain⟨hn,rfl⟩:=aB e;exact keep hn b
 | succ n ih =>
  intro p q v e b;unfold U.m5 at e;split at e
  ·grind
  ·have list:∀(ps qs:List PV) vs,bW (U.m5 h n) ps=some qs->ax K F ps vs->ax K ⟨jQ F h H,μ⟩ qs vs:=by
    intro ps;induction ps with
    | nil=>intro qs vs e b;cases e;rw[b.cj];exact .nil
    | cons p ps ih2 =>
     intro qs vs e b;obtain⟨y,r,e1,e2,rfl⟩:=cZ e;obtain⟨v,w,rfl,b1,b2⟩:=b.bU;exact .cons (ih p y v e1 b1) (ih2 r w e2 b2)
   split at e
   ·obtain⟨c,e1,e⟩:=aI e;obtain⟨hl,e⟩:=bO e;obtain⟨qs,e2,rfl⟩:=aV e;obtain⟨a,h1,h2⟩:=cz.mp b;obtain⟨hF,vs,h3,h4⟩:=C.cell _ c a e1 h1 hl;exact iz.mpr ⟨a,vs,h2,h3.to (λb o e=>gY e) (λo e=>by rw[show(Fz.mk (jQ F h H) μ).F a=jQ F h H a from rfl,DD hF h1 e1 hl];exact e) (λz=>by cases z),list _ _ _ e2 h4⟩
   ·obtain⟨qs,e2,rfl⟩:=aV e;obtain⟨a,vs,h1,h2,h3⟩:=iz.mp b;exact iz.mpr ⟨a,vs,h1,h2.to (λb o e=>gY e) (λo e=>gY e) id,list _ _ _ e2 h3⟩
   ·cases e
end
section
variable {X:Cx} {aa:Hp} {ab:Fz} {e:Expr} {es:List Expr} {ts:Gx (List PV)} {pos p:Pos} {k n:Nat} {f:Addr} {fd:FuncData} {ps:List Str} {x:Str} {g:m4}
def ot{CX:EG}{sp:Sp}{E:XK}{af:List (Addr×Obj)}{σ:St}{H:Hp}{s:Shared}{Q:VK}{us:List Value}{vs:List V}(F:FnOk X.prog X.w X.K X.mg X.base CX k f fd ps sp)(hr:dq k X.A)(hb:fJ X.K fd ps [])(hx:∀e s',CX X.stack H s E e s'->X.xe e s')
  (I:Inv X af σ H s) (r:Vals vs us) (h:sp vs H Q E):wpAny (model X.prog X.w) X.A (call (.ref f) us) (EP X af σ Q) X.xe s:=by
 have Xk:=hb s us I.n9 (by rw[fg,<-r.length];exact F.len _ _ _ _ h)
 rw[fg]at Xk;refine o9 (jb (F.run X.A X.stack s H ⟨us,[]⟩ us vs Q E hr I.J2 Xk r h) λr s' hq=>?_)
 cases r with
 | error e=>exact hx e s' hq
 | ok fl =>
  cases fl with
  | ret u=>exact I.after hq
  | next=>exact False.elim hq
  | brk=>exact False.elim hq
  | cont=>exact False.elim hq
def Vf:Rs PV->Rs PV
 | .ok p=>.ok p
 | .ex _ C=>.ex false C
def nU(h:List ak)(p:PV):Option PV:=if h.isEmpty=true then some p else m5 h 4 p
def P5(st:bJ):Rs PV×List ak->Option (Rs PV×bJ)
 | (.ok p,h)=>(nU h p).map λq=>(.ok q,st)
 | (.ex _ C,_)=>some (.ex false C,st)
def zY(n:Nat)(g:m4)(as:List PV):Gx PV:=λst=>if as.length=n then(g as st.h).map λr=>(Vf r.1,⟨st.ρ,r.2⟩)else none
def kG(n:Nat)(g:m4)(as:List PV):Gx PV:=λst=>if as.length=n/\(st.h.isEmpty || au as)=true then(g as []).bind (P5 st)else none
def G5(n:Nat)(g:m4)(ts:Gx (List PV)):Gx PV:=bnd ts (kG n g)
def Lf(X:Cx)(f:Addr)(w:List PV->Gx PV):Prop:=∀(aa H:Hp) (ab F:Fz) (st:bJ) (σ:St) (af:List (Addr×Obj)) (s:Shared) (Q:VK) (as:List PV) (us:List Value) (vs:List V),Inv X af σ H s->Rep X.K aa ab F st σ H->ax X.K F as vs->Vals vs us->Tx X aa ab (bu X.K) F st (w as) σ Q ->
 wpAny (model X.prog X.w) X.A (call (.ref f) us) (EP X af σ Q) X.xe s
def ZF(G:FnOk X.prog X.w X.K X.mg X.base (gP X.prog X.w) k f fd ps (DC X.K n g))(hr:dq k X.A)(hb:fJ X.K fd ps []):Lf X f (zY n g):=by
 rintro aa H ab F st σ af s Q as us vs I R b r ⟨q,e1,e2⟩
 obtain⟨hl,e1⟩:=bO e1;obtain⟨⟨rs,h'⟩,e3,e4⟩:=aV e1;subst e4;obtain⟨C,full⟩:=R.c.enter;cases rs with
 | ok p'=>exact ot G hr hb (λe s' hx=>wz af σ H s e s' I hx) I r ⟨_,F,st.h,as,_,h',C,full,b,hl,e3,λv F' H' D b'=>e2 v H' F' ⟨R.c.leave D,R.l.mono D.base⟩ D.base b'⟩
 | ex m c=>exact thn (ot (Q:=λ_ _=>False) G hr hb (λe s' hx=>e2 σ af H s e s' I hx) I r ⟨_,F,st.h,as,_,h',C,full,b,hl,e3,λcls F' H' D hc=>⟨hc,F',⟨R.c.leave D,R.l.mono D.base⟩,D.base⟩⟩) (by rintro v s3 ⟨_,_,_,_,z⟩;exact z.elim)
def Rep.back{K:W.Frag}{aa H H1 H':Hp}{ab F F':Fz}{μ:List Addr}{st:bJ}{σ:St}{h':List ak}(R:Rep K aa ab F st σ H)(hH:cg H H1)(D:jA K H1 ⟨F.F,μ⟩ F' h' H'):Rep K aa ab ⟨jQ F' h' H',F.μ⟩ st σ H'/\Gr F ⟨jQ F' h' H',F.μ⟩:=by
 have g:cg F.F (jQ F' h' H'):=λb o e=>gY (D.base.s b o e)
 refine⟨R.after (hH.trans D.keep) g rfl (λb o e=>?_) (λa o e=>?_),g,λ_ _ z=>z⟩
 ·rcases w9 e with z | ⟨z,_⟩
  ·exact D.sub b o z
  ·exact z
 ·rcases w9 e with z | ⟨_,n,z⟩
  ·exact(D.fresh a o z).imp_right hH.free
  ·exact .inr (hH.free (D.new n a z).1)
def jA.pure{K:W.Frag}{aa H:Hp}{ab F:Fz}{h:List ak}(C:jA K aa ab F h H):jA K H ⟨F.F,[]⟩ ⟨F.F,[]⟩ [] H :=
 ⟨C.sub,cg.refl H,Gr.refl _,λa o e=>.inl e,λn a e=>by simp at e,rfl,uo,λn c a e=>by simp at e⟩
def G6{K:W.Frag}{H H':Hp}{G F':Fz}{h':List ak}{p q:PV}{v:V}(μ:List Addr)(D:jA K H G F' h' H')(e:nU h' p=some q)(b:bu K F' p v):bu K ⟨jQ F' h' H',μ⟩ q v:=by
 unfold nU at e;split at e
 ·rename_i z;cases e;have e0:F'.μ=[]:=j1 (by rw[<-D.hl,t9.mp z];rfl)
  exact b.mono ⟨λb o e=>gY e,λn a e=>by rw[e0]at e;simp at e⟩
 ·exact D.m5 μ _ _ _ _ e b
def sE{K:W.Frag}{aa H:Hp}{ab F:Fz}{st:bJ}{σ:St}{as:List PV}{vs:List V}(R:Rep K aa ab F st σ H)(hn:(st.h.isEmpty || au as)=true)(b:ax K F as vs)(μ:List Addr):ax K ⟨F.F,μ⟩ as vs:=by
 rcases ug _ _▸hn with z | z
 ·have e0:F.μ=[]:=j1 (by rw[<-R.c.hl,t9.mp z];rfl)
  exact ax.mono (F:=F) (F':=⟨F.F,μ⟩) ⟨cg.refl _,λn a e=>by rw[e0]at e;simp at e⟩ b
 ·exact b.any z
def P6(G:FnOk X.prog X.w X.K X.mg X.base (gP X.prog X.w) k f fd ps (DC X.K n g))(hr:dq k X.A)(hb:fJ X.K fd ps []):Lf X f (kG n g):=by
 rintro aa H ab F st σ af s Q as us vs I R b r ⟨q,e1,e2⟩
 obtain⟨⟨hl,hn⟩,e1⟩:=bO e1;obtain⟨⟨rs,h'⟩,e3,e4⟩:=aI e1;have full:∀b o,H b=some o->H b=some o\/∃n:Nat,(Fz.mk F.F []).μ[n]?=some b:=by grind
 have b3:=sE R hn b [];cases rs with
 | ok p' =>
  obtain⟨p2,e5,e6⟩:=aV e4;subst e6;refine ot G hr hb (λe s' hx=>wz af σ H s e s' I hx) I r ⟨H,⟨F.F,[]⟩,[],as,_,h',R.c.pure,full,b3,hl,e3,λv F' H' D b'=>?_⟩
  obtain⟨R3,g3⟩:=R.back (cg.refl _) D;exact e2 v H' _ R3 g3 (G6 F.μ D e5 b')
 | ex m c =>
  cases e4;refine thn (ot (Q:=λ_ _=>False) G hr hb (λe s' hx=>e2 σ af H s e s' I hx) I r ⟨H,⟨F.F,[]⟩,[],as,_,h',R.c.pure,full,b3,hl,e3,λcls F' H' D hc=>?_⟩) (by rintro v s3 ⟨_,_,_,_,z⟩;exact z.elim)
  obtain⟨R3,g3⟩:=R.back (cg.refl _) D;exact⟨hc,_,R3,g3⟩
def P7{w:List PV->Gx PV}(G:Lf X f w)(hg:Gl X x)(hm:X.mg x=some (.ref f))(hk:W.keepIn X.K (.ref f)=true)(ha:PA X (e::es) (tA X aa ab ts))(FZ:(x==("__debug__":Str))=false)
  (he:starEach (e::es) X.env=(false,eval e X.env)::starEach es X.env) (jL:(backTo pos (starEach es X.env)).any (·.1)=false):PE X (.Call (.Name x p) (e::es) [] pos) (tE X aa ab (bnd ts w)):=by
 rintro af s σ H Q I ⟨F1,st,R,h⟩
 refine fP (ld_glob I hg hm ?_ FZ);exact W.callWith_K I.ok.mod.kin hk (thn (ha pos af s σ H (λvs H2=>∃F2 dG as,Rep X.K aa ab F2 dG σ H2/\ax X.K F2 as vs/\Tx X aa ab (bu X.K) F2 dG (w as) σ Q) I
  ⟨F1,st,R,h.bnd λas vs F2 dG H2 R2 g2 b2 h2=>⟨F2,dG,as,R2,b2,h2⟩⟩) (by rintro us s1 ⟨vs,H2,I2,r,F2,dG,as,R2,b2,z⟩;exact⟨I2.n9,G _ _ _ _ _ _ _ _ _ _ _ _ I2 R2 b2 r z⟩)) he jL
end
end L2.U
namespace L2
open PySem PySem.Spec PyProof.Rows
section
variable {X:Cx} {af:List (Addr×Obj)} {σ:St} {H:Hp} {s:Shared} {a b:Addr} {k:List da} {xs:List (List da×Addr×Value)}
theorem gZ{α β:Type}(f:α->β):∀(l:List α) (i:Nat),(l.eraseIdx i).map f=(l.map f).eraseIdx i
 | [],_=>rfl
 | _::_,0=>rfl
 | x::l,i+1=>fV (f x::·) (gZ f l i)
def Vg(K:W.Frag):V->List V->Hp->VK->Prop:=λx vs H Q=>∃a b xs k j p y,x=.ref a/\vs=[.ref b]/\H a=some (.dT xs)/\dB K H xs/\fX K H b (k.map kV)/\xs[j]?=some (k,p)/\RelV y p.2/\Q y (bM H a (.dT (xs.eraseIdx j)))
def P8{α β:Type}{xs:List (α×β)}{i j:Nat}{k:α}{p q:β}(hn:(xs.map (·.1)).Nodup)(h1:xs[i]?=some (k,p))(h2:xs[j]?=some (k,q)):i=j:=by
 refine(List.getElem?_inj (l:=xs.map (·.1)) ?_ hn).mp ?_
 ·rw[aJ];exact(b6.mp h1).1
 ·rw[bK,bK,h1,h2];rfl
def P9(hu:X.A.units+1150<cLine):J8 X "dict.pop" (Vg X.K):=by
 intro af s σ H x vs v us Q I rx rv h;obtain⟨a,b,xs,k,j,p,y,rfl,rfl,e,hk,eb,hj,ry,q⟩:=h;cases rx;obtain⟨u1,rfl,r1⟩:=rv.one;cases r1;obtain⟨z,hd,dd⟩:=pM I (.inl e) hk;have hT:=dd.typeIs;obtain⟨o,es,ep,h1,h2,h3,h4,h5,h6⟩:=dd;have SO:es[j]?=some (entryOfKey (tupleKind (bE X.prog X.w)) (k,p)):=by rw[entry_at h4,hj];rfl
 have ky:=key_is I eb;have XF:(tupleKind (bE X.prog X.w)).room X.A.in1:=j5 (by lia)
 refine cV PySem.F.slot_dict_pop hT PySem.F.entry_dict_pop ?_ (PySem.F.args_dict_pop_2 _ _);unfold Builtin.«dict.pop» Builtin.Dict.keyAndDefault;refine ae (ae (yI hT ?_));show wpAny _ _ (pure (a,Value.ref b,none)) _ _ s;refine ah ?_;simp only[show(keyPart (Value.ref b)).isSome=false from rfl,ez,cW]
 refine ae (oO h1 h3 (ae (ah ?_)));have hne:es.isEmpty=false:=by
  rw[Array.isEmpty_eq_false_iff]
  rintro rfl
  simp at SO
 rw[hne];simp only[ez,cW];refine ae ?_;unfold Builtin.Dict.takeOut
 try with_reducible refine cD ?_
 refine ae ((tupleKind (bE X.prog X.w)).pyHash XF ky (ae (wpAny_dictFind_heap (s:={s with toks:=s.toks+(tupleKind (bE X.prog X.w)).draws k}) XF ky h1 h3 h4 h5 h6 (λYN=>absurd hj (YN j p)) λj' p' hj'=>?_)))
 cases P8 h6 hj hj';refine ae (oO (s:={s with toks:=s.toks+(tupleKind (bE X.prog X.w)).draws k}) h1 h3 ?_)
 rw[SO];refine ae (wpAny_updateDictKeys (hz:=by rw[size_of_entries h4];exact z) (s:={s with toks:=s.toks+(tupleKind (bE X.prog X.w)).draws k}) h1 h3 (ah ?_))
 simp only[Option.isNone_some,ez,cW];refine ae (mL (ah ⟨_,rfl,y,_,I.write (x:=a) (e:=a) (o:=.dT (xs.eraseIdx j)) (by rw[e];exact True.intro) (.inl rfl) (λc q' hc z=>((ij ..).2 c hc).trans z) ⟨_,fD _ h1 (Obj.isFreed_of_dict (yK h3 _))⟩ ⟨?_,hd,_,_,_,fD _ h1 (Obj.isFreed_of_dict (yK h3 _)),h2.mapDictKeys _,yK h3 _,?_,?_⟩,ry,q⟩))
 ·exact bh (List.length_eraseIdx_le ..) z
 ·rw[gZ,<-h4];obtain⟨l⟩:=es;simp
 ·rw[gZ];exact h6.sublist (List.eraseIdx_sublist ..)
end
end L2
namespace L2.U
open PySem PySem.Spec PyProof.Rows
def Lg:MG:=λc as=>match c.k,as with
 | .iy true ks,[kp]=>(gS true kp).bind λk=>(ks.findIdx? λx=>decide (x=k)).bind λj=>(c.ps[j]?).map λp=>(⟨.iy true (ks.eraseIdx j),c.ps.eraseIdx j⟩,p)
 | _,_=>none
section
variable {X:Cx}
def Lh:wO X.K (Vg X.K) Lg:=by
 intro aa H ab F st σ n c c' a as ws q Q R hc hl ha hg hb k;unfold Lg at hg;split at hg
 ·rename_i ks kp hk;obtain⟨kk,e1,e2⟩:=aI hg;obtain⟨j,e5,e3⟩:=aI e2;obtain⟨p,e6,e4⟩:=aV e3;cases e4;obtain⟨w1,rfl,b1⟩:=cG hb;obtain⟨cc,rfl,MS⟩:=fZ e1 b1;obtain⟨_,vs,h2,h3⟩:=R.c.cell n c a hc ha hl;rw[hk]at h2;obtain⟨xs,g1,g2,g3,g4⟩:=h2;obtain⟨f1,f2,_⟩:=yp.mp e5;have f2:=dv f2;subst g3;rw[aJ]at f1;rw[List.getElem_map]at f2;have hx:xs[j]?=some (kk,xs[j].2):=by rw[b8 f1,<-f2]
  obtain⟨y,hy,by1⟩:=h3.get e6;obtain⟨u,hu,ry⟩:=g4.get hy;rw[bK,b8 f1]at hu;cases hu;refine⟨a,cc,xs,kk,j,xs[j].2,y,rfl,rfl,g1,λz hz=>aK R.sub (g2 z hz),aK R.sub MS,hx,ry,k y F _ (R.put (vs:=vs.eraseIdx j) hc hl ha ⟨xs.eraseIdx j,aq,λz hz=>g2 z (List.mem_of_mem_eraseIdx hz),gZ _ _ _,by rw[gZ];exact g4.eraseIdx j⟩ ?_) (Gr.refl _) ?_⟩
  ·show ax _ _ (c.ps.eraseIdx j) (vs.eraseIdx j);rw[EV,EV];exact(h3.take _).append (h3.drop _)
  ·exact by1
 ·cases hg
end
end L2.U
namespace L2
open PySem PySem.Spec PyProof.Rows
section
variable {X:Cx}
def Vh:V->List V->Hp->VK->Prop:=λx vs H Q=>∃a kvs k y,x=.ref a/\vs=[kV k,y]/\H a=some (.dK kvs)/\Q ((gj kvs k).getD y) H
def Qx:J8 X "dict.get" Vh:=by
 intro af s σ H x xs v us Q I rx rv h;obtain⟨a,kvs,k,y,rfl,rfl,e,h1⟩:=h;cases rx;obtain⟨u1,u2,rfl,r1,r2⟩:=rv.two;obtain⟨z,hd,vs,zQ,dd⟩:=Gg I.hok e;refine call_meetsIn yG dd.typeIs PySem.F.entry_dict_get (PySem.F.args_dict_get_3 _ _ _) (meets_dict_get_default (bE X.prog X.w) a (ny r1) hd u2) ⟨_,dd.mapOf,(gj kvs k).getD y,H,I.tok _,?_,h1⟩;have rk:=zQ.val k;cases hv:gj kvs k<;>cases hw:valueAt vs k<;>rw[hv,hw]at rk
 ·exact r2
 ·exact rk.elim
 ·exact rk.elim
 ·exact rk
def Nk(K:W.Frag):V->List V->Hp->VK->Prop:=λx vs H Q=>∃a b xs k y,x=.ref a/\vs=[.ref b,y]/\H a=some (.dT xs)/\dB K H xs/\fX K H b (k.map kV)/\(atKey xs k=none->Q y H)/\∀p,atKey xs k=some p->∃v,RelV v p.2/\Q v H
def Li(hu:X.A.units+1150<cLine):J8 X "dict.get" (Nk X.K):=by
 intro af s σ H x vs v us Q I rx rv h;obtain⟨a,b,xs,k,y,rfl,rfl,e,hk,eb,h0,h1⟩:=h;cases rx;obtain⟨u1,u2,rfl,r1,r2⟩:=rv.two;cases r1;obtain⟨z,hd,dd⟩:=pM I (.inl e) hk;have hT:=dd.typeIs;have ky:=key_is I eb;have XF:(tupleKind (bE X.prog X.w)).room X.A.in1:=j5 (by lia)
 refine cV yG hT PySem.F.entry_dict_get ?_ (PySem.F.args_dict_get_3 _ _ _);show wpAny _ _ (dictGet a (.ref b) >>= _) _ _ s;refine ae (wpAny_dictGet_heap XF ky dd ?_);cases hf:atKey xs k with
 | some p =>
  obtain⟨v,rv',q⟩:=h1 p hf;exact ah ⟨_,rfl,v,H,I.tok _,rv',q⟩
 | none =>
  show wpAny _ _ (Builtin.Dict.missed a (.ref b) >>= _) _ _ _;exact ae (wpAny_missed_other hd (ah ⟨_,rfl,y,H,I.tok _,r2,h0 hf⟩))
def Nl(K:W.Frag):V->List V->Hp->VK->Prop:=λx vs H Q=>Vh x vs H Q\/Nk K x vs H Q
def Lj(hu:X.A.units+1150<cLine):J8 X "dict.get" (Nl X.K):=by
 intro af s σ H x vs v us Q I rx rv h;rcases h with h | h
 ·exact Qx af s σ H x vs v us Q I rx rv h
 ·exact Li hu af s σ H x vs v us Q I rx rv h
end
end L2
namespace L2.U
open PySem PySem.Spec PyProof.Rows
def ZG(h:List ak)(p:PV)(as:List PV):Option PV:=(jP h p).bind λc=>match c.2.k,as with
 | .iy t ks,[kp,y]=>(gS t kp).bind λk=>if wK k ks=true then iK k ks c.2.ps else some y
 | _,_=>none
def Qy(p:PV)(as:List PV):Gx PV:=hp λh=>ZG h p as
section
variable {X:Cx} {aa H:Hp} {ab F:Fz} {st:bJ} {σ:St}
def Tx.get{Q:VK}(h:Tx X aa ab (bu X.K) F st (Qy p as) σ Q)(R:Rep X.K aa ab F st σ H)(bp:bu X.K F p v)(ba:ax X.K F as ws):Nl X.K v ws H Q:=by
 obtain⟨x,h1,h2⟩:=h.hp;obtain⟨⟨n,c⟩,e1,h3⟩:=aI h1;obtain⟨rfl,hc,hl⟩:=dM e1;obtain⟨a,ha,rfl⟩:=cz.mp bp;split at h3
 ·rename_i t ks kp y hk;obtain⟨kk,e1,e2⟩:=aI h3;obtain⟨w1,w2,rfl,b1,b2⟩:=jB ba;cases t with
  | true =>
   obtain⟨c',rfl,MS⟩:=fZ e1 b1;obtain⟨_,vs,g1,g2⟩:=R.c.cell n c a hc ha hl;rw[hk]at g1;obtain⟨xs,k1,k2,k3,k4⟩:=g1;subst k3;refine .inr ⟨a,c',xs,kk,w2,rfl,rfl,k1,λz hz=>aK R.sub (k2 z hz),aK R.sub MS,λhz=>?_,λq hz=>?_⟩
   ·rw[if_neg (by rw[pY,hz];simp)]at e2
    cases e2;exact h2 _ _ F R (Gr.refl _) b2
   ·rw[if_pos (by rw[pY,hz];rfl)]at e2
    obtain⟨ad,r,w,hw,C7,bw⟩:=om e2 g2 k4;cases bB (hz.symm.trans hw);exact⟨w,C7,h2 _ _ F R (Gr.refl _) bw⟩
  | false =>
  obtain⟨j,rfl,rfl⟩:=gT e1 b1;obtain⟨_,vs,g1,g2⟩:=R.c.cell n c a hc ha hl;rw[hk]at g1;obtain⟨kvs,k1,k2,k3⟩:=g1;rw[<-k3]at g2;rw[<-k2]at e2;refine .inl ⟨a,kvs,j,w2,rfl,rfl,k1,h2 _ _ F R (Gr.refl _) ?_⟩;cases hv:gj kvs j with
  | none =>
   rw[if_neg (by rw[jh,hv];simp)]at e2
   cases e2;exact b2
  | some v =>
   rw[if_pos (by rw[jh,hv];rfl)]at e2
   obtain⟨v',OI,bv⟩:=oj e2 g2;rw[hv]at OI;cases OI;exact bv
 ·cases h3
end
def Vi(T:String):Kd->Bool
 | .lst=>T=="list"
 | .iy _ _=>T=="dict"
 | _=>false
def tyG(T:String)(p:PV):Gx Unit:=hp λh=>(cm h p).bind λq=>if Vi T q.1=true then some ()else none
section
variable {X:Cx} {aa:Hp} {ab:Fz} {e o:Expr} {es:List Expr} {fo fe:Gx PV} {ts:Gx (List PV)} {pos kZ gi:Pos} {T id:String} {name:Str} {r:V->List V->Hp->VK->Prop}
def Rep.tyV{K:W.Frag}{st:bJ}(R:Rep K aa ab F st σ H)(e:cm st.h p=some (k,ps))(ht:Vi T k=true)(b:bu K F p v):L2.tyV K T v H:=by
 obtain⟨a,vs,rfl,h2,h3⟩:=R.at e b
 match k,ht,h2 with
 | .lst,ht,h2=>exact .inl ⟨aO ht,vs,iu.sq h2⟩
 | .iy false ks,ht,⟨kvs,h2,_⟩=>exact .inr (.inr (.inl ⟨aO ht,.inl ⟨kvs,h2⟩⟩))
 | .iy true ks,ht,⟨xs,h2,_⟩=>exact .inr (.inr (.inl ⟨aO ht,.inr ⟨xs,h2⟩⟩))
def qT(T:String)(w:PV->List PV->Gx PV)(fo:Gx PV)(ts:Gx (List PV)):Gx PV:=bnd fo λp=>bnd (tyG T p) λ_=>bnd ts λas=>w p as
def Vj(X:Cx)(r:V->List V->Hp->VK->Prop)(w:PV->List PV->Gx PV):Prop:=∀(aa H:Hp) (ab F:Fz) (st:bJ) (σ:St) (p:PV) (as:List PV) (v:V) (ws:List V) (Q:VK),Tx X aa ab (bu X.K) F st (w p as) σ Q->Rep X.K aa ab F st σ H->bu X.K F p v->ax X.K F as ws->r v ws H Q
def kH(hw:Vj X r w)(h:tE X aa ab (qT T w fo ts) σ H Q):tBM X.K T r (tE X aa ab fo) (tA X aa ab ts) σ H Q:=by
 obtain⟨F,st,R,h⟩:=h;refine⟨F,st,R,h.bnd λp v F1 aM H1 R1 g1 b1 h1=>?_⟩
 obtain⟨u,e,z⟩:=At.hp (At.bnd h1);obtain⟨⟨k,ps⟩,e1,e2⟩:=aI e;obtain⟨hk,_⟩:=aB e2;refine⟨R1.tyV e1 hk b1,F1,aM,R1,Tx.bnd z λas ws F2 dG H2 R2 g2 b2 h2=>hw aa H2 ab F2 dG σ p as v ws Q h2 R2 (b1.mono g2) b2⟩
def Ll(hw:Vj X r w)(h:tE X aa ab (qT T w fo (aP [])) σ H Q):Ui X.K T r (tE X aa ab fo) σ H Q:=by
 obtain⟨F,st,R,h⟩:=h;refine⟨F,st,R,h.bnd λp v F1 aM H1 R1 g1 b1 h1=>?_⟩
 obtain⟨u,e,z⟩:=At.hp (At.bnd h1);obtain⟨⟨k,ps⟩,e1,e2⟩:=aI e;obtain⟨hk,_⟩:=aB e2;exact⟨R1.tyV e1 hk b1,hw aa H1 ab F1 aM σ p [] v [] Q (At.aP (At.bnd z)) R1 b1 .nil⟩
def qa(hg:wO X.K r g):Vj X r (gU g):=λ_ _ _ _ _ _ _ _ _ _ _ h R bp ba=>Tx.mut hg h R bp ba
def Qz:Vj X (PJ X.K) zS:=λ_ _ _ _ _ _ _ _ _ _ _ h R bp ba=>Tx.ext h R bp ba
def xb(m:Str):Option (String×(PV->List PV->Gx PV)) :=
 if m==("append":Str)then some ("list",gU (fm kF))
 else if m==("extend":Str)then some ("list",zS)
 else if m==("insert":Str)then some ("list",gU (fm KQ))
 else if m==("setdefault":Str)then some ("dict",gU KS)
 else if m==("pop":Str)then some ("dict",gU Lg)
 else if m==("get":Str)then some ("dict",Qy)
 else none
def zZ(m:Str):Option (String×(PV->List PV->Gx PV)) :=
 if m==("reverse":Str)then some ("list",gU (fm KO))
 else if m==("pop":Str)then none
 else if m==("clear":Str)then none
 else none
def ZH(hu:X.A.units+1150<cLine)(ht:xb name=some (T,w))(ho:PE X o (tE X aa ab fo))(ha:PA X (e::es) (tA X aa ab ts))(gq:attributeBase o name X.env (eval o X.env)=eval o X.env)
  (qZ:((backTo gi (starEach (e::es) X.env)).all (λx=>!x.1)&&(backToKw gi (keywordEach [] X.env)).all (λx=>x.1.isSome)&&decide ((e::es).length+([]:List Keyword).length+(if([]:List Keyword).isEmpty then 0 else 1)<30))=true)
  (fK:(kZ.endLine==gi.line)=true) (mQ:starEach (e::es) X.env=(false,eval e X.env)::starEach es X.env) (jL:(backTo gi (starEach es X.env)).any (·.1)=false):PE X (.Call (.Attribute o name kZ) (e::es) [] gi) (tE X aa ab (qT T w fo ts)):=by
 unfold xb at ht;split at ht
 ·rename_i hx;cases ht;have hx:=aO hx;subst hx;exact(pH oA PySem.F.slot_list_append PySem.F.type_list_append C8 ho ha gq qZ fK mQ jL).imp λ_ _ _ h=>kH (qa KN) h
 ·split at ht
  ·rename_i hx;cases ht;have hx:=aO hx;subst hx;exact(pH oA PySem.F.slot_list_extend PySem.F.type_list_extend PK ho ha gq qZ fK mQ jL).imp λ_ _ _ h=>kH Qz h
  ·split at ht
   ·rename_i hx;cases ht;have hx:=aO hx;subst hx;exact(pH oA PySem.F.slot_list_insert PySem.F.type_list_insert Ds ho ha gq qZ fK mQ jL).imp λ_ _ _ h=>kH (qa KR) h
   ·split at ht
    ·rename_i hx;cases ht;have hx:=aO hx;subst hx;exact(pH yB EW PySem.F.type_dict_setdefault PF ho ha gq qZ fK mQ jL).imp λ_ _ _ h=>kH (qa KU) h
    ·split at ht
     ·rename_i hx;cases ht;have hx:=aO hx;subst hx;exact(pH yB PySem.F.slot_dict_pop PySem.F.type_dict_pop (P9 hu) ho ha gq qZ fK mQ jL).imp λ_ _ _ h=>kH (qa Lh) h
     ·split at ht
      ·rename_i hx;cases ht;have hx:=aO hx;subst hx;exact(pH yB yG PySem.F.type_dict_get (Lj hu) ho ha gq qZ fK mQ jL).imp λ_ _ _ h=>kH (λ_ _ _ _ _ _ _ _ _ _ _ h R bp ba=>Tx.get h R bp ba) h
      ·cases ht
def Vk(ht:zZ name=some (T,w))(ho:PE X o (tE X aa ab fo))(gq:attributeBase o name X.env (eval o X.env)=eval o X.env)(fK:(kZ.endLine==gi.line)=true) :
  PE X (.Call (.Attribute o name kZ) [] [] gi) (tE X aa ab (qT T w fo (aP []))):=by
 unfold zZ at ht;split at ht
 ·rename_i hx;cases ht;have hx:=aO hx;subst hx;exact(Gb oA PySem.F.slot_list_reverse PySem.F.type_list_reverse zH ho gq fK).imp λ_ _ _ h=>Ll (qa KP) h
 ·grind
def DE(po pi pv:PV):bJ->Option bJ:=λst=>(jP st.h po).bind λc=>match c.2.k with
 | .lst=>(mX pi).bind λi=>(EH c.2.ps.length i).map λj=>⟨st.ρ,st.h.set c.1 ⟨.lst,c.2.ps.set j pv⟩⟩
 | .iy t ks=>(gS t pi).bind λk=>if ks.length<ib then some ⟨st.ρ,st.h.set c.1 (zP t k pv ks c.2.ps)⟩else none
 | _=>none
def ZI(K:W.Frag):FF:=λo i v H Q=>∃aa ab F st τ po pi pv bI,DE po pi pv st=some bI/\Rep K aa ab F st τ H/\bu K F po o/\bu K F pi i/\bu K F pv v/\∀H' F',Rep K aa ab F' bI τ H'->Gr F F'->Q H'
def Vl(hu:X.A.units+1150<cLine):FG X (ZI X.K):=by
 rintro af s σ H o i v ov iv u Q I ro ri rv ⟨aa,ab,F,st,τ,po,pi,pv,bI,e,R,bo,bi,bv,k⟩
 obtain⟨⟨n,c⟩,e1,e0⟩:=aI e;clear e;have e:=e0;clear e0;obtain⟨rfl,hc,hl⟩:=dM e1;obtain⟨a,ha,rfl⟩:=cz.mp bo;obtain⟨_,vs,h2,h3⟩:=R.c.cell n c a hc ha hl;split at e
 ·rename_i hk;obtain⟨j,e2,e⟩:=aI e;obtain⟨m,e3,rfl⟩:=aV e;rw[fu e2]at bi;have hk:=hk;rw[hk]at h2;refine F9 af s σ H _ _ v ov iv u Q I ro ri rv ⟨a,vs,j,m,rfl,aD.mp bi,h2,by rw[<-h3.length];exact e3,k _ F (R.put hc hl ha aq (h3.set bv m)) (Gr.refl _)⟩
 ·rename_i t ks hk;have hk:=hk;obtain⟨kk,e2,e⟩:=aI e;obtain⟨hz,rfl⟩:=aB e;rw[hk]at h2;cases t with
  | false =>
   obtain⟨kvs,g1,g2,g3⟩:=h2;obtain⟨j,rfl,rfl⟩:=gT e2 bi;rw[<-g3]at h3;obtain⟨rg,ym,p1,p2,p3⟩:=GB (j:=j) bv h3;have dY:kvs.length<sizeLine:=by
    have:ks.length=kvs.length:=by grind
    exact bR (by grind) (dC (az _))
   rw[g2]at p1;refine PL af s σ H _ _ v ov iv u Q I ro ri rv ⟨a,kvs,j,rfl,rfl,g1,dY,k _ F ?_ (Gr.refl _)⟩;simp only[p1];exact R.put hc hl ha ⟨_,aq,p2,rfl⟩ p3
  | true =>
   obtain⟨xs,g1,g2,g3,g4⟩:=h2;obtain⟨cc,rfl,MS⟩:=fZ e2 bi;refine PN (by lia) af s σ H _ _ v ov iv u Q I ro ri rv ⟨a,cc,xs,kk,rfl,rfl,g1,λz hz=>aK R.sub (g2 z hz),aK R.sub MS,(by
    have:ks.length=xs.length:=by grind
    exact bR (by grind) (dC (az _))),λr hr=>?_⟩
   obtain⟨rg,ym,uN,p1,p2,p3,p4,p5⟩:=PC bv hr MS g2 h3 g4;rw[g3]at p1;refine k _ F ?_ (Gr.refl _);simp only[p1];exact R.put hc hl ha ⟨_,aq,p3,p2,p5⟩ p4
 ·cases e
def G7(fv fo fi:Gx PV):Gx dn:=bnd fv λv=>bnd fo λo=>bnd fi λi=>stp (DE o i v)
def Vm(hu:X.A.units+1150<cLine)(he:PE X e (tE X aa ab fv))(ho:PE X o (tE X aa ab fo))(hi:PE X k (tE X aa ab fi))
  (ha:∀v,assign (.Subscript o k Du) X.env v=(do
   let ov <-holding [v] (eval o X.env)
   let iv <-holding [v,ov] (eval k X.env)
   standAt Du
   holding [v,ov,iv] (setItem ov iv v)
   release [v,ov,iv] []))
  (hs:swapsWithSole [.Subscript o k Du] e pos.line X.env=pure false) (hw:swappedStores [.Subscript o k Du] e X.env=pure none):PS X (.Assign [.Subscript o k Du] e pos) (tS X aa ab (G7 fv fo fi)) :=
 (FI he (Ot ho hi (Vl hu) ha) hs hw rfl).imp λD σ H ⟨F,st,R,h⟩=>⟨F,st,R,h.bnd λpv v F1 aM H1 R1 g1 b1 h1=>⟨F1,aM,R1,h1.bnd λpo o F2 dG H2 R2 g2 b2 h2=>⟨F2,dG,R2,h2.bnd λpi i F3 Jh H3 R3 g3 b3 h3=>by
  obtain⟨bI,e,z⟩:=h3.stp;exact⟨aa,ab,F3,Jh,σ,po,pi,pv,bI,e,R3,b2.mono g3,b3,b1.mono (g2.trans g3),λH' F' R' g'=>z F' σ H' R' g'⟩⟩⟩⟩
def QA(t:Bool):Gx PV:=lr ⟨.iy t [],[]⟩
def Vn(t:Bool):PE X (.Dict [] [] pos) (tE X aa ab (QA t)):=by
 cases t with
 | false=>exact GF.imp (by rintro σ H Q ⟨F,st,R,h⟩ p hp;exact Tx.lr h R hp ⟨[],aq,rfl,rfl⟩ .nil)
 | true=>exact Kf.imp (by rintro σ H Q ⟨F,st,R,h⟩ p hp;exact Tx.lr h R hp ⟨[],aq,(λ_ z=>nomatch z),rfl,.nil⟩ .nil)
end
def BK(K:W.Frag)(mg:Str->Option Value)(P:Params)(T:Str)(rows:List (Str×Str)):Prop :=
 ∃a es n,mg T=some (.ref a)/\K.lookup a=some ⟨.type "dict",none,.dict es n,#[]⟩/\W.KeysLit P es.toList/\∀k fn,rows.lookup k=some fn->∃f,W.nsIn K a k=some (some (.ref f))/\mg fn=some (.ref f)/\W.nsIn K mainGlobals fn=some (some (.ref f))
def u5(K:W.Frag)(mg:Str->Option Value)(P:Params)(T:Str)(rows:List (Str×PV)):Prop :=
 ∃a es n,mg T=some (.ref a)/\K.lookup a=some ⟨.type "dict",none,.dict es n,#[]⟩/\W.KeysLit P es.toList/\∀k p,rows.lookup k=some p->∃u v,W.nsIn K a k=some (some u)/\RelV v u/\∀F,bu K F p v
def ZJ(K:W.Frag)(a:Addr):R2:=λx y H Q=>∃k u v,x=.ref a/\y=.str k/\W.nsIn K a k=some (some u)/\RelV v u/\Q v H
def Vo:PV->Option Str | .str x=>some x | _=>none
def sF(h:Vo p=some i):p=.str i:=by
 cases p<;>first | (cases h;rfl) | cases h
section
variable {X:Cx} {aa:Hp} {ab:Fz} {e ke:Expr} {es:List Expr} {fk fe ff:Gx PV} {ts:Gx (List PV)} {pos p sp:Pos} {T:Str}
def G8{es:Array DictEntry}(hl:X.K.lookup a=some ⟨.type "dict",none,.dict es n,#[]⟩)(hk:W.KeysLit X.w.params es.toList):OR X (ZJ X.K a):=by
 rintro value slice af s σ H x y v u Q I rx ry ⟨k,u',v',ex,ey,e,rv,q⟩ hs
 subst ex ey;cases rx;obtain⟨t,rfl⟩:=ry;have hm:=W.mapOf_K (prog:=X.prog) I.n9 hl hk;exact mM hm.typeIs slot_dict_getitem.lookup (wpAny_getItem_of (strKind_is X.prog X.w k t) hm (W.find_K hl e) ⟨v',H,I.tok _,rv,q⟩) hs
def rj(JX:Str->Option PV)(fk:Gx PV):Gx PV:=bnd fk λq=>gI ((Vo q).bind JX)
def Vp(ht:u5 X.K X.mg X.w.params T rows)(hg:Gl X T)(hk:PE X ke (tE X aa ab fk))(hs:jz ke)(FZ:(T==("__debug__":Str))=false):PE X (.Subscript (.Name T p) ke sp) (tE X aa ab (rj (λk=>rows.lookup k) fk)):=by
 obtain⟨a,SA,n,t1,t2,t3,t4⟩:=ht;refine(Bj (G8 t2 t3) (uE (v:=.ref a) hg t1 rfl FZ) hk hs).imp λσ H Q ⟨F,st,R,h⟩=>?_
 refine⟨F,st,R,h.bnd λpk v F1 aM H1 R1 g1 b1 h1=>?_⟩
 obtain⟨q,e1,z⟩:=h1.gI;obtain⟨k,e2,e3⟩:=aI e1;rw[sF e2]at b1;obtain⟨u,w,n1,n2,n3⟩:=t4 k q e3;exact⟨k,u,w,rfl,b7.mp b1,n1,n2,z _ H1 F1 R1 (Gr.refl _) (n3 F1)⟩
def Vq(ht:BK X.K X.mg X.w.params T rows)(hg:Gl X T)(hk:PE X ke (tE X aa ab fk))(hs:jz ke)(FZ:(T==("__debug__":Str))=false):PE X (.Subscript (.Name T p) ke sp) (tE X aa ab (rj (λk=>(rows.lookup k).map .fn) fk)):=by
 obtain⟨a,SA,n,t1,t2,t3,t4⟩:=ht;refine(Bj (G8 t2 t3) (uE (v:=.ref a) hg t1 rfl FZ) hk hs).imp λσ H Q ⟨F,st,R,h⟩=>?_
 refine⟨F,st,R,h.bnd λpk v F1 aM H1 R1 g1 b1 h1=>?_⟩
 obtain⟨q,e1,z⟩:=h1.gI;obtain⟨k,e2,e3⟩:=aI e1;obtain⟨fn,e4,rfl⟩:=aV e3;rw[sF e2]at b1;obtain⟨f,n1,n2,n3⟩:=t4 k fn e4;exact⟨k,.ref f,.ref f,rfl,b7.mp b1,n1,rfl,z _ H1 F1 R1 (Gr.refl _) (mV.mpr ⟨f,rfl,n3⟩)⟩
def G9(X:Cx)(fns:List (Str×Nat))(call:Str->m4):Prop:=∀x n,fns.lookup x=some n->∃k f fd ps,FnOk X.prog X.w X.K X.mg X.base (gP X.prog X.w) k f fd ps (DC X.K n (call x))/\dq k X.A/\X.mg x=some (.ref f)/\W.keepIn X.K (.ref f)=true/\fJ X.K fd ps []
def XG:PV->Option Str | .fn x=>some x | _=>none
def xc{p:PV}(h:XG p=some i):p=.fn i:=by
 cases p<;>first | (cases h;rfl) | cases h
def iN(fns:List (Str×Nat))(call:Str->m4)(ff:Gx PV)(ts:Gx (List PV)):Gx PV:=bnd ff λq=>bnd (gI ((XG q).bind λx=>(fns.lookup x).map λn=>(x,n))) λx=>G5 x.2 (call x.1) ts
def u6(v k:Expr)(sp:Pos)(args:List Expr)(pos:Pos)(env:Env):eval (.Call (.Subscript v k sp) args [] pos) env=(do callWith pos (<-eval (.Subscript v k sp) env) [] (backTo pos (starEach args env)) (backToKw pos (keywordEach [] env))):=rfl
def Lm{call:Str->m4}(Ob:G9 X fns call)(Df:∀x a,W.nsIn X.K mainGlobals x=some (some (.ref a))->X.mg x=some (.ref a))(hf:PE X (.Subscript v k sp) (tE X aa ab ff))(ha:PA X (e::es) (tA X aa ab ts))
  (he:starEach (e::es) X.env=(false,eval e X.env)::starEach es X.env) (jL:(backTo pos (starEach es X.env)).any (·.1)=false):PE X (.Call (.Subscript v k sp) (e::es) [] pos) (tE X aa ab (iN fns call ff ts)):=by
 rintro af s σ H Q I ⟨F,st,R,h⟩
 rw[u6];refine ae (thn (hf af s σ H (λv H1=>∃F1 aM q,Rep X.K aa ab F1 aM σ H1/\bu X.K F1 q v/\Tx X aa ab (bu X.K) F1 aM (bnd (gI ((XG q).bind λx=>(fns.lookup x).map λn=>(x,n))) λx=>G5 x.2 (call x.1) ts) σ Q) I
  ⟨F,st,R,h.bnd λq v F1 aM H1 R1 g1 b1 h1=>⟨F1,aM,q,R1,b1,h1⟩⟩) λu s1 ⟨x,H1,I1,rx,F1,aM,q,R1,b1,h1⟩=>?_)
 obtain⟨⟨y,n⟩,e1,z⟩:=At.gI (At.bnd h1);obtain⟨y',e2,e3⟩:=aI e1;obtain⟨n',e4,e5⟩:=aV e3;simp only[kl]at e5;obtain⟨rfl,rfl⟩:=e5;rw[xc e2]at b1;obtain⟨a,rfl,Pm⟩:=mV.mp b1;obtain⟨j,f',fd,ps,G,hr,m1,m2,m3⟩:=Ob _ _ e4;have:=bB ((Df _ a Pm).symm.trans m1);cases this;cases rx;exact W.callWith_K I.ok.mod.kin m2 (thn (ha pos af s1 σ H1 (λvs H2=>∃F2 dG as,Rep X.K aa ab F2 dG σ H2/\ax X.K F2 as vs/\Tx X aa ab (bu X.K) F2 dG (kG _ _ as) σ Q) I1
  ⟨F1,aM,R1,Tx.bnd z λas vs F2 dG H2 R2 g2 b2 h2=>⟨F2,dG,as,R2,b2,h2⟩⟩) (by rintro us s2 ⟨vs,H2,I2,r,F2,dG,as,R2,b2,z⟩;exact⟨I2.n9,P6 G hr m3 _ _ _ _ _ _ _ _ _ _ _ _ I2 R2 b2 r z⟩)) he jL
def Ln{call:Str->m4}(Ob:G9 X fns call)(Df:∀x a,W.nsIn X.K mainGlobals x=some (some (.ref a))->X.mg x=some (.ref a))(hf:PE X (.Name y p) (tE X aa ab ff))(ha:PA X (e::es) (tA X aa ab ts))
  (he:starEach (e::es) X.env=(false,eval e X.env)::starEach es X.env) (jL:(backTo pos (starEach es X.env)).any (·.1)=false):PE X (.Call (.Name y p) (e::es) [] pos) (tE X aa ab (iN fns call ff ts)):=by
 rintro af s σ H Q I ⟨F,st,R,h⟩
 refine fP (thn (hf af s σ H (λv H1=>∃F1 aM q,Rep X.K aa ab F1 aM σ H1/\bu X.K F1 q v/\Tx X aa ab (bu X.K) F1 aM (bnd (gI ((XG q).bind λx=>(fns.lookup x).map λn=>(x,n))) λx=>G5 x.2 (call x.1) ts) σ Q) I
  ⟨F,st,R,h.bnd λq v F1 aM H1 R1 g1 b1 h1=>⟨F1,aM,q,R1,b1,h1⟩⟩) λu s1 ⟨x,H1,I1,rx,F1,aM,q,R1,b1,h1⟩=>?_)
 obtain⟨⟨y1,n⟩,e1,z⟩:=At.gI (At.bnd h1);obtain⟨y',e2,e3⟩:=aI e1;obtain⟨n',e4,e5⟩:=aV e3;simp only[kl]at e5;obtain⟨rfl,rfl⟩:=e5;rw[xc e2]at b1;obtain⟨a,rfl,Pm⟩:=mV.mp b1;obtain⟨j,f',fd,ps,G,hr,m1,m2,m3⟩:=Ob _ _ e4;have:=bB ((Df _ a Pm).symm.trans m1);cases this;cases rx;exact W.callWith_K I.ok.mod.kin m2 (thn (ha pos af s1 σ H1 (λvs H2=>∃F2 dG as,Rep X.K aa ab F2 dG σ H2/\ax X.K F2 as vs/\Tx X aa ab (bu X.K) F2 dG (kG _ _ as) σ Q) I1
  ⟨F1,aM,R1,Tx.bnd z λas vs F2 dG H2 R2 g2 b2 h2=>⟨F2,dG,as,R2,b2,h2⟩⟩) (by rintro us s2 ⟨vs,H2,I2,r,F2,dG,as,R2,b2,z⟩;exact⟨I2.n9,P6 G hr m3 _ _ _ _ _ _ _ _ _ _ _ _ I2 R2 b2 r z⟩)) he jL
def BL(f:Str):List Str->List PV->Option PV
 | g::ns,p::ps=>if g=f then some p else BL f ns ps
 | _,_=>none
def g7(f:Str)(fe:Gx PV):Gx PV:=bnd fe λp=>hp λh=>match cm h p with
 | some (.ins _ ns,ps)=>BL f ns ps
 | _=>none
theorem xf{K:W.Frag}:∀{fs:List (Str×V)} {ps:List PV} {p:PV},BL f (fs.map (·.1)) ps=some p->ax K F ps (fs.map (·.2))->f∈fs.map (·.1)/\∃v,fs.lookup f=some v/\bu K F p v
 | [],_,_,h,_=>by cases h
 | (g,v)::r,[],_,h,_=>by cases h
 | (g,v)::r,q::ps,p,h,b=>by
  obtain⟨v',w,e,b1,b2⟩:=b.bU;cases e;have h:(if g=f then some q else BL f (r.map (·.1)) ps)=some p:=h
  by_cases hg:g=f
  ·grind
  ·rw[if_neg hg]at h;obtain⟨h1,v2,h2,h3⟩:=xf h b2;have hgf:(f==g)=false:=by grind
   exact⟨bF _ h1,v2,by grind,h3⟩
def Vr(he:PE X e (tE X aa ab fe))(hb:attributeBase e f X.env (eval e X.env)=eval e X.env):PE X (.Attribute e f pos) (tE X aa ab (g7 f fe)):=(OK he hb).imp λσ H Q ⟨F,st,R,h⟩=>⟨F,st,R,h.bnd λq v F1 aM H1 R1 g1 b1 h1=>by
 obtain⟨o,e,z⟩:=h1.hp;split at e
 ·rename_i C ns ps hd;obtain⟨a,vs,rfl,⟨Ca,dx,fs,h2,h3,h4,h5,h6,h7⟩,h8⟩:=R1.at hd b1;subst h6 h7;obtain⟨hm,w,hl,bw⟩:=xf e h8;exact⟨a,Ca,dx,fs,w,rfl,h5,h3,h4 f hm,hl,z _ H1 F1 R1 (Gr.refl _) bw⟩
 ·cases e⟩
def nV(f:Str)(q:PV):List Str->List PV->List Str×List PV
 | g::ns,p::ps=>if g=f then(g::ns,q::ps)else(g::(nV f q ns ps).1,p::(nV f q ns ps).2)
 | _,_=>([f],[q])
theorem BM{K:W.Frag}(bq:bu K F q v):∀{fs:List (Str×V)} {ps:List PV},ax K F ps (fs.map (·.2))->(gN f v fs).map (·.1)=(nV f q (fs.map (·.1)) ps).1/\ax K F (nV f q (fs.map (·.1)) ps).2 ((gN f v fs).map (·.2))/\∀g∈(nV f q (fs.map (·.1)) ps).1,g=f\/g∈fs.map (·.1)
 | [],ps,b=>by
  have e:=j1 b.length;subst e;exact⟨rfl,.cons bq .nil,λg hg=>.inl (by simpa[nV]using hg)⟩
 | (g,w)::r,[],b=>by have:=b.length;simp at this
 | (g,w)::r,p::ps,b=>by
  obtain⟨v',w',e,b1,b2⟩:=b.bU;cases e;obtain⟨h1,h2,h3⟩:=BM bq b2;by_cases hg:g=f
  ·subst hg;have e1:gN g v ((g,w)::r)=(g,v)::r:=if_pos rfl;have e2:nV g q (((g,w)::r).map (·.1)) (p::ps)=(g::r.map (·.1),q::ps):=if_pos rfl;rw[e1,e2];exact⟨rfl,.cons bq b2,λy hy=>.inr hy⟩
  ·have e1:gN f v ((g,w)::r)=(g,w)::gN f v r:=if_neg hg;have e2:nV f q (((g,w)::r).map (·.1)) (p::ps)=(g::(nV f q (r.map (·.1)) ps).1,p::(nV f q (r.map (·.1)) ps).2):=if_neg hg;rw[e1,e2];refine⟨by rw[bz,h1],.cons b1 h2,λy hy=>?_⟩
   rcases aF.mp hy with rfl | hy
   ·grind
   ·grind
def Ha(K:W.Frag)(cls:List Str)(flds:List Str):Prop:=∀C,cls.contains C=true->∃Ca,ClsAt K C (.ref Ca)/\CF K Ca/\∀f,flds.contains f=true->iw K Ca f
def QB(cls flds:List Str)(f:Str)(po pv:PV):bJ->Option bJ:=λst=>(jP st.h po).bind λc=>match c.2.k with
 | .ins C ns=>if(cls.contains C&&flds.contains f&&decide (ns.length<900))=true then some ⟨st.ρ,st.h.set c.1 ⟨.ins C (nV f pv ns c.2.ps).1,(nV f pv ns c.2.ps).2⟩⟩else none
 | _=>none
def u7(cls flds:List Str)(f:Str)(fv fo:Gx PV):Gx dn:=bnd fv λv=>bnd fo λo=>stp (QB cls flds f o v)
def Vs{cls flds:List Str}(hc:Ha X.K cls flds)(ho:PE X o (tE X aa ab fo))(he:PE X e (tE X aa ab fv))(hs:swapsWith e (some (.Attribute o f qX)) pos.line X.env=pure false):PS X (.Assign [.Attribute o f qX] e pos) (tS X aa ab (u7 cls flds f fv fo)) :=
 (OL ho he hs).imp λD σ H ⟨F,st,R,h⟩=>⟨F,st,R,h.bnd λpv v F1 aM H1 R1 g1 b1 h1=>⟨F1,aM,R1,h1.bnd λpo o F2 dG H2 R2 g2 b2 h2=>by
  obtain⟨bI,e,z⟩:=h2.stp;obtain⟨⟨n,c⟩,e1,e0⟩:=aI e;clear e;have e:=e0;clear e0;obtain⟨rfl,zl,hl⟩:=dM e1;obtain⟨a,ha,rfl⟩:=cz.mp b2;obtain⟨_,vs,g2',g3⟩:=R2.c.cell n c a zl ha hl;split at e
  ·rename_i C ns hk;have hk:=hk;obtain⟨hq,rfl⟩:=aB e;rw[aE,aE]at hq;rw[hk]at g2';obtain⟨Ca,dx,fs,k1,k2,k3,k4,rfl,rfl⟩:=g2';obtain⟨Cb,m1,m2,m3⟩:=hc C hq.1.1;have eC:Ca=Cb:=by
    have:=k1.symm.trans m1;cases this;rfl
   subst eC;have dY:=dv hq.2;rw[aJ]at dY;obtain⟨p1,p2,p3⟩:=BM (b1.mono g2) g3;refine⟨a,Ca,dx,fs,rfl,k4,k2,m3 f hq.1.2,(Nat.le_add_left_of_le ‹_›),z F2 σ _ (R2.put zl hl ha ⟨Ca,dx,_,k1,k2,λg hg=>?_,aq,p1,rfl⟩ p2) (Gr.refl _)⟩
   rcases p3 g hg with rfl | hg
   ·exact m3 _ hq.1.2
   ·exact k3 g hg
  ·cases e⟩⟩
def ZK(st:bJ):Rs PV×List ak->Option (Rs PV×bJ)
 | (.ok .bL,h)=>(m5 h 4 (.ref 0)).map λq=>(.ok q,st)
 | _=>none
def SQ(C:Str)(n:Nat)(g:m4)(ts:Gx (List PV)):Gx PV:=bnd ts λas st=>if as.length+1=n/\(st.h.isEmpty || au as)=true then(g (.ref 0::as) [⟨.ins C [],[]⟩]).bind (ZK st)else none
section
variable {C:Str} {Ca f:Addr} {fd:FuncData} {ps:List Str} {g:m4} {k n:Nat}
def Lo(hC:ClsAt X.K C (.ref Ca))(c:CF X.K Ca)(h:tE X aa ab (SQ C n g ts) σ H Q):MX Ca (DC X.K n g) [] E0 (tA X aa ab ts) σ H Q:=by
 obtain⟨F,st,R,h⟩:=h;refine⟨F,st,R,h.bnd λas vs F1 aM H1 R1 g1 b1 h1 y dx hy hdx hne=>?_⟩
 obtain⟨q,e1,e2⟩:=h1;obtain⟨⟨hl,hn⟩,e1⟩:=bO e1;obtain⟨r,e3,e4⟩:=aI e1;have ZL:bM H1 dx (.own y) y=none:=by rw[aH hne.symm];exact hy
 have up:cg H1 (bM H1 dx (.own y)):=dW hdx;have b2:ax X.K ⟨F1.F,[y]⟩ (.ref 0::as) (.ref y::vs):=.cons (cz.mpr ⟨y,rfl,rfl⟩) (sE R1 hn b1 [y]);have C0:jA X.K (bM H1 dx (.own y)) ⟨F1.F,[y]⟩ ⟨F1.F,[y]⟩ [⟨.ins C [],[]⟩] (bM (bM H1 dx (.own y)) y (.ins Ca dx [])):=by
  refine⟨λb o e=>dW ZL _ _ (up _ _ (R1.sub _ _ e)),dW ZL,Gr.refl _,λa o e=>.inl e,λm a e=>?_,rfl,by simp,λm d a e1 e2 e3=>?_⟩
  ·cases m with
   | zero=>cases e;exact⟨ZL,_,aq⟩
   | succ m=>simp at e
  ·cases m with
   | zero=>cases e1;cases e2;exact⟨R1.sub.free hy,[],⟨Ca,dx,[],hC,c,(λ_ z=>nomatch z),aq,rfl,rfl⟩,.nil⟩
   | succ m=>simp at e1
 match r,e4 with
 | (.ok .bL,h'),e4 =>
  obtain⟨p,e5,rfl⟩:=aV e4;refine⟨_,_,_,.ref 0::as,_,h',C0,λb o e=>?_,by grind,by grind,e3,λv F' H' D b'=>⟨cR.mp b',?_⟩⟩
  ·by_cases hb:b=y
   ·subst hb;exact .inr ⟨0,rfl⟩
   ·rw[aH hb]at e;exact .inl e
  ·obtain⟨R3,g3⟩:=R1.back up D;exact e2 _ H' _ R3 g3 (D.m5 F1.μ _ _ _ _ e5 (cz.mpr ⟨y,D.base.m 0 y rfl,rfl⟩))
end
end
def Vt(X:Cx)(aa:Hp)(ab:Fz)(fa:Addr)(ω:PV->Gx PV):Prop:=∀(H:Hp) (F:Fz) (st:bJ) (σ:St) (af:List (Addr×Obj)) (s:Shared) (Q:VK) (p:PV) (u:Value) (v:V),Inv X af σ H s->Rep X.K aa ab F st σ H->bu X.K F p v->RelV v u->Tx X aa ab (bu X.K) F st (ω p) σ Q ->
 wpAny (model X.prog X.w) X.A (call (.ref fa) [u]) (EP X af σ Q) X.xe s
structure BN (X:Cx) (aa:Hp) (ab:Fz) (n:Nat) (ω:PV->Gx PV):Prop where
 ex:∃fa o u ZM,ab.μ[n]?=some fa/\X.aa fa=some (.nk o u)/\o.data=.func ZM/\Vt X aa ab fa ω
def ZN(ρ:List (Option PV)):Rs PV×bJ->Option (Rs PV×bJ)
 | (.ok p,st)=>some (.ok p,⟨ρ,st.h⟩)
 | _=>none
def Vu(fb:Gx PV)(Vv:List (Option PV)):PV->Gx PV:=λp st=>(fb ⟨some p::Vv,st.h⟩).bind (ZN st.ρ)
def QC(Zg:X.ex=[])(hL:Gh X.aa fa qual pq9 body scope cl)(hC:kC X.s₀.heap X.aa scope cl N τ)(hF:Lc X.K qb Vv τ)(ZO:Gr qb ab)(hr:dq (k+1) X.A)
  (hb:∀(pm cC EI u:Value),bindArgs (W.kla_fn "<lambda>" qual pq9 body scope cl pm cC EI) ⟨[u],[]⟩=pure [(x,u)]) (hk:scope.kind=.function) (OZ:scope.isCoroutine=false) (O0:scope.isGenerator=false) (hx:scope.names.lookup x=some .local) (nc:∀y∈scope.names,y.2≠.cell)
  (hbody:∀(cC:Value) (s:Shared) (H aa:Hp) (ab:Fz),dq k (X.A.deeper (W.envX qual scope s.heap.objs.size fa cC cl))->PE (M0 (gP X.prog X.w) X.prog X.w X.K X.mg X.base (x::N) qual scope fa cC cl X.A X.stack s H E0) body (tE (M0 (gP X.prog X.w) X.prog X.w X.K X.mg X.base (x::N) qual scope fa cC cl X.A X.stack s H E0) aa ab fb)):Vt X aa ab fa (Vu fb Vv):=by
 rintro H F st σ af s Q p u v I R b ru ⟨q,e1,e2⟩
 obtain⟨r,e3,e4⟩:=aI e1;obtain⟨o,u',pm,cC,EI,c,oc,uc,vs,t,k1,k2,rfl,k3,k4,k5⟩:=hL;have g1:=(I.hok fa _ (I.base.frzs fa o u' k1)).1;have g2:=(I.hok c _ (I.base.frzs c oc uc k3)).1;have C:=hC.un (by have:=I.base;rw[Zg]at this;exact this)
 match r,e4 with
 | (.ok p',bI),e4 =>
  cases e4;have L:Lc X.K F (some p::Vv) (some v::τ):=⟨λi y e=>by
   cases i with
   | zero=>cases e;exact⟨v,rfl,b⟩
   | succ i =>
    obtain⟨z,h1,h2⟩:=hF.av i y (by grind)
    exact⟨z,by grind,h2.mono (ZO.trans R.c.base)⟩,by simp[hF.len]⟩
  obtain⟨C0,_⟩:=R.c.enter;refine o9 (jb (Kh g1 k2 ⟨c,oc,vs,t,rfl,g2,k4,k5⟩ hr I.J2 (hb _ _ _ _) ru hk OZ O0 hx nc C ⟨_,hbody (.ref c) s H _ F (hr.deeper _),F,⟨some p::Vv,st.h⟩,⟨C0,L⟩,_,e3,λv' H' F' R' g' b'=>e2 v' H' F' ⟨R.c.leave R'.c,R.l.mono g'⟩ g' b'⟩) λr s' hq=>?_)
  cases r with
  | error e=>exact wz af σ H s e s' I hq
  | ok fl =>
   cases fl with
   | ret u=>exact I.after hq
   | next=>exact False.elim hq
   | brk=>exact False.elim hq
   | cont=>exact False.elim hq
structure qc (X:Cx) (x:Str) (N:List Str) (link:List (Option Nat)) (scope:Scope):Prop where
 kind:scope.kind=.function
 co:scope.isCoroutine=false
 gen:scope.isGenerator=false
 par:scope.names.lookup x=some .local
 cell:∀y∈scope.names,y.2≠.cell
 free:∀y∈scope.names,y.2=.free->(X.env.kindOf y.1=some .cell\/X.env.kindOf y.1=some .free)
 len:link.length=N.length
 link:∀(i j:Nat) (y:Str),link[i]?=some (some j)->N[i]?=some y->X.N[j]?=some y/\scope.names.lookup y=some .free
def Lp(I:Inv X af σ H s)(S:qc X x N link scope):kC s.heap H scope (ji X.env scope.names []) N (fL link σ) where
 inj:=λy z c h1 h2=>I.ok.inj y z c (bP h1) (bP h2)
 has:=λy hy=>by
  have hm:=dQ hy;obtain⟨c,hc⟩:=I.ok.has y (S.free _ hm rfl);obtain⟨c',h'⟩:=jj scope.names [] hm ⟨c,hc⟩;cases z:(ji X.env scope.names []).lookup y with
  | some c2=>exact⟨c2,rfl⟩
  | none=>exact absurd h' (by intro hh;have:=List.lookup_eq_none_iff.mp z (y,c') hh;simp at this)
 cell:=λy c h=>I.cell y c (bP h)
 free:=λy c h=>I.freeC y c (bP h)
 val:=λi y v h1 h2=>by
  unfold L2.U.fL at h2;rw[bK]at h2;cases z:link[i]? with
  | none=>rw[z]at h2;cases h2
  | some o =>
   rw[z]at h2;cases o with
   | none=>cases h2
   | some j =>
    have h2:(σ[j]?).join=some v:=bB h2;obtain⟨g1,g2⟩:=S.link i j y z h1;have hm:=dQ g2;obtain⟨m,_,hl⟩:=I.loc;have hfk:=S.free _ hm rfl;obtain⟨u,ru,lk⟩:=hl j y v g1 (by
     cases w:σ[j]? with
     | none=>rw[w]at h2;cases h2
     | some q=>rw[w]at h2;exact fV some h2) (by
     rcases hfk with q | q
     ·exact .inr (.inl q)
     ·exact .inr (.inr q))
    rcases lk with⟨q,_⟩ | ⟨_,c,hc,hi⟩
    ·rcases hfk with q' | q'<;>rw[q]at q'<;>cases q'
    ·obtain⟨c',h'⟩:=jj scope.names [] hm ⟨c,hc⟩;cases zz:(ji X.env scope.names []).lookup y with
     | none=>exact absurd h' (by intro hh;have:=List.lookup_eq_none_iff.mp zz (y,c') hh;simp at this)
     | some c2 =>
      have:=bP zz;rw[hc]at this;cases this;exact⟨c,u,g2,rfl,hi,ru⟩
 len:=by unfold L2.U.fL;rw[aJ];exact S.len
structure Nm (X:Cx):Prop where
 ex:∃x c T,x∈cX/\W.tabIn X.K x=some (c,T)/\W.codeHdIn X.K c T=true/\X.env.code=.ref c/\X.env.qual++"<lambda>"=v3 x
 blt:wx X.mg X.base
def oneArg(x:Str)(ap:Pos):Arguments:={posonlyargs:=[],args:=[{arg:=x,annotation:=none,pos:=ap}],vararg:=none,kwonlyargs:=[],kw_defaults:=[],kwarg:=none,defaults:=[]}
def DF(pm cC EI u:Value):bindArgs (W.kla_fn "<lambda>" qual (oneArg x ap) body scope cl pm cC EI) ⟨[u],[]⟩=pure [(x,u)]:=by
 have hs:seqItems? Value.none=pure none:=rfl;unfold bindArgs;simp only[oneArg,hs,yY];simp[List.lookup]
def Nn:ak:=⟨.aw,[]⟩
def Vw(rs:(PV->Gx PV)->Nat->m4)(fb:Gx PV)(link:List (Option Nat)):PV->Gx PV:=λp st =>
 (rs (Vu fb (cf link st.ρ)) st.h.length [p,.ref st.h.length] (st.h++[Nn])).map λr=>(Vf r.1,⟨st.ρ,r.2⟩)
def QD(rs:(PV->Gx PV)->Nat->m4)(fe fb:Gx PV)(link:List (Option Nat)):Gx PV:=bnd fe (Vw rs fb link)
section
variable {K:W.Frag} {aa H H':Hp} {ab F:Fz} {h:List ak}
def jA.ZP(C:jA K aa ab F h H)(hp:F.F p=none)(h0:aa p=none)(hH:∃o,H p=some o)(hn:p∉F.μ):jA K aa ab ⟨F.F,F.μ++[p]⟩ (h++[Nn]) H/\Gr F ⟨F.F,F.μ++[p]⟩/\(F.μ++[p])[h.length]?=some p:=by
 have g:Gr F ⟨F.F,F.μ++[p]⟩:=⟨cg.refl _,λn a q=>by
  grind⟩
 have Uw:∀n a,(F.μ++[p])[n]?=some a->F.μ[n]?=some a\/n=F.μ.length/\a=p:=λn a q=>by
  grind
 refine⟨⟨C.sub,C.keep,C.base.trans g,C.fresh,λn a q=>?_,by simp[C.hl],?_,λn d a hd ha hk=>?_⟩,g,by rw[C.hl];simp⟩
 ·rcases Uw n a q with z | ⟨_,rfl⟩
  ·exact C.new n a z
  ·grind
 ·rw[List.nodup_append];exact⟨C.nd,by grind⟩
 ·rcases Uw n a ha with z | ⟨rfl,rfl⟩
  ·rw[j3 (by rw[C.hl];exact(b6.mp z).1)]at hd
   obtain⟨h1,ws,h2,h3⟩:=C.cell n d a hd z hk;exact⟨h1,ws,h2,h3.mono g⟩
  ·rw[<-C.hl,yu (az _),Nat.sub_self]at hd;cases hd;cases hk
end
section
variable {X:Cx} {aa:Hp} {ab:Fz} {e body:Expr} {fe fb:Gx PV} {scope:Scope} {x:Str} {ap lp p1 pos:Pos} {N Ns:List Str} {link:List (Option Nat)} {fs:Addr} {Np:FuncData} {k:Nat} {st:Stmt} {pr:List Str} {rb:(PV->Gx PV)->Nat->Gx dn}
def Hb(D:zc X.K "spread" "spread" st fs Np)(mS:X.mg "spread"=some (.ref fs))(bS:fJ X.K Np pr [])(ZQ:dj Ns pr (ao st))(SR:pr.length=2)(L:Nm X)(hg:Gl X "spread")(hr:dq (k+2) X.A)(he:PE X e (tE X aa ab fe))(jL:starEach [e,.Lambda (oneArg x ap) body scope lp] X.env=(false,eval e X.env)::starEach [.Lambda (oneArg x ap) body scope lp] X.env)(S:qc X x N link scope)
  (Hc:∀(cC:Value) (A:Around) (ay:List Env) (s:Shared) (H:Hp) (E:XK) (aa:Hp) (ab:Fz) (n:Nat) (ω:PV->Gx PV),dq (k+1) (A.deeper (envOfC "spread" (ao st) s.heap.objs.size fs cC))->BN (ek (gP X.prog X.w) X.prog X.w X.K X.mg X.base Ns "spread" (ao st) fs cC A ay s H E) aa ab n ω ->
   PSs (ek (gP X.prog X.w) X.prog X.w X.K X.mg X.base Ns "spread" (ao st) fs cC A ay s H E) (cO st) (tS (ek (gP X.prog X.w) X.prog X.w X.K X.mg X.base Ns "spread" (ao st) fs cC A ay s H E) aa ab (rb ω n)))
  (hbody:∀(qual:Str) (fa:Addr) (cC:Value) (cl:List (Str×Addr)) (A:Around) (stack:List Env) (s:Shared) (H u9:Hp) (qb:Fz),dq k (A.deeper (W.envX qual scope s.heap.objs.size fa cC cl)) ->
   PE (M0 (gP X.prog X.w) X.prog X.w X.K X.mg X.base (x::N) qual scope fa cC cl A stack s H E0) body (tE (M0 (gP X.prog X.w) X.prog X.w X.K X.mg X.base (x::N) qual scope fa cC cl A stack s H E0) u9 qb fb)) :
  PE X (.Call (.Name "spread" p1) [e,.Lambda (oneArg x ap) body scope lp] [] pos) (tE X aa ab (QD (λω n=>gX (rb ω n) Ns.length) fe fb link)):=by
 rintro af s σ H Q I ⟨F,XH,R,h⟩
 obtain⟨⟨xn,c,T,l1,l2,l3,l4,l5⟩,hB⟩:=L;have hcl:=pZ λy hy hy2=>I.ok.has y.1 (S.free y hy hy2)
 refine fP (ld_glob I hg mS ?_ rfl);refine W.callWith_K I.ok.mod.kin D.kp (thn ((gp he (gp (O1 l1 l2 l3 l4 l5 hB rfl hcl) pF rfl) jL) pos af s σ H
  (λvs H2=>∃v fa F1 aM p H1,vs=[v,.ref fa]/\Rep X.K aa ab F1 aM σ H1/\bu X.K F1 p v/\Tx X aa ab (bu X.K) F1 aM (Vw (λω n=>gX (rb ω n) Ns.length) fb link p) σ Q/\H1 fa=none/\cg H1 H2/\(∀b o,H2 b=some o->H1 b=some o\/H1 b=none)/\Gh H2 fa (v3 xn) (oneArg x ap) body scope (ji X.env scope.names [])) I
  ⟨F,XH,R,h.bnd λp v F1 aM H1 R1 g1 b1 h1 fa H2 hn sm fr hL=>⟨v,fa,F1,aM,p,H1,rfl,R1,b1,h1,hn,sm,fr,hL⟩⟩) λus s1 z9=>?_) jL rfl
 obtain⟨vs,H2,I2,r,v,fa,F1,aM,p,H1,rfl,R1,b1,z,hn,sm,fr,hL⟩:=z9;refine⟨I2.n9,?_⟩;obtain⟨q,e1,e2⟩:=z;obtain⟨⟨rs,h'⟩,e3,e4⟩:=aV e1;subst e4;obtain⟨o,u,pm,adz,EI,c',oc,uc,uN,t,k1,k2,k3⟩:=id hL;have C1:=R1.c.after sm (cg.refl _) rfl (R1.sub.trans sm) λ_ _ e=>.inl e
 have nfa:fa∉F1.μ:=λhm=>by
  obtain⟨n,Yk⟩:=oE.mp hm;obtain⟨_,o',kX⟩:=R1.c.new n fa Yk;rw[hn]at kX;cases kX
 obtain⟨C2,g2,hm⟩:=C1.ZP (R1.sub.free hn) (R1.c.keep.free hn) ⟨_,k1⟩ nfa;obtain⟨C3,full⟩:=C2.enter;have b2:ax X.K ⟨F1.F,F1.μ++[fa]⟩ [p,.ref aM.h.length] [v,.ref fa]:=.cons (b1.mono g2) (.cons (cz.mpr ⟨fa,hm,rfl⟩) .nil);obtain⟨q2,e5,e6⟩:=aI e3;have run:∀Q' E',P4 X.K (nR H2 (F1.μ++[fa])) ⟨F1.F,F1.μ++[fa]⟩ h' Q' E' rs->codeAny (model X.prog X.w) X.A (.call (.ref fs) ⟨us,[]⟩) (CR (gP X.prog X.w) X.stack X.prog X.w H2 s1 Q' E') s1:=λQ' E' res=>by
  refine Uu D ZQ hr I2.J2 (bS s1 us I2.n9 (by rw[fg,<-r.length,SR];rfl)) (by rw[fg];exact r) (by rw[SR];rfl) λcC=>⟨_,Hc cC X.A X.stack s1 H2 E' _ _ aM.h.length _ (hr.deeper _) ⟨fa,o,u,_,hm,k1,k2,?_⟩,_,⟨dE Ns.length [p,.ref aM.h.length],_⟩,⟨C3,w6 b2⟩,q2,e5,?_⟩
  ·exact QC rfl hL (Lp I2 S) (R1.l.fL link) g2 (hr.deeper _) DF S.kind S.co S.gen S.par S.cell λcC s H u9 qb Vx=>hbody _ _ _ _ _ _ _ _ _ _ Vx
  ·rcases q2 with⟨f | ⟨m,c⟩,st⟩
   ·cases f with
    | rt=>cases e6;exact λv F' H' C' g b'=>res v F' H' C' b'
    | nx=>cases e6;exact λF' bj H' R g=>res .bL F' H' R.c (cR.mpr rfl)
    | _=>cases e6
   ·cases e6;cases m with
    | true=>exact λF' bj H' af s1 h1 a cls vs R sf I hc hm=>BI I hm (BJ full R.c) (res cls F' H' R.c hc)
    | false=>exact λbj af H1 s1 e s' I h=>w5 I h (by rintro cls H2 ⟨hc,F',R,sf⟩;exact⟨BJ full R.c,res cls F' H2 R.c hc⟩)
 have done:∀Q' E',(∀e s',gP X.prog X.w X.stack H2 s1 E' e s'->X.xe e s')->P4 X.K (nR H2 (F1.μ++[fa])) ⟨F1.F,F1.μ++[fa]⟩ h' Q' E' rs->wpAny (model X.prog X.w) X.A (call (.ref fs) us) (EP X af σ Q') X.xe s1:=λQ' E' hx res=>by
  refine o9 (jb (run Q' E' res) λr s' FY=>?_)
  cases r with
  | error e=>exact hx e s' FY
  | ok fl =>
   cases fl with
   | ret u=>exact I2.after FY
   | next=>exact False.elim FY
   | brk=>exact False.elim FY
   | cont=>exact False.elim FY
 cases rs with
 | ok p'=>exact done Q E0 (λe s' hx=>wz af σ H2 s1 e s' I2 hx) λv F' H' D' b'=>e2 v H' F' ⟨C2.leave D',R1.l.mono (g2.trans D'.base)⟩ (g2.trans D'.base) b'
 | ex m c=>exact thn (done (λ_ _=>False) _ (λe s' hx=>e2 σ af H2 s1 e s' I2 hx) λcls F' H' D' hc=>⟨hc,F',⟨C2.leave D',R1.l.mono (g2.trans D'.base)⟩,g2.trans D'.base⟩) (by rintro v s3 ⟨_,_,_,_,z⟩;exact z.elim)
end
end L2.U
namespace PySem
open Sem (wp)
def nW:entryFor table "set.__iter__"=some Builtin.«frozenset.__iter__» := entryFor_alias (id':="frozenset.__iter__") (by kernel_rfl) rfl (by decide +kernel) (by kernel_rfl)
def dN:Slot "set_iterator" "__next__" "set_iterator.__next__" :=
 .of (owner:="set_iterator") (n:="__next__") (by rw[oV,oB];kernel_rfl) (by decide +kernel) (by decide +kernel) (by decide +kernel)
  (by first | exact .inl (by decide +kernel) | exact .inr (by decide +kernel)) (by rw[uu];kernel_rfl)
def jY:entryFor table "set_iterator.__next__"=some Builtin.«set_iterator.__next__» := entryFor_of_tree (by kernel_rfl)
def lG(a:Value):argsOk "set_iterator.__next__" ⟨[a],[]⟩:=by unfold argsOk;kernel_rfl
def lH:Slot "set_iterator" "__iter__" "set_iterator.__iter__" :=
 .of (owner:="set_iterator") (n:="__iter__") (by rw[oV,oB];kernel_rfl) (by decide +kernel) (by decide +kernel) (by decide +kernel)
  (by first | exact .inl (by decide +kernel) | exact .inr (by decide +kernel)) (by rw[uu];kernel_rfl)
def rm:entryFor table "set_iterator.__iter__"=some Builtin.«dict_keyiterator.__iter__» := entryFor_alias (id':="dict_keyiterator.__iter__") (by kernel_rfl) rfl (by decide +kernel) (by kernel_rfl)
def vc(a:Value):argsOk "set_iterator.__iter__" ⟨[a],[]⟩:=by unfold argsOk;kernel_rfl
def dw(es:Array (Int×Value))(ep:Nat)(t:SetTable):Obj:={cls:=.type "set",dict:=none,data:=.set es ep t,slots:=#[]}
abbrev BT(w:World):Bool:=w.params.followText "set-order"
section
variable {prog:Program} {w:World} {A:Around} {E:Value->Shared->Prop} {s:Shared} {a:Addr} {es:Array (Int×Value)} {ep:Nat} {t:SetTable}
def kJ(h:Q (BT w) s):wpAny (model prog w) A setsByText Q E s:=by
 unfold setsByText;exact ae (yT (ah h))
def vd(hS:s.heap.get? a=some (dw es ep t))(hf:t.fits es.size=true)(hg:BT w=true\/t.plain=true)(h:Q false s):wpAny (model prog w) A (setDrawn a) Q E s:=by
 unfold setDrawn;refine ae (i6 hS rfl hf ?_);refine ae (kJ ?_);refine ah ?_;have e:(!BT w&&(!t.plain&&decide (es.size>1)))=false:=by
  grind
 show Q (!BT w&&(!t.plain&&decide (es.size>1))) s;rw[e];exact h
def z0(hS:s.heap.get? a=some (dw es ep t))(hf:t.fits es.size=true)(hg:BT w=true\/t.plain=true)
  (hQ:Q (.ref s.heap.objs.size) {s with heap:=s.heap.push {cls:=.type "set_iterator",data:=.fields #[.int 0 0,.int 0 0,.ref a,.int es.size 0,.int ep 0]}}):wpAny (model prog w) A (pyIter (.ref a)) Q E s:=by
 have hT:s.TypeIs (.ref a) "set":=⟨_,hS,rfl⟩;refine yR hT F.slot_set_iter (cV F.slot_set_iter hT nW ?_ (F.args_set_iter_1 _));unfold Builtin.«frozenset.__iter__» Builtin.Frozenset.slot0;refine ae (ae (ah ?_));refine ah ?_;unfold Builtin.Frozenset.sizeOf setEntries;refine ae (ae (ae (i6 hS rfl hf (ah (ah ?_)))));refine ae (vd hS hf hg ?_);rw[if_neg dg];refine ae (ah ?_);refine ae (wpAny_setEpoch_of hS rfl hf ?_);unfold newFields;refine ae (eF (ah ⟨_,rfl,"set_iterator",_,⟨_,bc _ rfl,rfl⟩,dN.lookup,?_⟩));simpa[rawInt]using hQ
end
section
variable {prog:Program} {w:World} {A:Around} {E:Value->Shared->Prop} {s:Shared} {a:Addr} {es:Array (Int×Value)} {ep:Nat} {t:SetTable}
def BO(t:SetTable):Nat->Nat
 | 0=>0
 | i+1=>t.place.getD i 0+1
def dP(w:World)(t:SetTable)(i:Nat):Nat:=if BT w=true then 0 else BO t i
def kK(w:World)(a:Addr)(ep:Nat)(es:Array (Int×Value)):Array (Int×Value):=if BT w=true then pickOrder (w.params.setOrder a ep) es else es
structure eM (w:World) (a:Addr) (ep:Nat) (es:Array (Int×Value)) (t:SetTable):Prop where
 fits:t.fits es.size=true
 size:(kK w a ep es).size=es.size
 led:BT w=false->t.led=true/\t.plain=true/\∀i,i<=es.size->SetTable.below t.place (BO t i)=i
def eM.ok(g:eM w a ep es t):BT w=true\/t.plain=true:=by
 cases h:BT w with
 | true=>exact .inl rfl
 | false=>exact .inr (g.led h).2.1
def eM.place(g:eM w a ep es t):t.place.size=es.size:=by
 have:=g.fits;simp only[SetTable.fits,aE,beq_iff_eq]at this;exact this.1
def xg(hS:s.heap.get? a=some (dw es ep t))(g:eM w a ep es t)(i:Nat)(hi:i<=es.size)
  (h:Q (((kK w a ep es)[i]?).map λe=>(e.2,dP w t (i+1))) s):wpAny (model prog w) A (setNext a (dP w t i) i ep) Q E s:=by
 unfold setNext;refine ae (i6 hS rfl g.fits ?_);refine ae (kJ ?_);cases hb:BT w with
 | true =>
  rw[if_pos rfl];dsimp only
  rw[if_neg (by simp)]
  unfold setWalk;refine ae (ae (i6 hS rfl g.fits ?_));refine ae (kJ ?_);rw[hb,if_pos rfl];refine ae (yT ?_);refine ah (ah ?_);unfold kK dP at h;rw[hb]at h;simp only[fW]at h;unfold dP;rw[hb];exact h
 | false =>
  obtain⟨hl,hp,hw⟩:=g.led hb;rw[if_neg dg];refine ae (ah ?_);show wpAny _ _ (if(!t.plain&&decide (es.size>1))=true then _ else _) _ _ s
  rw[hp];rw[if_neg (by simp)]
  refine ae ?_;show wpAny _ _ (if(!t.led&&!es.isEmpty)=true then _ else _) _ _ s
  rw[hl,if_neg (by simp)]
  refine ah ?_;refine ah ?_;unfold kK dP at h;rw[hb]at h;simp only[ez,cW]at h;have e:SetTable.below t.place (dP w t i)=i:=by unfold dP;rw[hb,if_neg dg];exact hw i hi
  rw[e];have jL:=g.place;by_cases dH:i<es.size
  ·have h1:es[i]?=some es[i]:=by simp[dH]
   have h2:t.place[i]?=some (t.place[i]'(by lia)):=by grind
   rw[h1,h2];rw[h1]at h;have h3:BO t (i+1)=t.place[i]'(by lia)+1:=by
    show t.place.getD i 0+1=_;simp[show i<t.place.size by lia]
   rw[h3]at h;exact h
  ·grind
end
section
variable {prog:Program} {w:World} {A:Around} {E:Value->Shared->Prop} {s:Shared} {a it:Addr} {es:Array (Int×Value)} {ep:Nat} {t:SetTable}
def ef(h:Heap)(it a:Addr)(sl i n ep:Nat):Prop:=∃o,h.get? it=some o/\o.cls=.type "set_iterator"/\o.data=.fields #[.int sl 0,.int i 0,.ref a,.int n 0,.int ep 0]
def ef.typeIs(x:ef s.heap it a sl i n ep):s.TypeIs (.ref it) "set_iterator":=let ⟨o,ho,hc,_⟩:=x;⟨o,ho,hc⟩
def Hd(nA:ef s.heap it a (dP w t i) i es.size ep)(hS:s.heap.get? a=some (dw es ep t))(g:eM w a ep es t)(hi:i<es.size)
  (hQ:∀v h',(∃e,(kK w a ep es)[i]?=some e/\v=e.2)->ef h' it a (dP w t (i+1)) (i+1) es.size ep->Heap.SameBut it s.heap h'->Q (some v) {s with heap:=h'}):wpAny (model prog w) A (pyNext (.ref it)) Q E s:=by
 obtain⟨o,ho,hc,hd⟩:=id nA;unfold pyNext;refine ae (ja (eX nA.typeIs dN (cV dN nA.typeIs jY ?_ (lG _))));unfold Builtin.«set_iterator.__next__»;refine ae (ah ?_);refine ae (wpAny_fieldsOf ho hd ?_);dsimp only
 unfold setEntries;refine ae (ae (i6 hS rfl g.fits (ah ?_)));dsimp only
 rw[if_neg (by simp)]
 have h1:(kK w a ep es)[i]?=some ((kK w a ep es)[i]'(by rw[g.size];exact hi)):=by simp[hi]
 refine ae ?_;rw[show((dP w t i:Nat):Int).toNat=dP w t i from eZ _,show((i:Nat):Int).toNat=i from eZ _,show((ep:Nat):Int).toNat=ep from eZ _]
 refine xg hS g i (iq hi) ?_;rw[h1];dsimp only[Option.map]
 refine ae (kj ho hd (by simp) ?_)
 obtain⟨o1,g1,c1,d1⟩:∃o1,(s.heap.update it (Obj.mapFields (·.setIfInBounds 0 (rawInt (dP w t (i+1):Nat))))).get? it=some o1/\o1.cls=.type "set_iterator"/\o1.data=.fields #[.int (dP w t (i+1):Nat) 0,.int i 0,.ref a,.int es.size 0,.int ep 0] :=
  ⟨_,fD _ ho (tO (i4 hd _)),(t7 ..).trans hc,by rw[i4 hd];simp[rawInt]⟩
 have b1:Heap.SameBut it s.heap (s.heap.update it (Obj.mapFields (·.setIfInBounds 0 (rawInt (dP w t (i+1):Nat))))):=ij ..
 generalize (s.heap.update it (Obj.mapFields (·.setIfInBounds 0 (rawInt (dP w t (i+1):Nat)))))=H1 at g1 b1 ⊢
 refine ae (kj g1 d1 (by simp) ?_)
 have QE:ef (H1.update it (Obj.mapFields (·.setIfInBounds 1 (rawInt (i+1))))) it a (dP w t (i+1)) (i+1) es.size ep :=
  ⟨_,fD _ g1 (tO (i4 d1 _)),(t7 ..).trans c1,by rw[i4 d1];simp[rawInt]⟩
 exact ah ⟨_,rfl,ah (hQ _ _ ⟨_,h1,rfl⟩ QE (b1.trans (ij ..)))⟩
def Lq(hh:A.handled=none)(nA:ef s.heap it a (dP w t es.size) es.size es.size ep)(hS:s.heap.get? a=some (dw es ep t))(g:eM w a ep es t)
  (hQ:∀h',Heap.ExtBut it s.heap h'->Q none {s with heap:=h'}):wpAny (model prog w) A (pyNext (.ref it)) Q E s:=by
 obtain⟨o,ho,hc,hd⟩:=id nA;unfold pyNext;refine ae (ja (eX nA.typeIs dN (cV dN nA.typeIs jY ?_ (lG _))));unfold Builtin.«set_iterator.__next__»;refine ae (ah ?_);refine ae (wpAny_fieldsOf ho hd ?_);dsimp only
 unfold setEntries;refine ae (ae (i6 hS rfl g.fits (ah ?_)));dsimp only
 rw[if_neg (by simp)]
 have h1:(kK w a ep es)[es.size]?=none:=by simp[g.size]
 refine ae ?_;rw[show((dP w t es.size:Nat):Int).toNat=dP w t es.size from eZ _,show((es.size:Nat):Int).toNat=es.size from eZ _,show((ep:Nat):Int).toNat=ep from eZ _]
 refine xg hS g es.size (az _) ?_;rw[h1];dsimp only[Option.map]
 refine ae (kj ho hd (by simp) ?_)
 refine ae ?_;simp only[newExc,newTuple];refine ae (eF ?_ (by size_fits))
 refine ae (fj (by first | rfl | (simp only[firstArgMember];rfl)) ?_)
 refine eF ?_ (by size_fits)
 simp only[raiseNew];refine ae (wpAny_handled ?_);rw[show A.in1.handled=none from hh]
 refine ae (ah (wpAny_throw ?_));refine ae (mC ⟨_,bc _ rfl,rfl⟩ o6 ?_);exact ah (hQ _ (((ij ..).extBut.push _).push _))
def He(nA:ef s.heap it a sl i n ep)(h:Q (.ref it) s):wpAny (model prog w) A (pyIter (.ref it)) Q E s:=by
 refine yR nA.typeIs lH (cV lH nA.typeIs rm ?_ (vc _));exact ah ⟨_,rfl,"set_iterator",_,nA.typeIs,dN.lookup,h⟩
def Walks.ZR(hh:A.handled=none)(I a:Addr)(hne:a≠I)(g:eM w a ep es t) :
  Walks prog w A I [I,a] [I] es.size (λi v=>∃e,(kK w a ep es)[i]?=some e/\v=e.2) (λi h=>ef h I a (dP w t i) i es.size ep/\h.get? a=some (dw es ep t)) where
 sub:=λb hb=>by grind
 frame:=λ_ _ _ st hk=>⟨let ⟨o,ho,r⟩:=st.1;⟨o,hk I (by simp) o ho,r⟩,hk a (by simp) _ st.2⟩
 item:=λi s Q E hi st hQ=>Hd st.1 st.2 g hi λv h' hv QE PM=>hQ v h' s.toks hv ⟨QE,PM.extBut a _ hne st.2⟩ λb o hb e=>PM.extBut b o (λh=>hb (by simp[h])) e
 done:=λs Q E st hQ=>Lq hh st.1 st.2 g λh' he'=>hQ h' s.toks λb o hb e=>he' b o (λh=>hb (by simp[h])) e
 self:=λ_ _ _ _ st hQ=>He st.1 hQ
def Hf(hT:s.TypeIs (.ref r) "set")(h:Q false s):wpAny (model prog w) A (Builtin.List.listLengthHint (.ref r)) Q E s:=by
 unfold Builtin.List.listLengthHint;refine ae (um hT F.slot_set_len.lookup ?_)
 generalize hid:("set.__len__":String)=id0
 wp_delta
 rw[show splitId id0=some ("set","__len__")from by subst hid;decide +kernel]
 subst hid;refine ae (mC (b:=true) hT (by rw[uu];kernel_rfl) ?_)
 refine y2 (λhab=>absurd hab (by decide)) (λ_=>?_)
 refine y2 (λ_=>?_) (λhab=>absurd (by decide +kernel) hab)
 refine ae (kr hT ?_);exact ah h
def Lr(g:eM w a ep es t):W.KdlSrc prog w "set" a a es.size (λi v=>∃e,(kK w a ep es)[i]?=some e/\v=e.2) (λh=>h.get? a=some (dw es ep t)) where
 type:=λ_ hm=>⟨_,hm,rfl⟩
 there:=λ_ hm=>⟨aC hm,aC hm⟩
 keep:=λ_ _ hm hk=>hk a (.inl rfl) _ hm
 notList:=by decide
 notTuple:=by decide
 hint:=λ_ _ _ _ hm hq=>Hf ⟨_,hm,rfl⟩ hq
 iter:=λA s hh hm=>⟨_,_,(λ_ _ hq=>z0 hm g.fits g.ok hq),Walks.ZR hh _ a (aR (aC hm)) g,⟨⟨_,bc _ rfl,rfl,by
  have:dP w t 0=0:=by unfold dP BO;split<;>rfl
  rw[this];rfl⟩,aG _ hm⟩⟩
end
section
open PyProof.Rows
theorem qd:∀(l:List α) (i:Nat) (h:i<l.length),([l[i]]++l.eraseIdx i).Perm l
 | [],i,h=>absurd h (by simp)
 | x::l,0,_=>.refl _
 | x::l,i+1,h=>by
  have h':i<l.length:=by simpa using h
  have ih:=qd l i h';rw[List.getElem_cons_succ,List.eraseIdx_cons_succ];exact(List.Perm.swap x l[i] (l.eraseIdx i)).trans (ih.cons x)
theorem BP(nx:Nat->Nat):∀(ve k:Nat) (left:List α) (z6:Array α),ve=left.length->(pickOrder.go nx ve k left z6).toList.Perm (z6.toList++left)
 | 0,k,left,z6,h=>by
  have:=j1 h.symm;subst this;rw[fg];exact .refl _
 | ve+1,k,left,z6,h=>by
  have hl:nx k%left.length<left.length:=Nat.mod_lt _ (by lia)
  unfold pickOrder.go;rw[b8 hl];refine(BP nx ve (k+1) (left.eraseIdx (nx k%left.length)) (z6.push left[nx k%left.length]) (by grind)).trans ?_
  rw[Array.toList_push,oP];refine List.Perm.append_left _ ?_;exact qd left _ hl
def DG(nx:Nat->Nat)(xs:Array α):(pickOrder nx xs).toList.Perm xs.toList:=by
 unfold pickOrder;have:=BP nx xs.size 0 xs.toList #[] (by simp)
 simpa using this
def xh(w:World)(a:Addr)(ep:Nat)(es:Array (Int×Value)):(kK w a ep es).toList.Perm es.toList:=by
 unfold kK;split
 ·exact DG _ _
 ·exact .refl _
def Hg(w:World)(a:Addr)(ep:Nat)(es:Array (Int×Value)):(kK w a ep es).size=es.size:=by
 have:=(xh w a ep es).length_eq;simpa using this
def intOf:Value->Int
 | .int n _=>n
 | _=>0
theorem xj:∀(l:List (Int×Value)),(∀e∈l,∃n t,e.2=.int n t)->IntsAre (l.map (·.2)) (l.map λe=>intOf e.2)
 | [],_=>.nil
 | e::l,h=>by
  obtain⟨n,t,q⟩:=h e bQ;have ih:=xj l λx hx=>h x (bF _ hx)
  rw[bz,bz,q];exact .cons n t ih
def g8(place:Array Nat)(led:Bool):SetTable:={mask:=7,place:=place,dummies:=#[],finger:=0,led:=led,moves:=0,plain:=true}
def Aa:∀k:_root_.Fin 64,hashInt ((k:Nat):Int)=((k:Nat):Int):=by decide +kernel
def QF:∀(k:_root_.Fin 64) (led:Bool),(g8 #[] led).freeSlot ((k:Nat):Int)=some ((k:Nat)%8,false):=by decide +kernel
def QG:∀(p:_root_.Fin 8) (k:_root_.Fin 64) (led:Bool),∃q:_root_.Fin 8,(g8 #[(p:Nat)] led).freeSlot ((k:Nat):Int)=some ((q:Nat),false)/\q≠p:=by decide +kernel
def Ls:∀p:_root_.Fin 8,SetTable.below #[(p:Nat)] 0=0/\SetTable.below #[(p:Nat)] ((p:Nat)+1)=1:=by decide +kernel
def Lu:∀p q:_root_.Fin 8,p<q->SetTable.below #[(p:Nat),(q:Nat)] 0=0/\SetTable.below #[(p:Nat),(q:Nat)] ((p:Nat)+1)=1/\SetTable.below #[(p:Nat),(q:Nat)] ((q:Nat)+1)=2:=by decide +kernel
def Lv:∀p q:_root_.Fin 8,q≠p->SetTable.below #[(p:Nat)] (q:Nat)=if p<q then 1 else 0:=by decide +kernel
def Vy(k:_root_.Fin 64)(led:Bool)(h:Int)(x:Value)(hh:h=((k:Nat):Int)):layNew (g8 #[] led) #[] h x=(#[(h,x)],g8 #[(k:Nat)%8] led,false,false):=by
 subst hh;unfold layNew;rw[QF k led];rfl
def Vz(p:_root_.Fin 8)(k:_root_.Fin 64)(led:Bool)(h:Int)(x:Value)(hh:h=((k:Nat):Int))(e:Int×Value) :
  ∃q:_root_.Fin 8,q≠p/\layNew (g8 #[(p:Nat)] led) #[e] h x=if p<q then(#[e,(h,x)],g8 #[(p:Nat),(q:Nat)] led,false,false)else(#[(h,x),e],g8 #[(q:Nat),(p:Nat)] led,false,false):=by
 subst hh;obtain⟨q,hq,hne⟩:=QG p k led;refine⟨q,hne,?_⟩;have hb:=Lv p q hne;unfold layNew;rw[hq];dsimp only
 unfold SetTable.put;have iC:SetTable.below (g8 #[p] led).place q=if p<q then 1 else 0:=hb
 rw[iC];by_cases dH:p<q
 ·rw[if_pos dH,if_pos dH];rfl
 ·rw[if_neg dH,if_neg dH];rfl
end
section
open PyProof.Rows
section
variable {prog:Program} {w:World} {A:Around} {E:Value->Shared->Prop} {s:Shared} {a:Addr} {es rp:Array (Int×Value)} {ep:Nat} {t t1:SetTable}
def xl(h:∀e∈es.toList,∃k tk,e.2=.int k tk/\e.1=hashInt k):ElemsOf (intKind prog w) es.toList:=λe he=>by
 obtain⟨k,tk,h1,h2⟩:=h e he;exact⟨⟨k,by rw[h1];exact intKind_is _ _ _ _,h2⟩,by rw[h1];rfl⟩
def Lw(hS:s.heap.get? a=some (dw es ep t))(rp:Array (Int×Value))(t1:SetTable):(s.heap.update a (Obj.putSet rp t1)).get? a=some (dw rp (ep+1) t1):=by
 have:=fD (Obj.putSet rp t1) hS (by rw[putSet_of rp t1 (rfl)];rfl)
 rw[putSet_of rp t1 (rfl)]at this;exact this
def Ab(hS:s.heap.get? a=some (dw es ep t))(hf:t.fits es.size=true)(Nq:∀e∈es.toList,∃k tk,e.2=.int k tk/\e.1=hashInt k)(hb:es.size+1<scanBound)
  (QH:es.toList.findIdx? (λe=>(intKind prog w).is k e.2)=none) (hL:layNew t es (hashInt k) (.int k tk)=(rp,t1,false,false)) (hp:t1.plain=true) (O3:t1.tooFull=false) (hz:rp.size<=sizeLine)
  (h:Q true {s with heap:=s.heap.update a (Obj.putSet rp t1)}):wpAny (model prog w) A (setAddHashed a (.int k tk) (hashInt k)) Q E s:=by
 have hE:=xl (prog:=prog) (w:=w) Nq;unfold setAddHashed setAddHashedIn;refine cD (ae (i6 hS rfl hf ?_));dsimp only
 rw[byScan_of rfl (iq ‹_›) hE];simp only[↓reduceIte];unfold setAddByScan;refine ae ?_;refine ae (gH ?_);refine ae (wpAny_setScan_of (intKind_is _ _ _ _) hS rfl hf hE ?_);rw[QH];dsimp only
 rw[hL];dsimp only
 refine ae ?_;refine ah ?_;rw[hp,if_pos rfl];refine ae ?_;rw[hashByValue_scannable 8 rfl];refine ah ?_;have e:(if plainKind (Value.int k tk)=true then t1 else {t1 with plain:=false})=t1:=if_pos rfl
 rw[e];refine ae (wpAny_storeSet_of hS rfl ?_ hz);rw[O3,if_neg (by simp)]
 exact ah (ah h)
def Ac(hS:s.heap.get? a=some (dw es ep t))(hf:t.fits es.size=true)(Nq:∀e∈es.toList,∃k tk,e.2=.int k tk/\e.1=hashInt k)(hb:es.size+1<scanBound)
  (hj:es.toList.findIdx? (λe=>(intKind prog w).is k e.2)=some j) (h:Q false s):wpAny (model prog w) A (setAddHashed a (.int k tk) (hashInt k)) Q E s:=by
 have hE:=xl (prog:=prog) (w:=w) Nq;unfold setAddHashed setAddHashedIn;refine cD (ae (i6 hS rfl hf ?_));dsimp only
 rw[byScan_of rfl (iq ‹_›) hE];simp only[↓reduceIte];unfold setAddByScan;refine ae ?_;refine ae (gH ?_);refine ae (wpAny_setScan_of (intKind_is _ _ _ _) hS rfl hf hE ?_);rw[hj];dsimp only
 exact ah (ah h)
end
def d0(led:Bool)(xs:List Int)(es:Array (Int×Value))(t:SetTable):Prop :=
 (∀e∈es.toList,∃k tk,e.2=.int k tk/\e.1=hashInt k)/\(es.toList.map λe=>intOf e.2).Perm xs /\
 ((xs=[]/\es=#[]/\t=g8 #[] led)\/(∃(p:_root_.Fin 8) (x:Int),xs=[x]/\t=g8 #[(p:Nat)] led)\/∃(p q:_root_.Fin 8) (x y:Int),xs=[x,y]/\p<q/\t=g8 #[(p:Nat),(q:Nat)] led)
def d0.fits(h:d0 led xs es t):t.fits es.size=true/\es.size=xs.length/\es.size<=2:=by
 obtain⟨_,hp,hc⟩:=h;have hl:=hp.length_eq;simp at hl;rcases hc with⟨rfl,rfl,rfl⟩ | ⟨p,x,rfl,rfl⟩ | ⟨p,q,x,y,rfl,_,rfl⟩
 ·exact⟨rfl,hl,by decide⟩
 ·simp at hl;exact⟨by rw[hl];rfl,hl,by lia⟩
 ·simp at hl;exact⟨by rw[hl];rfl,hl,(gF ‹_›)⟩
def d0.ZT(h:d0 (!BT w) xs es t):eM w a ep es t:=by
 obtain⟨f1,f2,f3⟩:=h.fits;refine⟨f1,Hg w a ep es,λhb=>?_⟩
 obtain⟨_,hp,hc⟩:=h;rw[hb]at hc;rcases hc with⟨rfl,rfl,rfl⟩ | ⟨p,x,rfl,rfl⟩ | ⟨p,q,x,y,rfl,dH,rfl⟩
 ·refine⟨rfl,rfl,λi hi=>?_⟩
  have:i=0:=by grind
  subst this;rfl
 ·obtain⟨b1,b2⟩:=Ls p;refine⟨rfl,rfl,λi hi=>?_⟩
  have:es.size=1:=f2;have:i=0\/i=1:=by lia
  rcases this with rfl | rfl
  ·exact b1
  ·exact b2
 ·obtain⟨b1,b2,b3⟩:=Lu p q dH;refine⟨rfl,rfl,λi hi=>?_⟩
  have:=f2;have:i=0\/i=1\/i=2:=by lia
  rcases this with rfl | rfl | rfl
  ·exact b1
  ·exact b2
  ·exact b3
section
variable {prog:Program} {w:World} {A:Around} {E:Value->Shared->Prop} {s:Shared} {a:Addr} {es:Array (Int×Value)} {ep:Nat} {t:SetTable}
def qe(xs:List Int)(k:Int):List Int:=if k∈xs then xs else xs++[k]
def Ad(hS:s.heap.get? a=some (dw es ep t))(h2:d0 led xs es t)(hk:0<=k/\k<64)(hx:xs.length<=1)
  (h:∀b h' rp ZU t1,Heap.SameBut a s.heap h'->h'.get? a=some (dw rp ZU t1)->d0 led (qe xs k) rp t1->Q b {s with heap:=h'}):wpAny (model prog w) A (setAddHashed a (.int k tk) (hashInt k)) Q E s:=by
 obtain⟨f1,f2,f3⟩:=h2.fits;obtain⟨Nq,hp,hc⟩:=id h2;have hb:es.size+1<scanBound:=by
  have:scanBound=4096:=rfl
  lia
 have adD:∀e∈es.toList,(intKind prog w).is k e.2=true↔intOf e.2=k:=λe he=>by
  obtain⟨n,Jn,q,_⟩:=Nq e he;rw[q];show Value.isInt k (.int n Jn)=true↔n=k;simp[Value.isInt]
 cases hr:es.toList.findIdx? (λe=>(intKind prog w).is k e.2)with
 | some j =>
  obtain⟨hj,hpj,_⟩:=yp.mp hr;have Nr:k∈xs:=by
   grind
  refine Ac hS f1 Nq hb hr ?_;have:=h false s.heap es ep t (Heap.SameBut.refl a s.heap) hS (by unfold qe;rw[if_pos Nr];exact h2)
  exact this
 | none =>
  have QH:k∉xs:=λNr=>by
   grind
  have XC:hashInt k=k:=by
   have:=Aa ⟨k.toNat,by lia⟩
   rw[show(⟨k.toNat,by lia⟩:_root_.Fin 64)=k from Int.toNat_of_nonneg hk.1]at this
   exact this
  have hkc:hashInt k=(⟨k.toNat,by lia⟩:_root_.Fin 64):=by
   grind
  have gh:∀rp t1,layNew t es (hashInt k) (.int k tk)=(rp,t1,false,false)->t1.plain=true->t1.tooFull=false->rp.size<=2->d0 led (qe xs k) rp t1->wpAny (model prog w) A (setAddHashed a (.int k tk) (hashInt k)) Q E s:=λrp t1 hL q1 q2 q3 q4 =>
   Ab hS f1 Nq hb hr hL q1 q2 (bh q3 (by decide)) (h true _ rp (ep+1) t1 (ij ..) (Lw hS rp t1) q4)
  have QI:qe xs k=xs++[k]:=by unfold qe;rw[if_neg QH]
  rcases hc with⟨rfl,rfl,rfl⟩ | ⟨p,x,rfl,rfl⟩ | ⟨p,q,x,y,rfl,dH,rfl⟩
  ·refine gh _ _ (Vy ⟨k.toNat,by lia⟩ led _ _ hkc) rfl rfl (by simp) ?_
   rw[QI];refine⟨λe he=>?_,.refl _,.inr (.inl ⟨⟨(⟨k.toNat,by lia⟩:_root_.Fin 64).val%8,Nat.mod_lt _ (by decide)⟩,k,rfl,rfl⟩)⟩
   have he:=he;have he:=cH.mp he;subst he;exact⟨k,tk,rfl,rfl⟩
  ·have VA:=f2;obtain⟨e0,rfl⟩:∃e0,es=#[e0]:=Array.size_eq_one_iff.mp VA
   obtain⟨q,hne,hL⟩:=Vz p ⟨k.toNat,by lia⟩ led (hashInt k) (.int k tk) hkc e0
   have hq:(intOf e0.2)=x:=by
    have hm:=hp.mem_iff.mp (di.mpr ⟨e0,by simp,rfl⟩)
    simpa using hm
   have h0:=Nq e0 (by simp)
   by_cases dH:p<q
   ·rw[if_pos dH]at hL;refine gh _ _ hL rfl rfl (by simp) ?_
    rw[QI];refine⟨λe he=>?_,?_,.inr (.inr ⟨p,q,x,k,rfl,dH,rfl⟩)⟩
    ·have he:=he;simp only[aF,aQ,aU]at he;rcases he with rfl | rfl
     ·exact h0
     ·exact⟨k,tk,rfl,rfl⟩
    ·show [intOf e0.2,k].Perm ([x]++[k]);rw[hq];exact .refl _
   ·rw[if_neg dH]at hL;refine gh _ _ hL rfl rfl (by simp) ?_
    rw[QI];refine⟨λe he=>?_,?_,.inr (.inr ⟨q,p,x,k,rfl,?_,rfl⟩)⟩
    ·have he:=he;simp only[aF,aQ,aU]at he;rcases he with rfl | rfl
     ·exact⟨k,tk,rfl,rfl⟩
     ·exact h0
    ·show [k,intOf e0.2].Perm ([x]++[k]);rw[hq];exact .swap x k []
    ·have h3:q≠(p:Nat):=λe=>hne (_root_.Fin.ext e)
     have h4:¬(p:Nat)<(q:Nat):=dH;show(q:Nat)<(p:Nat)
     lia
  ·simp at hx
end
end
end PySem
namespace PySem
open PyProof.Rows
def lI(val:Nat->Int):Nat->List Int
 | 0=>[]
 | i+1=>qe (lI val i) (val i)
theorem lJ(val:Nat->Int):∀i,(lI val i).length<=i
 | 0=>az _
 | i+1=>by
  have:=lJ val i;unfold lI qe;split
  ·lia
  ·simp;lia
section
variable {prog:Program} {w:World} {A:Around} {R:Result->Shared->Prop} {I:Addr} {fp wr:List Addr} {G:Array GenState->Array GenState->Prop} {n:Nat} {P:Nat->Value->Prop} {St:Nat->Shared->Prop}
def xm(W:WalksS prog w A.in1 I fp wr G n P St)(S:Addr)(hSf:S∉fp)(val:Nat->Int)(Ae:∀i v,P i v->∃t,v=.int (val i) t)(QJ:∀i,i<n->0<=val i/\val i<64)(hn:n<=2)(led:Bool) :
  ∀(k i:Nat) (s:Shared),n-i=k->i<=n->St i s->(∃es ep t,s.heap.get? S=some (dw es ep t)/\d0 led (lI val i) es t) ->
   (∀s',Moved (S::wr) G s s'->(∃es ep t,s'.heap.get? S=some (dw es ep t)/\d0 led (lI val n) es t)->R (.ok (.ret .none)) s') ->
   codeAny (model prog w) A (.builtin "set.update.loop" ⟨[.ref S,.ref I],[]⟩) R s:=by
 have VB:S∉wr:=λh=>hSf (W.sub _ h)
 have u0:∀b∈wr,b∈S::wr:=by grind
 intro k;induction k with
 | zero =>
  intro i s hk hi mQ hS hR;have Nr:i=n:=by lia
  subst Nr;refine il F.entry_set_update_loop ?_;rw[iZ yD _];refine ae (W.done s _ _ mQ λs' hm=>?_)
  exact ah (hR s' (hm.mono u0) (by
   obtain⟨es,ep,t,ho,rest⟩:=hS;exact⟨es,ep,t,hm.heap S _ VB ho,rest⟩))
 | succ k ih =>
  intro i s hk hi mQ hS hR;have dH:i<n:=by lia
  refine il F.entry_set_update_loop ?_;rw[iZ yD _];refine ae (W.item i s _ _ dH mQ λv s' hP Hh hm=>?_)
  obtain⟨t,rfl⟩:=Ae i v hP;obtain⟨es,ep,tb,ho,h2⟩:=hS;have kX:=hm.heap S _ VB ho;refine ae (cD ?_);unfold setAdd;refine cD ?_;refine ae ((intKind prog w).pyHash (intKind_is _ _ _ _) ?_);have VC:=lJ val i;refine Ad kX h2 (QJ i dH) (by lia) λb h' rp ZU t1 hsb Lx h2'=>?_
  refine ah ⟨km yD _,ih (i+1) _ (by lia) dH (W.frame _ s' _ _ Hh (Nat.le_succ _) λb hb o e=>?_) ⟨rp,ZU,t1,Lx,h2'⟩ λF6 QK QL=>?_⟩
  ·rw[hsb.2 b (λh:b=S=>hSf (by grind))];exact e
  ·refine hR F6 (Moved.trans W.gtrans ((hm.mono u0).then_heap (Nat.le_succ _) λb o hb e=>?_) QK) QL
   rw[hsb.2 b (λh:b=S=>hb (by grind))];exact e
end
section
variable {prog:Program} {w:World} {A:Around} {E:Value->Shared->Prop} {s:Shared}
def rz(a:Value)
  (h:Q₁ (.ref s.heap.objs.size) {s with heap:=s.heap.push {cls:=.type "set",dict:=none,data:=.set #[] 0 (.fresh 0 0 (!BT w))}}) :
  codeAny (model prog w) A (.call (.builtin "set.__new__") ⟨[.type "set",a],[]⟩) (wants Q₁ E) s:=by
 refine yZ ?_;refine ae (fj (F.newCall_set_1 a) (ah ⟨km F.plain_set_new _,il F.entry_set_new ?_⟩));rw[iZ F.plain_set_new _];unfold Builtin.«set.__new__» Builtin.Frozenset.newClass;have u0:=sub_set_self;obtain⟨hp,g,d,tk,os⟩:=s;dsimp only
 wp_walk
 refine yT (ah ?_);dsimp only
 simp only[newObj];refine ae (wpAny_alloc (ah ?_));exact ah h
end
def d0.nil(led:Bool):d0 led [] #[] (g8 #[] led):=by
 refine⟨λe he=>?_,List.Perm.refl _,.inl ⟨rfl,rfl,rfl⟩⟩
 cases he
section
variable {prog:Program} {w:World} {A:Around} {E:Value->Shared->Prop} {s:Shared}
set_option maxHeartbeats 3200000 in
theorem xp(hh:A.handled=none)(hl:s.heap.IsList l items)(hi:IntsAre items.toList ns)(hb:items.size<=2)(QJ:∀i,i<items.size->0<=ns.getD i 0/\ns.getD i 0<64)
  (h:∀(h':Heap) (tk:Nat) es ep t,h'.get? s.heap.objs.size=some (dw es ep t)->d0 (!BT w) (lI (λi=>ns.getD i 0) items.size) es t->(∀b o,b<s.heap.objs.size->s.heap.get? b=some o->h'.get? b=some o)->Q (.ref s.heap.objs.size) {s with heap:=h',toks:=tk}) :
  wpAny (model prog w) A (call (.type "set") [.ref l]) Q E s:=by
 obtain⟨c,tl,adE⟩:=F.called_set.mro;have abH:=F.called_set.made;have u0:=F.called_set.sub;refine o9 (yZ ?_);refine ah ⟨Code.quiet_builtin _ (by decide +kernel),il F.entry_type_call ?_⟩
 rw[Around.under_plain (weight_type_call_type "set" [.ref l] []) rfl];have h1:=F.called_set.notType;have h2:=F.called_set.canCreate;have hct:=F.typeCall_set_1 (.ref l)
 repeat (any_goals (first | assumption | wp_step))
 refine jb (rz (.ref l) (E:=E) (Q₁:=λobj s₁=>obj=.ref s.heap.objs.size/\s₁={s with heap:=s.heap.push {cls:=.type "set",dict:=none,data:=.set #[] 0 (.fresh 0 0 (!BT w))}}) ⟨rfl,rfl⟩) λr s₁ hr=>?_
 cases r with
 | error e=>exact hr
 | ok fl =>
  cases fl with
  | ret obj =>
   obtain⟨rfl,rfl⟩:=hr;obtain⟨led,ZV⟩:∃led,led = !BT w:=⟨_,rfl⟩
   rw[<-ZV];have hS:(s.heap.push {cls:=.type "set",dict:=none,data:=.set #[] 0 (.fresh 0 0 led)}).get? s.heap.objs.size=some {cls:=.type "set",dict:=none,data:=.set #[] 0 (.fresh 0 0 led)}:=bc _ rfl
   have hT:Shared.TypeIs {s with heap:=s.heap.push {cls:=.type "set",dict:=none,data:=.set #[] 0 (.fresh 0 0 led)}} (.ref s.heap.objs.size) "set":=⟨_,hS,rfl⟩
   have hli:=F.called_set.init.lookup;have hbi:=F.called_set.init.bind (.ref s.heap.objs.size)
   repeat (any_goals (first | assumption | wp_step))
   refine jb (codeAny_call_builtin (R:=wants (λr CS=>r=.none/\∃h' tk,CS={s with heap:=h',toks:=tk} /\
     (∃es ep t,h'.get? s.heap.objs.size=some (dw es ep t)/\d0 led (lI (λi=>ns.getD i 0) items.size) es t) /\
     (∀b o,b<s.heap.objs.size->s.heap.get? b=some o->h'.get? b=some o)) E) F.called_set.init.plain F.entry_set_init (check_set_init_1 hT ?_)) λZW CS Hj=>?_
   ·obtain⟨ol,SM,hcl,nl,Nc⟩:=hl;obtain⟨ZX,Nt,VD,Hk⟩:=ol;simp only at hcl Nc;subst hcl;subst Nc;have ZY:(s.heap.push {cls:=.type "set",dict:=none,data:=.set #[] 0 (.fresh 0 0 led)}).get? l=some {cls:=.type "list",dict:=Nt,data:=.seq items nl,slots:=Hk}:=aG _ SM
    have adF:=F.sub_list_set;have adG:=F.sub_list_frozenset;have hne:(Value.type "list"==Value.type "dict")=false:=by decide
    have VC:(s.heap.push {cls:=.type "set",dict:=none,data:=.set #[] 0 (.fresh 0 0 led)}).IsList l items:=⟨_,ZY,rfl,nl,rfl⟩
    unfold Builtin.«set.__init__» noKeywords Builtin.Frozenset.updateFrom
    generalize hPI:pyIter=PI
    wp_walk
    subst hPI;refine oJ VC ?_;refine ae (wpAny_runValue ?_);have XI:l<s.heap.objs.size:=aC SM;have Ae:∀(i:Nat) (v:Value),items[i]?=some v->∃t,v=.int ((λi=>ns.getD i 0) i) t:=λi v hv =>
     PyProof.Rows.IntsAre.int_at hi i v (by grind)
    refine xm ((Walks.list (by simp[hh]) _ l (by rw[eJ];exact aR (mB XI)) items).toS) s.heap.objs.size (by
     rw[eJ];simp only[aF,cH,aQ,aU,not_or];exact⟨aR (mE _),mJ XI⟩) (λi=>ns.getD i 0) Ae QJ hb led (items.size-0) 0 _ (by lia) (eL _)
     ⟨⟨_,bc _ rfl,rfl,rfl⟩,(VC.push _)⟩ ?hS0 ?hR
    case hS0 =>
     exact⟨#[],0,g8 #[] led,aG _ hS,d0.nil led⟩
    case hR =>
     intro s' hm EK;obtain⟨h',g',d',Jn,ON⟩:=s';have eg:g'=s.gens:=hm.gens;have ed:d'=s.drawn:=hm.drawn;have eo:ON=s.os:=hm.os;subst eg;subst ed;subst eo;show wpAny _ _ _ _ _ _;refine ah ?_;show wpAny _ _ (ret Value.none) _ _ _;refine ah ⟨rfl,h',Jn,rfl,EK,λb o hb e=>?_⟩
     have XJ:b≠s.heap.objs.size:=by grind
     have XM:b≠(s.heap.push {cls:=.type "set",dict:=none,data:=.set #[] 0 (.fresh 0 0 led)}).objs.size:=by
      rw[eJ];exact aR (mB hb)
     exact hm.heap b o (by grind) (aG _ (aG _ e))
   ·cases ZW with
    | error e=>exact Hj
    | ok VE =>
     cases VE with
     | ret r =>
      obtain⟨rfl,h',tk,rfl,⟨es,ep,t,EK,h2'⟩,XC⟩:=Hj
      repeat (any_goals (first | assumption | wp_step))
      exact h _ _ es ep t EK (by grind) XC
     | _=>exact Hj.elim
  | _=>exact hr.elim
end
section
variable {prog:Program} {w:World} {A:Around} {E:Value->Shared->Prop} {s:Shared} {a:Addr} {es:Array (Int×Value)} {ep:Nat} {t:SetTable}
def rA(hh:A.handled=none)(hS:s.heap.get? a=some (dw es ep t))(h2:d0 (!BT w) xs es t)
  (h:∀(h1 h':Heap) (tk:Nat) (D:Addr) (z6:Array Value) (Ly:List Int) (e:Nat),(∀b o,s.heap.get? b=some o->h1.get? b=some o)->(∀b o,h1.get? b=some o->h'.get? b=some o)->h1.objs.size<=D->h'.get? D=some (seqObj "list" z6 e)->IntsAre z6.toList Ly->Ly.Perm xs->Ly.Pairwise (· <= ·)->Q (.ref D) {s with heap:=h',toks:=tk}) :
  wpAny (model prog w) A (call (.builtin "sorted") [.ref a]) Q E s:=by
 have g:eM w a ep es t:=h2.ZT;obtain⟨f1,f2,f3⟩:=h2.fits;refine yx kind_sorted plain_sorted entry_sorted (args_sorted1 _) ?_;unfold Builtin.«sorted»;refine ae (ah ?_);refine ae (W.kdu_collect (Lr g) (by simp[hh]) hS (bh f3 (by decide)) λh' tk acc hk vf=>?_)
 have ZZ:acc.toList=(kK w a ep es).toList.map (·.2):=by
  refine tY λj=>?_
  rw[bK,oC,oC];by_cases hj:j<es.size
  ·have h1:j<acc.size:=by rw[vf.1];exact hj
   obtain⟨e,he,hv⟩:=vf.2 j acc[j] (by simp[h1])
   rw[he];simp[h1,hv]
  ·have h1:acc[j]?=none:=by
    have:=vf.1;simp;lia
   have h2:(kK w a ep es)[j]?=none:=by
    have:=g.size;simp;lia
   rw[h1,h2];rfl
 have hop:=xh w a ep es;have VF:=(hop.map _).trans h2.2.1;have dY:acc.toList.length<=2:=by
  rw[fE,vf.1];exact f3
 refine ae (wpAny_newList ?_ (bh dY (by decide)))
 have JE:(h'.push (seqObj "list" acc.toList.toArray 0)).get? h'.objs.size=some (seqObj "list" acc.toList.toArray 0):=bc _ rfl;show wpAny _ _ _ _ _ {s with heap:=h'.push (seqObj "list" acc.toList.toArray 0),toks:=tk}
 refine ae (cD (cV slot_list_sort ⟨_,JE,rfl⟩ entry_list_sort (list_sort_tree JE (by
  rw[ZZ];exact xj _ λe he=>by
   obtain⟨k,tk,q,_⟩:=h2.1 e (hop.mem_iff.mp he);exact⟨k,tk,q⟩) (by lia) λz6 Ly a1 a2 a3=>⟨_,rfl,?_⟩) (args_list_sort _)))
 obtain⟨e,Lz⟩:=sortedHeap_at JE;refine ah ⟨_,rfl,h h' _ tk h'.objs.size z6 Ly e hk (λb o hb=>?_) (az _) Lz a1 (a2.trans VF) a3⟩
 have dH:=aC hb;rw[sortedHeap_old (aR dH) (by rw[size_push'];exact mB dH)]
 exact aG _ hb
end
end PySem
namespace L2.U
open PySem PySem.Spec PyProof.Rows
def insI(x:Int):List Int->List Int
 | []=>[x]
 | y::r=>if x<=y then x::y::r else y::insI x r
def iO:List Int->List Int
 | []=>[]
 | x::r=>insI x (iO r)
theorem jF(x:Int):∀l:List Int,(insI x l).Perm (x::l)
 | []=>.refl _
 | y::r=>by
  unfold insI;split
  ·exact .refl _
  ·exact((jF x r).cons y).trans (.swap x y r)
theorem kL:∀l:List Int,(iO l).Perm l
 | []=>.refl _
 | x::r=>(jF x (iO r)).trans ((kL r).cons x)
theorem BQ(x:Int):∀l:List Int,l.Pairwise (· <= ·)->(insI x l).Pairwise (· <= ·)
 | [],_=>List.pairwise_singleton _ _
 | y::r,h=>by
  obtain⟨h1,h2⟩:=yO.mp h;unfold insI;split
  ·rename_i hx;refine yO.mpr ⟨λz hz=>?_,h⟩
   rcases aF.mp hz with rfl | hz
   ·exact hx
   ·exact Int.le_trans hx (h1 z hz)
  ·rename_i hx;refine yO.mpr ⟨λz hz=>?_,BQ x r h2⟩
   rcases aF.mp ((jF x r).mem_iff.mp hz)with rfl | hz
   ·lia
   ·exact h1 z hz
theorem xw:∀l:List Int,(iO l).Pairwise (· <= ·)
 | []=>.nil
 | x::r=>BQ x _ (xw r)
def Af:∀{us:List Value} {ns:List Int},IntsAre us ns->Vals (ns.map V.int) us:=by
 intro us ns h;induction h with
 | nil=>exact .nil
 | cons a t _ ih=>exact .cons ⟨t,rfl⟩ ih
theorem m6{K:W.Frag}:∀ns:List Int,ax K F (ns.map .int) (ns.map V.int)
 | []=>.nil
 | n::r=>.cons (aD.mpr rfl) (m6 r)
section
variable {X:Cx} {aa:Hp} {ab:Fz} {e o:Expr} {fe fo:Gx PV} {pos p lK zp ap cp:Pos}
def nC(h:starEach [e] X.env=(false,eval e X.env)::starEach [] X.env)(hq:wpAny M A (eval e X.env) (λv s1=>Q [v] s1) E s):wpAny M A (spliced (backTo pos (starEach [e] X.env))) Q E s:=by
 rw[h];exact Calls.spliced_cons (thn hq λv s1 q=>Calls.spliced_nil q)
def nD:bootBuiltins "sorted"=some (.builtin "sorted"):=by kernel_rfl
def Hl:bootBuiltins "set"=some (.type "set"):=by kernel_rfl
def VG(h:List ak)(p:PV):Option PV:=(fA h p).bind λqs=>(lB qs).bind λns=>if(ns.length<=2/\ns.all (λn=>decide (0<=n/\n<64))=true)then some (.lst ((iO (lI (λi=>ns.getD i 0) ns.length)).map .int))else none
def Hm(fe:Gx PV):Gx PV:=bnd fe λp=>hp λh=>VG h p
def QM(hh:X.A.handled=none)(LA:Gl X "sorted")(Ho:X.mg "sorted"=none)(hg:Gl X "set")(hm:X.mg "set"=none)(he:PE X e (tE X aa ab fe))(hs:starEach [e] X.env=[(false,eval e X.env)]) :
  PE X (.Call (.Name "sorted" p) [.Call (.Name "set" zp) [e] [] lK] [] pos) (tE X aa ab (Hm fe)):=by
 rintro af s σ H Q I ⟨F,st,Rp,h⟩
 have hA:=he af s σ H (λv H1=>∃F1 aM q,Rep X.K aa ab F1 aM σ H1/\bu X.K F1 q v/\Tx X aa ab (bu X.K) F1 aM (hp λh=>VG h q) σ Q) I ⟨F,st,Rp,h.bnd λq v F1 aM H1 R1 g1 b1 h1=>⟨F1,aM,q,R1,b1,h1⟩⟩
 refine fP (ld_blt I LA Ho nD ?_ (by decide) (by decide))
 refine yq (nC rfl ?_) rfl rfl;refine Call_ (ld_blt I hg hm Hl (eW (nC hs (thn hA λu s1 z9=>?_)) hs rfl))
 obtain⟨v,H1,I1,r1,F1,aM,q,R1,b1,h1⟩:=z9;obtain⟨o,e0,k⟩:=h1.hp;obtain⟨qs,e1,e0⟩:=aI e0;obtain⟨ns,f2,e0⟩:=aI e0;obtain⟨⟨SH,hal⟩,rfl⟩:=aB e0;obtain⟨a,vs,rfl,ha,fB⟩:=R1.at (cY e1) b1;cases r1;obtain⟨aA,r,pl,_⟩:=I1.list (iu.sq ha);have ev:=jg f2 fB;subst ev;have hi:=pd r;have dY:aA.length=ns.length:=by rw[<-r.length,aJ]
 have hsz:aA.toArray.size=ns.length:=by grind
 refine xp hh pl.isList hi (by lia) (λi hi'=>?_) λh' tk SA ep t hS h2 hk=>?_
 ·simp_all
 ·rw[hsz]at h2;have I2:Inv X af σ H1 {s1 with heap:=h',toks:=tk}:=I1.kept λb o e=>hk b o (aC e) e
  refine rA hh hS h2 λh1 Xy Jn D z6 Ly e k1 k2 hD Lz hI hp hu=>?_
  have I3:=I2.kept (t':=Jn) k1;have e1:=W.ksm_same (hp.trans (kL _).symm) hu (xw _);subst e1;have hz:=I3.hok.fresh hD;obtain⟨R2,s2⟩:=R1.laid (.lst ((iO (lI (λi=>ns.getD i 0) ns.length)).map V.int)) hz
  refine⟨.ref D,bM H1 D (.lst ((iO (lI (λi=>ns.getD i 0) ns.length)).map V.int)),I3.laid k2 hD ⟨?_,z6.toList,e,Af hI,Lz⟩,rfl,k _ _ _ R2 s2 (dJ.mpr ⟨_,_,rfl,iu.of aq,m6 _⟩)⟩
  rw[aJ,(kL _).length_eq];have:=lJ (λi=>ns.getD i 0) ns.length
  exact bh this (bh SH (by decide))
def Z2:PV->Option PV
 | .str a=>some (.bl (Txt.isdigit a))
 | _=>none
def QN(fo:Gx PV):Gx PV:=bnd fo λp=>gI (Z2 p)
def DH:J8 X "str.isdigit" (λx xs H Q=>∃a,x=.str a/\xs=[]/\Q (.bl (Txt.isdigit a)) H):=by
 rintro af s σ H x xs v us Q I rx rs ⟨a,e1,e2,q⟩
 subst e1 e2;obtain⟨t,rfl⟩:=rx;have YW:=rs.zero;subst YW;exact SC.isdigit ⟨.bl _,H,I,rfl,q⟩
def VH(ho:PE X o (tE X aa ab fo))(hb:attributeBase o "isdigit" X.env (eval o X.env)=eval o X.env)(fK:(ap.endLine==cp.line)=true):PE X (.Call (.Attribute o "isdigit" ap) [] [] cp) (tE X aa ab (QN fo)) :=
 (Gb F.plainAttrs_str F.slot_str_isdigit F.type_str_isdigit DH ho hb fK).imp λσ H Q ⟨F,st,R,h⟩=>⟨F,st,R,h.bnd λp v F1 aM H1 R1 g1 b1 h1=>by
  obtain⟨o,e,z⟩:=h1.gI;cases p<;>cases e
  rw[b7.mp b1];exact⟨rfl,_,rfl,rfl,z _ H1 F1 R1 (Gr.refl _) (bC.mpr rfl)⟩⟩
end
end L2.U
namespace PySem
open PyProof.Rows
namespace F
def eN:entryFor table "dict.update.loop"=some Builtin.«dict.update.loop» := entryFor_of_tree (by kernel_rfl)
def cB:plainId "dict.update.loop"=true:=by decide +kernel
end F
section
variable {prog:Program} {w:World} {K:Type} [DecidableEq K] {knd:KeyKind prog w K} {A:Around} {R:Result->Shared->Prop} {I:Addr} {fp wr:List Addr} {G:Array GenState->Array GenState->Prop} {n:Nat} {P:Nat->Value->Prop} {St:Nat->Shared->Prop}
def xx(h:Heap)(b:Addr)(key v:Value):Prop:=∃o m,h.get? b=some o/\o.cls=.type "tuple"/\o.data=.seq #[key,v] m
def nX(hp:xx s.heap b key v)(h:Q [key,v] s):wpAny (model prog w) A (Builtin.Dict.pairItems (.ref b)) Q E s:=by
 obtain⟨o,m,h1,h2,h3⟩:=hp;unfold Builtin.Dict.pairItems;refine ae (kr ⟨o,h1,h2⟩ ?_);rw[if_pos (by decide)]
 refine ae ?_;unfold seqItems?;obtain⟨ZX,Nt,VD,Hk⟩:=o;simp only at h2 h3;subst h2 h3
 wp_walk
 exact h
def DI(W:WalksS prog w A.in1 I fp wr G n P St)(S:Addr)(hSf:S∉fp)(hl:kvs.length=n)(hn:n<=sizeLine){s₀:Shared}
  (Ae:∀i v,P i v->∃b k key u,v=.ref b/\kvs[i]?=some (k,u)/\knd.is k key=true/\b∉S::wr/\xx s₀.heap b key u) :
  ∀(c i:Nat) (s:Shared),n-i=c->i<=n->St i s->(∀b o,b∉S::wr->s₀.heap.get? b=some o->s.heap.get? b=some o)->s.heap.DictOf knd S (merged [] (kvs.take i)) ->
   (∀s',Moved (S::wr) G s s'->s'.heap.DictOf knd S (merged [] kvs)->R (.ok (.ret .none)) s') ->
   codeAny (model prog w) A (.builtin "dict.update.loop" ⟨[.ref S,.ref I,rawInt (i:Int),.none],[]⟩) R s:=by
 have VB:S∉wr:=λh=>hSf (W.sub _ h)
 have u0:∀b∈wr,b∈S::wr:=by grind
 intro c;induction c with
 | zero =>
  intro i s hk hi mQ ho hS hR;have Nr:i=n:=by lia
  subst Nr;refine il F.eN ?_;rw[iZ F.cB _];refine ae (W.done s _ _ mQ λs' hm=>?_)
  refine ae (ah ?_);rw[mx (gF ‹_›)]at hS;refine ah (hR s' (hm.mono u0) ?_);obtain⟨o,es,ep,h1,r⟩:=hS;exact⟨o,es,ep,hm.heap S _ VB h1,r⟩
 | succ c ih =>
  intro i s hk hi mQ ho hS hR;have dH:i<n:=by lia
  refine il F.eN ?_;rw[iZ F.cB _];refine ae (W.item i s _ _ dH mQ λv s' hP Hh hm=>?_)
  obtain⟨b,k,key,u,rfl,hki,OH,hbn,VI⟩:=Ae i v hP;have kX:∀b o,b∉S::wr->s₀.heap.get? b=some o->s'.heap.get? b=some o:=λb o hb e=>hm.heap b o (λz=>hb (bF _ z)) (ho b o hb e)
  refine ae (cD ?_);refine ae (wpAny_tryCatch (nX (by
   obtain⟨o,m,h1,r⟩:=VI;exact⟨o,m,kX b o hbn h1,r⟩) ?_))
  refine cD ?_;have hsz:(merged [] (kvs.take i)).length<=sizeLine:=by
   have:=merged_length_le ([]:List (K×Value)) (kvs.take i);rw[oT]at this;simp at this
   lia
  refine wpAny_dictSet_pairs OH (by
   obtain⟨o,es,ep,h1,r⟩:=hS;exact⟨o,es,ep,hm.heap S _ VB h1,r⟩) λh' hd hsb=>?_
  rw[<-merged_take_succ _ _ _ _ hki]at hd;have Z4:∀b o,b∉S::wr->s₀.heap.get? b=some o->h'.get? b=some o:=λb o hb e=>(hsb.2 b (λh:b=S=>hb (by grind))).trans (kX b o hb e)
  refine ah ⟨km F.cB _,ih (i+1) _ (by lia) dH (W.frame _ s' _ _ Hh (ue ..) λb hb o e=>?_) Z4 hd λF6 QK QL=>?_⟩
  ·exact(hsb.2 b (λh:b=S=>hSf (by grind))).trans e
  ·refine hR F6 (Moved.trans W.gtrans ((hm.mono u0).then_heap (ue ..) λb o hb e=>?_) QK) QL
   exact(hsb.2 b (λh:b=S=>hb (by grind))).trans e
end
namespace F
def rD:typeLookup (.type "tuple") "keys"=pure none:=by rw[oV,oB];kernel_rfl
end F
section
variable {prog:Program} {w:World} {A:Around} {E:Value->Shared->Prop} {s:Shared} {a:Addr} {o:Obj} {xs:Array Value} {k:Nat} {Q:Option Value->Shared->Prop}
def nY(hx:s.heap.get? a=some o)(hc:o.cls=.type "tuple")(zO:o.data=.seq xs k)(hd:o.dict=none)(hA:A.handled=none)
  (h:∀h' tk,(∀b ob,s.heap.get? b=some ob->h'.get? b=some ob)->Q none {s with heap:=h',toks:=tk}) :
  wpAny (model prog w) A (getAttr? (.ref a) "keys") Q E s:=by
 obtain⟨c,dct,dat,sl⟩:=o;simp only at hc zO hd;subst hc zO hd;obtain⟨hp,g,d,tk,os⟩:=s;have hT:∀Jn,(⟨hp,g,d,Jn,os⟩:Shared).TypeIs (.ref a) "tuple":=λ_=>⟨_,hx,rfl⟩
 have f1:=sub_AttributeError;have f3:=yw.lookup;have f4:=yw.bind (.ref a);have f5:=am_tuple_getattr_none;unfold getAttr? getAttrBy? getAttrBy
 repeat (any_goals (first | assumption | exact hT _ | ((with_reducible show wpAny _ _ (call (Value.builtin "tuple.__getattribute__") _ _) _ _ _);refine gG yw (hT _) am_entry_tuple_getattribute (F.args_tuple_getattribute_2 _ _) (meets_getattribute_miss_tuple a xs k sl "keys" _ F.rD (by decide +kernel) (by decide +kernel)) ⟨hx,hA,λh' Jn e zL=>?_⟩) | wp_step))
 obtain⟨t',u',he⟩:=zL.there;show wpAny _ _ (getattributeRaised _ _ _ _ _ _ _) _ _ _;unfold getattributeRaised
 repeat (any_goals (first | assumption | wp_step))
 exact h _ _ zL.keeps
end
section
variable {prog:Program} {w:World} {A:Around} {E:Value->Shared->Prop} {s:Shared} {K:Type} [DecidableEq K] {knd:KeyKind prog w K}
def Ag(hh:A.handled=none)(hx:s.heap.get? l=some ol)(hc:ol.cls=.type "tuple")(zO:ol.data=.seq items m)(Z5:ol.dict=none)
  (hi:∀(i:Nat) (v:Value),items[i]?=some v->∃b k key u,v=.ref b/\kvs[i]?=some (k,u)/\knd.is k key=true/\xx s.heap b key u) (hlk:kvs.length=items.size) (hb:items.size<=sizeLine)
  (h:∀(h':Heap) (tk:Nat),h'.DictOf knd s.heap.objs.size (merged [] kvs)->(∀b o,b<s.heap.objs.size->s.heap.get? b=some o->h'.get? b=some o)->Q (.ref s.heap.objs.size) {s with heap:=h',toks:=tk}) :
  wpAny (model prog w) A (call (.type "dict") [.ref l]) Q E s:=by
 refine callType_codes (Q₁:=λobj s₁=>obj=.ref s.heap.objs.size/\s₁={s with heap:=s.heap.push {cls:=.type "dict",data:=.dict #[]}}) F.kt_called_dict (F.kt_typeCall_dict_1 _) F.entry_dict_init (kt_code_dict_new _ ⟨rfl,rfl⟩) ?_
 rintro obj s₁ ⟨rfl,rfl⟩
 have Hq:(s.heap.push {cls:=.type "dict",data:=.dict #[]}).DictOf knd s.heap.objs.size []:=Heap.DictOf.new s.heap
 have zL:(s.heap.push {cls:=.type "dict",data:=.dict #[]}).get? l=some ol:=aG _ hx
 have XI:=aC hx;refine⟨Hq.typeIs,F.args_dict_init_2 _ _,?_⟩;unfold Builtin.«dict.__init__»;refine ae ?_;unfold Builtin.Dict.selfAndRest;refine ae (yI Hq.typeIs ?_);refine ah ?_;show wpAny _ _ (Builtin.Dict.updateFrom "dict.__init__" s.heap.objs.size (.ref l) [] .none) _ _ _;unfold Builtin.Dict.updateFrom;refine ae (kr ⟨ol,zL,hc⟩ ?_);rw[if_pos (by decide)]
 refine ae (nY zL hc zO Z5 (by simp[hh]) λh2 tk2 kp=>?_)
 rw[if_pos (show(none:Option Value).isNone=true from rfl)]
 have hx2:=kp l ol zL;have Nu:h2.DictOf knd s.heap.objs.size []:=by
  obtain⟨o,es,ep,h1,r⟩:=Hq;exact⟨o,es,ep,kp _ _ h1,r⟩
 have ht2:h2.IsTuple l items:=⟨ol,hx2,hc,m,zO⟩;refine ae (gH ?_);refine ae ?_;refine yQ ht2 ?_;refine ah ⟨km F.cB _,?_⟩;have Z6:s.heap.objs.size<h2.objs.size:=by
  obtain⟨o,_,_,h1,_⟩:=Nu;exact aC h1
 have Z7:=aR (kn XI Z6);have Ae:∀i (v:Value),items[i]?=some v->∃b k key u,v=.ref b/\kvs[i]?=some (k,u)/\knd.is k key=true/\b∉[s.heap.objs.size,h2.objs.size]/\xx s.heap b key u:=λi v hv=>by
  obtain⟨b,k,key,u,e1,e2,e3,e4⟩:=hi i v hv;refine⟨b,k,key,u,e1,e2,e3,?_,e4⟩;obtain⟨o,_,ho,_⟩:=e4;have:=aC ho;simp only[aF,aQ,aU,not_or];exact⟨aR this,aR (kn this Z6)⟩
 refine DI (knd:=knd) (s₀:=s) ((Walks.tuple (by simp[hh]) h2.objs.size l Z7 items).toS) s.heap.objs.size (by grind) hlk hb Ae (items.size-0) 0 _ (by lia) (eL _) ⟨⟨_,bc _ rfl,rfl,rfl⟩,ht2.push _⟩ (λb o _ e=>aG _ (kp _ _ (aG _ e))) ?_ ?_
 ·obtain⟨o,es,ep,h1,r⟩:=Nu;exact⟨o,es,ep,aG _ h1,r⟩
 ·intro s' hm EK;obtain⟨h',g',d',Jn,ON⟩:=s';have eg:g'=s.gens:=hm.gens;have ed:d'=s.drawn:=hm.drawn;have eo:ON=s.os:=hm.os;subst eg;subst ed;subst eo;refine⟨rfl,h h' Jn EK λb o hb e=>?_⟩
  refine hm.heap b o ?_ (aG _ (kp _ _ (aG _ e)));simp only[aF,aQ,aU,not_or];exact⟨aR hb,aR (kn hb Z6)⟩
end
end PySem
namespace L2.U
open PySem PySem.Spec PyProof.Rows
section
variable {X:Cx} {a b:Expr} {ta tb:TE} {p cp bp:Pos}
def nE(K:W.Frag)(H:Hp):List V->List (da×V)->Prop:=Paired λv kv=>∃c,v=.ref c/\fX K H c [kV kv.1,kv.2]
def lM(kvs:List (da×V)):List (da×V):=kvs.foldl (λacc kv=>putK acc kv.1 kv.2) []
def VJ(K:W.Frag):R2:=λx y H Q=>∃a b xs ys kvs,x=.ref a/\y=.ref b/\fX K H a xs/\fX K H b ys/\xs≠[]/\ys≠[]/\xs.length+ys.length<=1000/\nE K H (xs++ys) kvs/\∀p,H p=none->Q (.ref p) (bM H p (.dK (lM kvs)))
theorem xy:∀{kvs:List (da×V)} {vs:List (da×Value)} {acc:List (da×V)} {VL:List (da×Value)},L2.KV kvs vs->L2.KV acc VL->L2.KV (kvs.foldl (λacc kv=>putK acc kv.1 kv.2) acc) (vs.foldl (λacc kv=>stored acc kv.1 kv.2) VL)
 | _,_,_,_,.nil,h=>h
 | _,_,_,_,.cons (a:=x) r t,h=>by
  have h2:=h.put x.1 r.2;rw[uk,uk];rw[r.1]at h2 ⊢;exact xy (t) h2
def Hr(f:List (da×V)):∀acc:List (da×V),(f.foldl (λacc kv=>putK acc kv.1 kv.2) acc).length<=acc.length+f.length:=by
 induction f with
 | nil=>intro acc;simp
 | cons x f ih =>
  intro acc;have:=ih (putK acc x.1 x.2);have:=By acc x.1 x.2;rw[uk,dh]
  lia
theorem BR(I:Inv X af σ H s):∀{vs:List V} {kvs:List (da×V)},nE X.K H vs kvs->∀{us:List Value},Vals vs us->∃SS:List (da×Value),L2.KV kvs SS/\SS.length=us.length/\∀(i:Nat) (u:Value),us[i]?=some u->∃b k key w,u=.ref b/\SS[i]?=some (k,w)/\(bE X.prog X.w).is k key=true/\xx s.heap b key w
 | _,_,.nil,us,r=>by
  cases r;exact⟨[],.nil,rfl,λi u h=>by cases h⟩
 | _,_,.cons (b:=kv) q t,us,r=>by
  cases r with
  | cons r1 r2 =>
   obtain⟨SS,g1,g2,g3⟩:=BR I t r2;obtain⟨c,rfl,hs⟩:=q;obtain⟨aA,rr,⟨o,h1,h2,n,h3⟩,_⟩:=I.tuple hs;obtain⟨key,w,e,hk,hw⟩:=rr.two;subst e;cases r1;refine⟨(kv.1,w)::SS,.cons ⟨rfl,hw⟩ g1,by rw[dh,dh,g2],λi u hu=>?_⟩
   cases i with
   | zero =>
    cases hu;exact⟨c,kv.1,key,w,rfl,rfl,ny hk,o,n,h1,h2,h3⟩
   | succ i=>exact g3 i u hu
def LB(hh:X.A.handled=none)(hg:Gl X "dict")(hm:X.mg "dict"=none)(ha:PE X a ta)(hb:PE X b tb)(hs:starEach [.BinOp a .Add b bp] X.env=[(false,eval (.BinOp a .Add b bp) X.env)]):PE X (.Call (.Name "dict" p) [.BinOp a .Add b bp] [] cp) (SD (VJ X.K) ta tb):=by
 intro af s σ H Q I h;refine Call_ (ld_blt I hg hm (show bootBuiltins "dict"=some (.type "dict") by decide +kernel) (eW (nC hs (wpAny_BinOp (JP ha hb I h λv u s2 x y H2 I2 rx ry q=>?_))) hs rfl))
 obtain⟨t1,t2,xs,ys,kvs,rfl,rfl,h1,h2,h3,h4,h5,h6,q⟩:=q;cases rx;cases ry;obtain⟨aA,r1,p1,_⟩:=I2.tuple h1;obtain⟨et,r2,p2,_⟩:=I2.tuple h2;have hz:aA.length+et.length<=1000:=by rw[<-r1.length,<-r2.length];exact h5
 have abM:1000<=sizeLine:=by decide
 refine HT.Be p1 p2 (λz=>h3 (r1.la.mp z)) (λz=>absurd (r2.la.mp z) h4) (λz=>?_) (bh ‹_› ‹_›)
 obtain⟨SS,g1,g2,g3⟩:=BR I2 h6 (r1.append r2);obtain⟨DJ,adN⟩:=nw (s2.heap.push {cls:=.type "tuple",data:=.seq (aA++et).toArray})
 have hsz:(aA++et).toArray.size=aA.length+et.length:=by simp
 refine Ag (knd:=bE X.prog X.w) hh (bc _ rfl) rfl rfl rfl (λi v hv=>?_) (by rw[g2];simp) (by grind) λh' tk dd kp=>?_
 ·rw[List.getElem?_toArray]at hv;obtain⟨c,k,key,w,e1,e2,e3,o,n,e4,e5⟩:=g3 i v hv;exact⟨c,k,key,w,e1,e2,e3,o,n,aG _ e4,e5⟩
 ·have hS:s2.heap.objs.size<=(s2.heap.push {cls:=.type "tuple",data:=.seq (aA++et).toArray}).objs.size:=by simp_all
  have Ke:=xy g1 .nil;refine⟨.ref _,_,I2.laid (λb u e=>kp b u (bR (aC e) hS) (aG _ e)) hS ?_,rfl,q _ (I2.hok.fresh hS)⟩
  refine⟨?_,my.mpr (cx (aR (bR (pN I2) hS))),_,Ke,dd⟩;have:=Hr kvs [];have e:=mI g1;rw[cq]at g2;unfold lM;simp only[oZ]at this
  lia
end
def Ht:PV->Option (da×PV)
 | .nd .aw [k,v]=>(GA k).map λj=>(j,v)
 | _=>none
def BS:List (da×PV)->ak->ak
 | [],c=>c
 | (k,v)::r,c=>match c.k with
  | .iy t ks=>BS r (zP t [k] v ks c.ps)
  | _=>c
def VM(ps:List PV):Option ak:=if ps.length<=1000 then(bW Ht ps).map λkvs=>BS kvs ⟨.iy false [],[]⟩else none
section
variable {K:W.Frag} {F:Fz}
theorem xB:∀{ps:List PV} {kvs:List (da×PV)} {vs:List V},bW Ht ps=some kvs->ax K F ps vs->∃ks:List (da×V),nE K F.F vs ks/\ks.map (·.1)=kvs.map (·.1)/\ax K F (kvs.map (·.2)) (ks.map (·.2))
 | [],_,_,h,b=>by
  cases h;rw[b.cj];exact⟨[],.nil,rfl,.nil⟩
 | p::ps,kvs,vs,h,b=>by
  obtain⟨kv,r,h1,h2,rfl⟩:=cZ h;obtain⟨v,w,rfl,b1,b2⟩:=b.bU;obtain⟨ks,g1,g2,g3⟩:=xB h2 b2;unfold Ht at h1;split at h1
  ·rename_i k q;obtain⟨j,e1,rfl⟩:=aV h1;obtain⟨c,ws,rfl,hs,hb⟩:=bH.mp b1;obtain⟨x,y,rfl,bx,bq⟩:=jB hb;rw[pX e1 bx]at hs;exact⟨(j,y)::ks,.cons ⟨c,rfl,hs⟩ g1,by rw[bz,bz,g2],.cons bq g3⟩
  ·cases h1
theorem BU:∀{kvs:List (da×PV)} {ks:List (da×V)} {acc:List (da×V)} {ps:List PV},ks.map (·.1)=kvs.map (·.1)->ax K F (kvs.map (·.2)) (ks.map (·.2))->ax K F ps (acc.map (·.2)) ->
  ∃rg ym,BS kvs ⟨.iy false (acc.map λy=>[y.1]),ps⟩=⟨.iy false rg,ym⟩/\(ks.foldl (λacc kv=>putK acc kv.1 kv.2) acc).map (λy=>[y.1])=rg/\ax K F ym ((ks.foldl (λacc kv=>putK acc kv.1 kv.2) acc).map (·.2))
 | [],ks,acc,ps,h1,h2,h3=>by
  have:=List.map_eq_nil_iff.mp h1;subst this;exact⟨_,_,rfl,rfl,h3⟩
 | (k,q)::kvs,[],acc,ps,h1,h2,h3=>by cases h1
 | (k,q)::kvs,(j,v)::ks,acc,ps,h1,h2,h3=>by
  simp only[bz,za]at h1;obtain⟨rfl,h1⟩:=h1;obtain⟨v',w,e,b1,b2⟩:=h2.bU;cases e;obtain⟨rg,ym,e1,e2,e3⟩:=GB b1 h3;obtain⟨ks2,ps2,e4,e5,e6⟩:=BU h1 b2 e3;refine⟨ks2,ps2,?_,e5,e6⟩;show BS kvs (zP false [j] q (acc.map λy=>[y.1]) ps)=_
  rw[e1,<-e2];exact e4
end
def LC{K:W.Frag}(h:VM ps=some c)(b:ax K F ps vs):∃ks:List (da×V),nE K F.F vs ks/\ps.length<=1000/\∃rg qs,c=⟨.iy false rg,qs⟩/\(lM ks).map (λy=>[y.1])=rg/\ax K F qs ((lM ks).map (·.2)):=by
 obtain⟨hl,h⟩:=bO h;obtain⟨kvs,h1,rfl⟩:=aV h;obtain⟨ks,g1,g2,g3⟩:=xB h1 b;obtain⟨rg,ym,e1,e2,e3⟩:=BU (acc:=[]) g2 g3 .nil;exact⟨ks,g1,hl,rg,ym,e1,e2,e3⟩
theorem nE.mono{K:W.Frag}(h:cg F G):∀{vs:List V} {ks:List (da×V)},nE K F vs ks->nE K G vs ks
 | _,_,.nil=>.nil
 | _,_,.cons ⟨c,e,q⟩ t=>.cons ⟨c,e,aK h q⟩ (nE.mono h t)
def LD:PV->Option (List PV)
 | .nd .aw ps=>some ps
 | _=>none
def Z8(p q:PV):Gx PV:=λst=>(LD p).bind λps=>(LD q).bind λqs=>if(ps.isEmpty || qs.isEmpty)=true then none else(VM (ps++qs)).bind λc=>lr c st
def Hu(fa fb:Gx PV):Gx PV:=bnd fa λp=>bnd fb λq=>Z8 p q
section
variable {X:Cx} {aa:Hp} {ab:Fz} {a b e:Expr} {fa fb fe:Gx PV} {p cp bp:Pos}
def QO(hh:X.A.handled=none)(hg:Gl X "dict")(hm:X.mg "dict"=none)(ha:PE X a (tE X aa ab fa))(hb:PE X b (tE X aa ab fb))(hs:starEach [.BinOp a .Add b bp] X.env=[(false,eval (.BinOp a .Add b bp) X.env)]):PE X (.Call (.Name "dict" p) [.BinOp a .Add b bp] [] cp) (tE X aa ab (Hu fa fb)) :=
 (LB hh hg hm ha hb hs).imp λσ H Q ⟨F,st,R,h⟩=>⟨F,st,R,h.bnd λq v F1 aM H1 R1 g1 b1 h1=>⟨F1,aM,R1,h1.bnd λq2 v2 F2 dG H2 R2 g2 b2 h2=>by
  obtain⟨r,e1,e2⟩:=h2;obtain⟨ps,e3,e1⟩:=aI e1;obtain⟨qs,e4,e1⟩:=aI e1;split at e1
  ·cases e1
  ·rename_i hne;obtain⟨c,e5,e1⟩:=aI e1;have t1:q=.aw ps:=by
    unfold LD at e3;split at e3
    ·grind
    ·cases e3
   have t2:q2=.aw qs:=by
    unfold LD at e4;split at e4
    ·grind
    ·cases e4
   subst t1 t2;obtain⟨a1,vs,rfl,VA,XJ⟩:=bH.mp (b1.mono g2);obtain⟨a2,ws,rfl,CY,XM⟩:=bH.mp b2;obtain⟨ks,k1,hl,rg,ym,rfl,e6,e7⟩:=LC e5 (XJ.append XM);simp only[ug,t9,not_or]at hne;rw[cq]at hl;refine⟨a1,a2,vs,ws,ks,rfl,rfl,aK R2.sub VA,aK R2.sub CY,λz=>hne.1 ?_,λz=>hne.2 ?_,by rw[<-XJ.length,<-XM.length];exact hl,k1.mono R2.sub,λp hp=>?_⟩
   ·subst z;exact j1 XJ.length
   ·subst z;exact j1 XM.length
   ·exact Tx.lr (show Tx X aa ab (bu X.K) F2 dG (lr ⟨.iy false rg,ym⟩) σ Q from⟨r,e1,e2⟩) R2 hp ⟨lM ks,aq,e6,rfl⟩ e7⟩⟩
end
def QP:List PV->Option (List Int)
 | [.int n]=>if 0<=n/\n<=1000 then some (rangeInts 0 1 n.toNat)else none
 | [.int a,.int b]=>if 0<=a/\a<=b/\b<=1000 then some (rangeInts a 1 (b-a).toNat)else none
 | _=>none
def lN(m:Nat)(ps:List PV):Gx PV:=λst=>match m with
 | 0=>some (.ok (.lst ps),st)
 | _=>lr ⟨.lst,ps⟩ st
def Z9(m:Nat)(ts:Gx (List PV)):Gx PV:=bnd ts λps=>bnd (gI (QP ps)) λl=>lN m (l.map .int)
def o8:bootBuiltins "range"=some (.type "range"):=by kernel_rfl
section
variable {X:Cx} {aa:Hp} {ab:Fz} {e:Expr} {es:List Expr} {ts:Gx (List PV)} {pos p lK zp:Pos} {m:Nat}
def Tx.lN{st:bJ}(h:Tx X aa ab (bu X.K) F st (lN m ps) σ Q)(R:Rep X.K aa ab F st σ H)(hq:H q=none)(hb:ax X.K F ps vs):Q (.ref q) (bM H q (.lst vs)):=by
 cases m with
 | zero =>
  obtain⟨r,e1,e2⟩:=h;cases e1;obtain⟨R2,s2⟩:=R.laid (.lst vs) hq;exact e2 _ _ _ R2 s2 (dJ.mpr ⟨q,vs,rfl,iu.of aq,hb.mono s2⟩)
 | succ m=>exact Tx.lr (h) R hq aq hb
def Ah(h:ItemsOf (fun(i:Nat) (v:Value)=>∃t:Tok,v=Value.int (a+i*c) t) acc n):Vals ((rangeInts a c n).map V.int) acc.toList:=by
 have:∀l k,(∀j v,l[j]?=some v->∃t:Tok,v=Value.int (a+(k+j:Nat)*c) t)->Vals (((List.range' k l.length).map fun(i:Nat)=>a+i*c).map V.int) l:=by
  intro l;induction l with
  | nil=>intro k _;exact .nil
  | cons x l ih =>
   intro k hx;obtain⟨t,ht⟩:=hx 0 x rfl;rw[dh,List.range'_succ,bz,bz];refine .cons ⟨t,by rw[ht];rfl⟩ (ih (k+1) λj v hv=>?_)
   have:=hx (j+1) v (by simpa using hv)
   rw[show k+(j+1)=k+1+j by lia]at this
   exact this
 have h2:=this acc.toList 0 λj v hv=>by
  rw[kq];exact h.2 j v (by rw[<-oC];exact hv)
 rw[fE,h.1,<-List.range_eq_range']at h2;exact h2
def VN(hh:X.A.handled=none)(LA:Gl X "list")(Ho:X.mg "list"=none)(hg:Gl X "range")(hm:X.mg "range"=none)(ha:PA X (e::es) (tA X aa ab ts))(hs:starEach (e::es) X.env=(false,eval e X.env)::starEach es X.env)(CY:(backTo lK (starEach es X.env)).any (·.1)=false) :
  PE X (.Call (.Name "list" p) [.Call (.Name "range" zp) (e::es) [] lK] [] pos) (tE X aa ab (Z9 m ts)):=by
 rintro af s σ H Q I ⟨F,st,Rp,h⟩
 refine fP (ld_blt I LA Ho (iE .list) ?_ (by decide) (by decide))
 refine eW (nC rfl ?_) rfl rfl;have hA:=ha lK af s σ H (λvs H'=>∃F' bI ps,Rep X.K aa ab F' bI σ H'/\ax X.K F' ps vs/\Tx X aa ab (bu X.K) F' bI (bnd (gI (QP ps)) λl=>lN m (l.map .int)) σ Q) I ⟨F,st,Rp,h.bnd λps vs F1 aM H1 R1 g1 b1 h1=>⟨F1,aM,ps,R1,b1,h1⟩⟩
 refine Call_ (ld_blt I hg hm o8 (eW (thn hA λus s1 z9=>?_) hs CY))
 obtain⟨vs,H1,I1,r1,F1,aM,ps,R1,b1,h1⟩:=z9;obtain⟨ns,f2,h1⟩:=At.gI (At.bnd h1);have gh:∀r h1 tk1 (a b c:Int) (t u v:Tok) (n:Nat),(∀b o,s1.heap.get? b=some o->h1.get? b=some o)->IsRange h1 r a b c t u v->Builtin.Range.small a b c=true->Builtin.Range.rangeSize a b c=n->n<=3000->ns=rangeInts a c n ->
   wpAny (model X.prog X.w) X.A (call (.type "list") [.ref r]) (EP X af σ Q) X.xe {s1 with heap:=h1,toks:=tk1}:=λr h2 tk1 a b c t u v n hk hr QJ hn hle Df=>by
  refine call_list_range hh hr QJ hn (by lia) λh' tk acc c' Xv hS vf=>?_
  have I2:=I1.kept (t':=tk1) hk;have hz:=I2.hok.fresh (az _);have hv:=Ah vf;rw[<-Df]at hv;refine⟨.ref h2.objs.size,bM H1 h2.objs.size (.lst (ns.map V.int)),I2.laid Xv (az _) ⟨?_,acc.toList,c',hv,hS⟩,rfl,Tx.lN h1 R1 hz (m6 ns)⟩;rw[aJ,Df,rangeInts_length];exact bh hle (by decide)
 clear h1;unfold QP at f2;split at f2
 ·rename_i n;obtain⟨⟨h0,h1⟩,e1⟩:=aB f2;obtain⟨v,rfl,bv⟩:=cG b1;rw[aD.mp bv]at r1;obtain⟨u,rfl,ru⟩:=iJ r1;obtain⟨tk0,rfl⟩:=ru;refine call_range_1 ?_;refine gh _ _ _ 0 n 1 _ _ _ n.toNat (λb o e=>aG _ e) (ux ..) ?_ ?_ (by lia) e1.symm
  ·exact small_one (by decide) (by decide) (by lia) (by lia)
  ·unfold Builtin.Range.rangeSize;rw[if_pos (by decide)]
   split<;>lia
 ·rename_i a b;obtain⟨⟨h0,h1,h2⟩,e1⟩:=aB f2;obtain⟨v1,v2,rfl,bv1,bv2⟩:=jB b1;rw[aD.mp bv1,aD.mp bv2]at r1;obtain⟨u1,u2,rfl,U4,ru2⟩:=FU r1;obtain⟨k1,rfl⟩:=U4;obtain⟨k2,rfl⟩:=ru2;refine call_range_2 ?_;refine gh _ _ _ a b 1 _ _ _ (b-a).toNat (λb o e=>aG _ e) (ux ..) (small_one (by lia) (by lia) (by lia) (by lia)) (rangeSize_nat a b) (by lia) e1.symm
 ·cases f2
end
end L2.U
namespace PySem
open PyProof.Rows PySem.W
section
variable {prog:Program} {w:World} {A:Around} {d:Addr} {es:Array DictEntry} {ep:Nat}
def Raw.at{h h':Heap}(x:Raw h d es ep)(e:∀o,h.get? d=some o->h'.get? d=some o):Raw h' d es ep:=let ⟨o,ho,r⟩:=x;⟨o,e _ ho,r⟩
def DK(hh:A.handled=none)(I:Addr)(hne:d≠I):Walks prog w A I [I,d] [I] es.size (λi v=>∃e,es[i]?=some e/\e.key=v) (λi h=>h.IsKeyIter I d i es.size ep/\Raw h d es ep) where
 sub:=λb hb=>by simp at hb;simp[hb]
 frame:=λ_ _ _ st hk=>⟨st.1.at λo e=>hk I (by simp) o e,st.2.at λo e=>hk d (by simp) o e⟩
 item:=λi s Q E hi st hQ=>lF hh st.1 st.2 (λe he h' it hs=>hQ _ h' s.toks ⟨e,he,rfl⟩ ⟨it,st.2.at λo x=>hs.extBut d o hne x⟩ λb o hb x=>hs.extBut b o (λz=>hb (by simp[z])) x) λz=>by rw[ie hi]at z;cases z
 done:=λs Q E st hQ=>lF hh st.1 st.2 (λe he=>by rw[mw (az _)]at he;cases he) λ_ h' eb=>hQ h' s.toks λb o hb x=>eb b o (λz=>hb (by simp[z])) x
 self:=λ_ _ _ _ st h=>wpAny_pyIter_keyiter st.1 h
def LF(lo:(d==sysModules)=false):KdlSrc prog w "dict" d d es.size (λi v=>∃e,es[i]?=some e/\e.key=v) (λh=>Raw h d es ep) where
 type:=λ_ ⟨o,ho,hc,_⟩=>⟨o,ho,hc.1⟩
 there:=λ_ ⟨_,ho,_⟩=>⟨aC ho,aC ho⟩
 keep:=λ_ _ hm hk=>hm.at λo e=>hk d (.inl rfl) o e
 notList:=by decide
 notTuple:=by decide
 hint:=λ_ _ _ _ ⟨o,ho,hc,_⟩ hq=>kdl_hint_dict ⟨o,ho,hc.1⟩ hq
 iter:=λ_ _ hh hm=>⟨_,_,(λ_ _ hq=>wX lo hm hq),DK hh _ (by obtain⟨o,ho,_⟩:=hm;exact aR (aC ho)),⟨⟨_,bc _ rfl,rfl,rfl⟩,hm.at λo e=>aG _ e⟩⟩
end
end PySem
namespace L2.U
open PySem PySem.Spec PyProof.Rows
section
variable {X:Cx} {aa:Hp} {ab:Fz} {e:Expr} {fe:Gx PV} {pos p:Pos} {m:Nat}
theorem Nv{K:W.Frag}{F:Fz}:∀{xs:List (List da×Addr×Value)},dB K F.F xs->ax K F (jm (xs.map (·.1))) (xs.map λz=>V.ref z.2.1)
 | [],_=>.nil
 | z::xs,h=>.cons (bH.mpr ⟨_,_,rfl,h z bQ,oq _⟩) (Nv λy hy=>h y (bF _ hy))
theorem Nw:∀(xs:List (List da×Addr×Value)) (us:List Value),us.length=xs.length->(∀(j:Nat) (u:Value),us[j]?=some u->∃z:List da×Addr×Value,xs[j]?=some z/\u=Value.ref z.2.1)->Vals (xs.map λz=>V.ref z.2.1) us
 | [],[],_,_=>.nil
 | [],_::_,h,_=>nomatch h
 | _::_,[],h,_=>nomatch h
 | z::xs,u::us,h,hu=>by
  obtain⟨y,h1,rfl⟩:=hu 0 u rfl;cases h1;exact .cons rfl (Nw xs us (Nat.succ.inj h) λj v hv=>hu (j+1) v (by simpa using hv))
end
end L2.U
namespace PySem.W
open PySem PyProof.Rows
abbrev Cmp:=Nat->Nat->(Bool->Shared->Prop)->Shared->Prop
def xk{O:KeyOrd}(key:Nat->O.α)(p:Array Nat)(i:Nat):O.α:=key (p.getD i 0)
def EL{O:KeyOrd}(key:Nat->O.α)(p:Array Nat)(a:Nat):Prop:=∀i j,i<j->j<a->O.blt (xk key p i) (xk key p j)=true
def XN{O:KeyOrd}(key:Nat->O.α)(p:Array Nat)(a:Nat):Prop:=∀i j,i<j->j<a->O.blt (xk key p j) (xk key p i)=true
structure LG {O:KeyOrd} (key:Nat->O.α) (nZ:Cmp) (s:Shared) (n:Nat):Prop where
 M7:∀{i j C},i<n->j<n->C (O.blt (key i) (key j)) s->nZ i j C s
 dif:∀{i j},i<n->j<n->i≠j->key i≠key j
abbrev qU(p:Array Nat)(n:Nat):Prop:=p.toList.Perm (List.range n)
section
variable {O:KeyOrd} {key:Nat->O.α} {nZ:Cmp} {s:Shared} {n:Nat} {p:Array Nat}
theorem lO(hp:qU p n):p.size=n:=by
 have h:=hp.length_eq
 rwa [fE,gC]at h
theorem gd(q:Array Nat)(j:Nat):q.getD j 0=q[j]?.getD 0:=by simp
theorem fG(hp:qU p n)(hi:i<n):p.getD i 0<n:=by
 have hz:=lO hp;rw[gd,ie (hz▸hi)];exact dR.mp (hp.mem_iff.mp (Array.getElem_mem_toList _))
theorem LH(hp:qU p n)(hi:i<n)(hj:j<n)(hne:i≠j):p.getD i 0≠p.getD j 0:=by
 have hz:=lO hp;rw[gd,gd,ie (hz▸hi),ie (hz▸hj)];have hn:p.toList.Nodup:=hp.nodup_iff.mpr List.nodup_range;intro e;have h:=(ud (i:=i) (j:=j) (h₀:=by simp[hz,hi]) (h₁:=by simp[hz,hj]) hn).mp (by simpa using e)
 exact hne h
theorem Hv(K:LG key nZ s n)(hp:qU p n)(hi:i<n)(hj:j<n)(hne:i≠j)(h:O.blt (xk key p i) (xk key p j)=false):O.blt (xk key p j) (xk key p i)=true:=by
 cases e:O.blt (xk key p j) (xk key p i)with
 | true=>rfl
 | false=>exact absurd (O.total _ _ h e) (K.dif (fG hp hi) (fG hp hj) (LH hp hi hj hne))
theorem BV:EL key p 1:=λi j h1 h2=>by lia
theorem Hw(h:EL key p (m+1))(e:O.blt (xk key p m) (xk key p (m+1))=true):EL key p (m+2):=λi j h1 h2=>by
 by_cases hj:j<m+1
 · exact h i j h1 hj
 obtain rfl:j=m+1:=by lia
 by_cases hi:i=m
 · exact hi▸e
 exact O.trans _ _ _ (h i m (by lia) (by lia)) e
theorem xC(h:XN key p (m+1))(e:O.blt (xk key p (m+1)) (xk key p m)=true):XN key p (m+2):=λi j h1 h2=>by
 by_cases hj:j<m+1
 · exact h i j h1 hj
 obtain rfl:j=m+1:=by lia
 by_cases hi:i=m
 · exact hi▸e
 exact O.trans _ _ _ e (h i m (by lia) (by lia))
theorem Ai(K:LG key nZ s n)(hp:qU p n){Q:Nat->Shared->Prop}:∀f m,m+1+f=n->EL key p (m+1)->(∀a,m<=a->a<n->EL key p (a+1)->(a+1<n->O.blt (xk key p (a+1)) (xk key p a)=true)->Q (a+1) s)->(kas_asc p f (m+1)).kasWp nZ Q s:=by
 intro f;induction f with
 | zero=>exact λm hm hu hq=>hq m (by lia) (by lia) hu λh=>by lia
 | succ f ih =>
  intro m hm hu hq;refine K.M7 (fG hp (by lia)) (fG hp (by lia)) ?_
  show KasT.kasWp nZ (ite (O.blt (xk key p (m+1)) (xk key p m)=true) _ _) Q s;cases e:O.blt (xk key p (m+1)) (xk key p m)with
  | true=>exact hq m (by lia) (by lia) hu λ_=>e
  | false=>exact ih (m+1) (by lia) (Hw hu (Hv K hp (by lia) (by lia) (by lia) e)) λa h1=>hq a (by lia)
theorem LI(K:LG key nZ s n)(hp:qU p n){Q:Array Nat×Nat×Nat->Shared->Prop}:∀f m,m+1+f=n->XN key p (m+1)->(∀a,m<=a->a<n->XN key p (a+1)->Q (p,a+1,0) s)->(kas_desc f p (m+1) 0).kasWp nZ Q s:=by
 intro f;induction f with
 | zero=>exact λm hm hu hq=>hq m (by lia) (by lia) hu
 | succ f ih =>
  intro m hm hu hq;refine K.M7 (fG hp (by lia)) (fG hp (by lia)) ?_
  show KasT.kasWp nZ (ite (O.blt (xk key p (m+1)) (xk key p m)=true) _ _) Q s;cases e:O.blt (xk key p (m+1)) (xk key p m)with
  | true=>exact ih (m+1) (by lia) (xC hu e) λa h1=>hq a (by lia)
  | false =>
   refine K.M7 (fG hp (by lia)) (fG hp (by lia)) ?_
   show KasT.kasWp nZ (ite (O.blt (xk key p m) (xk key p (m+1))=true) _ _) Q s;rw[Hv K hp (by lia) (by lia) (by lia) e]
   exact hq m (by lia) (by lia) hu
theorem BW(hp:qU p n)(i j:Nat):qU (kas_rev p i j) n:=(E2.mp (mirror_perm p i j _)).trans hp
theorem Hx(hp:qU p n)(ha:a<=n)(hi:i<a):xk key (kas_rev p 0 a) i=xk key p (a-1-i):=by
 show key _=key _;rw[gd,gd,kas_rev,getElem?_mirror_all (by rw[lO hp];exact ha),if_pos ⟨eL _,hi⟩,kq]
theorem LJ(K:LG key nZ s n)(hp:qU p n){Q:Nat×Array Nat->Shared->Prop}(h1:2<=n)(hd:O.blt (xk key p 1) (xk key p 0)=true)(hq:∀a r,1<=a->a<=n->qU r n->EL key r a->Q (a,r) s):(kas_descPart 1 n p).kasWp nZ Q s:=by
 unfold kas_descPart;rw[KasT.kasWp_bind];refine LI K hp _ 1 (by lia) (xC (m:=0) (λi j h1 h2=>by lia) hd) λa h1 h2 hu=>?_
 show KasT.kasWp nZ (kas_tail3 (a+1) n p) Q s;unfold kas_tail3;rw[KasT.kasWp_bind];refine Ai K (BW hp _ _) _ a (by lia) (λi j h3 h4=>?_) λb h3 h4 hb _=>hq _ _ (by lia) (by lia) (BW hp _ _) hb
 rw[Hx hp (by lia) (by lia),Hx hp (by lia) h4]
 exact hu _ _ (by lia) (by lia)
theorem Hy(K:LG key nZ s n)(hp:qU p n){Q:Nat×Array Nat->Shared->Prop}(h1:1<=n)(hq:∀a r,1<=a->a<=n->qU r n->EL key r a->Q (a,r) s):(kas_count n p).kasWp nZ Q s:=by
 unfold kas_count;rw[KasT.kasWp_bind];refine Ai K hp _ 0 (by lia) BV λa h2 h3 hu hx=>?_
 by_cases hn:a+1=n
 · rw[if_pos (by simp[hn])]
   exact hq _ _ (by lia) (by lia) hp hu
 rw[if_neg (by simp[hn])]
 by_cases h0:a=0
 · subst h0
   exact LJ K hp (by lia) (hx (by lia)) hq
 rw[if_pos (by lia)]
 refine K.M7 (fG hp (by lia)) (fG hp (by lia)) ?_
 show KasT.kasWp nZ (ite (O.blt (xk key p 0) (xk key p a)=true) _ _) Q s;rw[hu 0 a (by lia) (by lia)]
 exact hq _ _ (by lia) (by lia) hp hu
theorem Hz(K:LG key nZ s n)(hp:qU p n){Q:Nat->Shared->Prop}(hk:k<n)(hu:EL key p k)(hq:∀l,l<=k->(∀i,i<l->O.blt (xk key p i) (xk key p k)=true)->(∀i,l<=i->i<k->O.blt (xk key p k) (xk key p i)=true)->Q l s) :
  ∀f l r,l<=r->r<=k->r<=l+f->(∀i,i<l->O.blt (xk key p i) (xk key p k)=true)->(∀i,r<=i->i<k->O.blt (xk key p k) (xk key p i)=true)->(kas_place p k f l r).kasWp nZ Q s:=by
 intro f;induction f with
 | zero =>
  intro l r h1 h2 h3 hl hr;obtain rfl:l=r:=by lia
  exact hq l h2 hl hr
 | succ f ih =>
  intro l r h1 h2 h3 hl hr;unfold kas_place;by_cases h:l=r
  · subst h
    rw[if_pos (az _)];exact hq l h2 hl hr
  rw[if_neg (by lia)]
  obtain⟨m,hm⟩:∃m,m=(l+r)/2:=⟨_,rfl⟩
  rw[<-hm];refine K.M7 (fG hp hk) (fG hp (by lia)) ?_
  show KasT.kasWp nZ (ite (O.blt (xk key p k) (xk key p m)=true) _ _) Q s;cases e:O.blt (xk key p k) (xk key p m)with
  | true =>
   refine ih l m (by lia) (by lia) (by lia) hl λi h4 h5=>?_
   by_cases hi:i=m
   · exact hi▸e
   exact O.trans _ _ _ e (hu m i (by lia) h5)
  | false =>
   refine ih (m+1) r (by lia) h2 (by lia) (λi h4=>?_) hr
   have e':=Hv K hp hk (by lia) (by lia) e
   by_cases hi:i=m
   · exact hi▸e'
   exact O.trans _ _ _ (hu i m (by lia) (by lia)) e'
theorem LK(hp:qU p n)(i j:Nat):qU (bubble p i j) n:=(E2.mp (bubble_perm p i j)).trans hp
theorem HA(hp:qU p n)(hk:k<n)(hl:l<=k)(i:Nat):xk key (bubble p k (k-l)) i=if i=l then xk key p k else if l<i/\i<=k then xk key p (i-1)else xk key p i:=by
 unfold xk;have e:=getElem?_bubble (xs:=p) (src:=k) (by rw[lO hp];exact hk) (k-l) (by lia) i
 rw[show k-(k-l)=l by lia]at e
 rw[gd,e,gd p,gd p,gd p];split
 · rfl
 split<;>rfl
theorem QQ(K:LG key nZ s n){Q:Array Nat->Shared->Prop}(hq:∀r,qU r n->EL key r n->Q r s):∀f k p,k+f=n->qU p n->EL key p k->(kas_bin f p k).kasWp nZ Q s:=by
 intro f;induction f with
 | zero=>exact λk p hk hp hu=>hq p hp (hk▸hu)
 | succ f ih =>
  intro k p hk hp hu;show KasT.kasWp nZ (KasT.bind _ _) Q s;rw[KasT.kasWp_bind];refine Hz K hp (by lia) hu (λl h1 h2 h3=>ih (k+1) _ (by lia) (LK hp _ _) λi j h4 h5=>?_) k 0 k (by lia) (by lia) (by lia) (λi h=>by lia) λi h h'=>by lia
  rw[HA hp (by lia) h1,HA hp (by lia) h1]
  split
  · rw[if_neg (by lia),if_pos (by lia)]
    exact h3 _ (by lia) (by lia)
  split
  · rw[if_neg (by lia),if_pos (by lia)]
    exact hu _ _ (by lia) (by lia)
  split
  · exact h2 _ (by lia)
  split<;>exact hu _ _ (by lia) (by lia)
theorem LL(K:LG key nZ s n){Q:Array Nat->Shared->Prop}(h1:1<=n)(hq:∀r,qU r n->EL key r n->Q r s):(kas_sort n).kasWp nZ Q s:=by
 unfold kas_sort;rw[KasT.kasWp_bind];refine Hy K (.refl _) h1 λa r h2 h3 hr hu=>?_
 show KasT.kasWp nZ (ite (a<n) _ _) Q s;split
 · rw[Nat.max_eq_left h2]
   exact QQ K hq _ _ _ (by lia) hr hu
 · exact hq r hr (by rwa [show n=a by lia])
end
abbrev DL(a b:List Nat×List Int):Prop:=a.1<b.1\/a.1=b.1/\a.2<b.2
def HB:KeyOrd where
 α:=List Nat×List Int
 blt a b:=decide (DL a b)
 irrefl a:=by
  have:=List.lt_irrefl a.1;have:=List.lt_irrefl a.2;simp_all
 trans a b c h1 h2:=by
  have h1:DL _ _:=dv h1;have h2:DL _ _:=dv h2;refine eK ?_;rcases h1 with h1 | ⟨e1,h1⟩<;>rcases h2 with h2 | ⟨e2,h2⟩
  · exact .inl (List.lt_trans h1 h2)
  · exact .inl (e2▸h1)
  · exact .inl (e1▸h2)
  · exact .inr ⟨e1.trans e2,List.lt_trans h1 h2⟩
 negTrans a b c h:=by
  have h:DL _ _:=dv h;simp only[j9];by_cases x:a.1<b.1
  · exact .inl (.inl x)
  by_cases y:b.1<a.1
  · rcases h with h | ⟨e,h⟩
    · exact .inr (.inl (List.lt_trans y h))
    · exact .inr (.inl (e▸y))
  have e:a.1=b.1:=yU (kz.mp y) (kz.mp x);rcases h with h | ⟨e2,h⟩
  · exact .inr (.inl (e▸h))
  · by_cases z:a.2<b.2
    · exact .inl (.inr ⟨e,z⟩)
    · exact .inr (.inr ⟨e.symm.trans e2,List.lt_of_le_of_lt (kz.mp z) h⟩)
 total a b h1 h2:=by
  have h1:¬(_\/_):=yP h1;have h2:¬(_\/_):=yP h2;simp only[not_or,not_and]at h1 h2;have e:a.1=b.1:=yU (kz.mp h2.1) (kz.mp h1.1);exact Prod.ext e (yU (kz.mp (h2.2 e.symm)) (kz.mp (h1.2 e)))
abbrev Pk:=Str×List Int
def pk(k:Pk):List Nat×List Int:=(k.1.cps.toList,k.2)
theorem BX{a b:Str}(h:a.cps.toList=b.cps.toList):a=b:=by
 obtain⟨x⟩:=a;obtain⟨y⟩:=b;obtain rfl:=Array.toList_inj.mp h;rfl
theorem HC{a b:Pk}(h:pk a=pk b):a=b:=by
 injection h with h1 h2
 exact Prod.ext (BX h1) h2
def QR(h:Heap)(v:Value)(k:Pk):Prop:=∃a o xs m t us,v=.ref a/\h.get? a=some o/\o.cls=.type "tuple"/\o.data=.seq xs m/\xs.toList=.str k.1 t::us/\IntsAre us k.2
def QR.at{h h':Heap}(x:QR h v k)(e:∀a o,h.get? a=some o->h'.get? a=some o\/o.cls≠.type "tuple"):QR h' v k :=
 let ⟨a,o,xs,m,t,us,q,ho,hc,hd⟩:=x
 ⟨a,o,xs,m,t,us,q,(e a o ho).resolve_right λn=>n hc,hc,hd⟩
def vg(h:Heap):List Value->List Pk->Prop
 | [],[]=>True
 | v::vs,k::ks=>QR h v k/\vg h vs ks
 | _,_=>False
section
variable {prog:Program} {w:World} {A:Around} {E:Value->Shared->Prop} {s:Shared} {Q:Bool->Shared->Prop}
theorem LM(n:Int)(a b:List Int):decide (n::a<n::b)=decide (a<b):=oQ.mpr (by rw[List.cons_lt_cons_iff];simp)
theorem LN{n k:Int}(h:n≠k)(a b:List Int):decide (n::a<k::b)=decide (n<k):=oQ.mpr (by rw[List.cons_lt_cons_iff];simp[h])
theorem xD{gh:Bool}:∀{us VO:List Value} {ns Ly:List Int} (i:Nat),IntsAre us ns->IntsAre VO Ly->gh=decide (us.length<VO.length)->Q (decide (ns<Ly)) s->KatLex prog w A true gh Q (us.zip VO) (i+1) s
 | _,_,_,_,i,.nil,.nil,hf,h=>kat_nil (by rw[hf];exact h)
 | _,_,_,_,i,.nil,.cons n t r,hf,h=>kat_nil (by rw[hf,show decide (([]:List Value).length<(Value.int n t::_).length)=true from eK (uw _)];rwa [show decide (([]:List Int)<n::_)=true from eK (List.nil_lt_cons _ _)]at h)
 | _,_,_,_,i,.cons n t r,.nil,hf,h=>kat_nil (by rw[hf];exact h)
 | _,_,_,_,i,.cons n t r,.cons n' t' r',hf,h=>by
  refine kat_cons (wpAny_eqBool_int ?_);refine kat_go (λz=>kat_yes (xD (i+1) r r' (hf.trans (by simp)) ?_)) λz=>kat_no (kat_one _ _ (lt_int ?_))
  · have z:=aO z
    subst z
    rwa [LM]at h
  · have z:n≠n':=λe=>by rw[e,kf]at z;cases z
    rw[LN z]at h;exact h
theorem VP(hx:QR s.heap x kx)(hy:QR s.heap y ky)(h:Q (HB.blt (pk kx) (pk ky)) s):wpAny (model prog w) A (keyLt' (tuples' true) x y) Q E s:=by
 obtain⟨a,o,xs,m,t,us,rfl,ho,hc,hd,hl,hi⟩:=hx;obtain⟨a',o',xs',m',t',VO,rfl,kX,zl,Jg,LO,hi'⟩:=hy;refine kat_lt ho hd kX Jg ?_;rw[hl,LO];have z1:xs.size=us.length+1:=by rw[<-fE,hl];rfl
 have z2:xs'.size=VO.length+1:=by rw[<-fE,LO];rfl
 have h':Q (decide (DL (pk kx) (pk ky))) s:=h;refine kat_cons (wpAny_eqBool_str ?_);refine kat_go (λe=>kat_yes (xD 0 hi hi' (oQ.mpr (by lia)) ?_)) λe=>kat_no (oneLt_str ?_)
 · have e:=dv e
   rw[show decide (DL (pk kx) (pk ky))=decide (kx.2<ky.2)from oQ.mpr ⟨λp=>by
    rcases p with p | p
    · rw[show(pk kx).1=(pk ky).1 from by show kx.1.cps.toList=_;rw[e];rfl]at p
      exact absurd p (List.lt_irrefl _)
    · exact p.2,λp=>.inr ⟨by show kx.1.cps.toList=_;rw[e];rfl,p⟩⟩]at h'
   exact h'
 · have e:=yP e
   rw[show decide (DL (pk kx) (pk ky))=decide (kx.1.cps.toList<ky.1.cps.toList)from oQ.mpr ⟨λp=>p.resolve_right λq=>e (BX q.1),.inl⟩]at h'
   exact h'
theorem xE:∀{vs ks},vg s.heap vs ks->∃fs,KatTups s.heap vs fs/\fs.length=vs.length/\∀v∈fs,∃a t,v=Value.str a t
 | [],[],_=>⟨[],.nil,rfl,λ_ h=>nomatch h⟩
 | v::vs,k::ks,⟨⟨a,o,xs,m,t,us,e,ho,hc,hd,hl,_⟩,r⟩=>by
  obtain⟨fs,h1,h2,h3⟩:=xE r;refine⟨.str k.1 t::fs,e▸.cons ho hc hd (by rw[<-oC,hl];rfl) h1,by simp[h2],λv hv=>?_⟩
  rcases aF.mp hv with rfl | hv
  · exact⟨_,_,rfl⟩
  · exact h3 v hv
theorem BY:∀{vs ks},vg h vs ks->vs.length=ks.length
 | [],[],_=>rfl
 | v::vs,k::ks,⟨_,r⟩=>by simp[BY r]
theorem vh:∀{vs ks},vg h vs ks->∀i,i<vs.length->QR h (vs.getD i Value.none) (ks.getD i d)
 | v::vs,k::ks,⟨x,r⟩,0,_=>x
 | v::vs,k::ks,⟨x,r⟩,i+1,hi=>vh r i (by simpa using hi)
theorem vg.at{h h':Heap}:∀{vs ks},vg h vs ks->(∀a o,h.get? a=some o->h'.get? a=some o\/o.cls≠.type "tuple")->vg h' vs ks
 | [],[],_,_=>trivial
 | v::vs,k::ks,⟨x,r⟩,e=>⟨x.at e,r.at e⟩
end
theorem DM(h2:n<128)(h1:2<=n):minRun' n n 0<=n:=by
 obtain⟨f,hf⟩:∃f,n=f+2:=⟨n-2,by lia⟩
 have e:∀m,minRun' (f+2) m 0=if m<64 then m+0 else(if m/2<64 then m/2+max 0 (m%2)else minRun' f (m/2/2) (max (max 0 (m%2)) (m/2%2))):=λm=>rfl
 have e:=e n;rw[<-hf]at e;rw[e];split
 · lia
 · rw[if_pos (by lia)]
   lia
section
variable {prog:Program} {w:World} {A:Around} {E:Value->Shared->Prop} {κ:SortKind} {it:Array Keyed}
theorem LP{n:Nat}{Q:Unit->SortSt->Shared->Prop}{G:Array Nat->Shared->Prop}{s:Shared}(h2:2<=n)(QS:n<128)
  (hG:∀p' bI s',p'.size=n->arrOf bI=p'.map (kas_item it)->failedOf bI=none->G p' s'->Q () bI s') (h:(kas_count n (List.toArray (List.range n))).kasWp (kas_cmp prog w A κ it) (λr s'=>r.1=n/\G r.2 s') s) :
  kasC (model prog w) A E sortRuns' Q (kas_st κ it (List.toArray (List.range n))) s:=by
 have Ho:=DM QS h2;obtain⟨r,rfl⟩:∃r,n=r+2:=⟨n-2,by lia⟩
 have SU:(List.toArray (List.range (r+2))).size=r+2:=by simp
 rw[sortRuns'_eq];refine kasC_bind (kasC_get ?_);dsimp only
 have hsz:(arrOf (kas_st κ it (List.toArray (List.range (r+2))))).size=r+2:=by
  show((List.toArray (List.range (r+2))).map (kas_item it)).size=_;rw[Array.size_map,SU]
 generalize hM:minRun' (r+2) (r+2) 0=M at Ho
 simp only[hsz,hM];refine kasC_bind (kasC_range ?_);show kasC _ _ _ (forIn (0::1::List.range' 2 r) _ _) _ _ _;refine kasC_cons ?_;dsimp only
 rw[if_neg (by lia)]
 simp only[Nat.sub_zero,kq];refine kasC_bind (kas_count_ (by lia) (by rw[SU];exact az _) (λm p' s' hm1 Xs hp hg=>?_) h)
 have hps:p'.size=r+2:=hp.trans SU;dsimp only
 obtain⟨hmr,hg'⟩:=hg;have hmr:m=r+2:=hmr;subst hmr;rw[if_neg (by lia)]
 refine kasC_bind (kasC_get ?_);rw[show(pendingOf (kas_st κ it p')).back?=none from rfl]
 dsimp only
 refine kasC_bind (kasC_modify (kasC_pure ?_));show kasC _ _ _ (forIn (1::List.range' 2 r) _ _) _ _ _;refine kasC_cons ?_;dsimp only
 rw[if_pos (az _)];refine kasC_pure ?_;dsimp only
 refine kasC_bind (kasC_range ?_);show kasC _ _ _ (forIn (0::1::List.range' 2 r) _ _) _ _ _;refine kasC_cons ?_;refine kasC_bind (kasC_get ?_);rw[if_pos (show(pendingOf (setPending (kas_st κ it p') ((pendingOf (kas_st κ it p')).push (0,r+2,0)))).size<=1 from az 1)]
 refine kasC_pure ?_;dsimp only
 exact kasC_pure (hG p' _ _ hps rfl rfl hg')
end
section
variable {prog:Program} {w:World} {A:Around} {E:Value->Shared->Prop} {s:Shared} {a:Addr} {vs:List Value} {R:List Nat->Prop}
def VQ(prog:Program)(w:World)(A:Around)(E:Value->Shared->Prop)(vs:List Value)(R:List Nat->Prop)(s:Shared):Prop:=∃κ,(∀Q:SortKind->Shared->Prop,Q κ s->wpAny (model prog w) A (keyKind' vs.toArray) Q E s) /\
 ∀Q:SortSt->Shared->Prop,(∀(p:Array Nat) st,R p.toList->p.size=vs.length->arrOf st=p.map (kas_item (vs.toArray.zip vs.toArray))->failedOf st=none->Q st s)->wpAny (model prog w) A ((sortRuns').run (SortSt.mk' κ (vs.toArray.zip vs.toArray) #[] 7 none)) (λr s'=>Q r.2 s') E s
theorem LQ{P:PySem.Fin->Shared->Prop}(ho:s.heap.get? a=some (seqObj "list" vs.toArray n))(hz:vs.length<128)(h1:vs.length<2->R (List.range vs.length))(hR:∀h':Heap,(∀b o,s.heap.get? b=some o->b≠a->h'.get? b=some o)->2<=vs.length->VQ prog w A E vs R {s with heap:=h'})
  (h:∀r:List Nat,R r->P (.done (.ret .none)) {s with heap:=sortedHeap s.heap a vs (r.map λi=>vs.getD i Value.none).toArray}) :
  wpAny (model prog w) A (Builtin.«list.sort» ⟨[.ref a],[]⟩) P E s:=by
 rw[list_sort_plain];have ha:=aC ho;refine ae (listItems_at ho rfl ?_);refine ae (listUpdate_at ho rfl ?_);obtain⟨e1,ho1⟩:∃e1,(s.heap.update a (Obj.mapSeq λ_=>#[])).get? a=some (seqObj "list" #[] e1):=⟨_,get?_update_seq ho (λ_=>#[])⟩
 refine ae (seqEpoch_at ho1 rfl ?_);refine ae (wpAny_newTuple ?_);refine ae (wpAny_newList ?_);refine cD ?_;have XO:(((s.heap.update a (Obj.mapSeq λ_=>#[])).push (seqObj "tuple" vs.toArray 0)).push (seqObj "list" #[] 0)).get? a=some (seqObj "list" #[] e1):=by
  rw[oM _ _ _ (by rw[size_push',i8];exact aR (mB ha)),oM _ _ _ (by rw[i8];exact aR ha)]
  exact ho1
 show wpAny (model prog w) A _ P E {s with heap:=((s.heap.update a (Obj.mapSeq λ_=>#[])).push (seqObj "tuple" vs.toArray 0)).push (seqObj "list" #[] 0)}
 dsimp only
 by_cases h2:vs.length<2
 · rw[if_pos (by simpa using h2),if_pos (by simpa using h2)]
   refine ae (ah ?_);rw[StateT.run_pure];refine ae (ah ?_);dsimp only
   refine ae (seqEpoch_at XO rfl ?_);refine ae (listUpdate_at XO rfl ?_ (hsz2:=by rw[Array.size_map];show(pairsOf vs).size<=_;rw[pairsOf_size,jc];lia))
   simp only[bne_self_eq_false,ez,cW];have er:=kas_range (vs.toArray.zip vs.toArray);rw[show(vs.toArray.zip vs.toArray).size=vs.length by simp]at er
   rw[kat_snds (ks:=vs) (vs:=vs) (st:=SortSt.mk' general' (vs.toArray.zip vs.toArray) #[] 7 none) rfl er.symm];exact ah (h _ (h1 h2))
 rw[if_neg (by simpa using h2),if_neg (by simpa using h2)]
 obtain⟨κ,g1,g2⟩:=hR (((s.heap.update a (Obj.mapSeq λ_=>#[])).push (seqObj "tuple" vs.toArray 0)).push (seqObj "list" #[] 0)) (λb o q hb=>by
  have dH:b<s.heap.objs.size:=aC q;rw[oM _ _ _ (by rw[size_push',i8];exact aR (mB dH)),oM _ _ _ (by rw[i8];exact aR dH),Heap.get?_update_ne _ _ _ _ hb]
  exact q) (by lia)
 refine ae (g1 _ (ae (ir (g2 (λst s'=>s'={s with heap:=((s.heap.update a (Obj.mapSeq λ_=>#[])).push (seqObj "tuple" vs.toArray 0)).push (seqObj "list" #[] 0)}/\∃p:Array Nat,R p.toList/\p.size=vs.length/\arrOf st=p.map (kas_item (vs.toArray.zip vs.toArray))/\failedOf st=none) λp st b1 hp XQ hf=>⟨rfl,p,b1,hp,XQ,hf⟩) ?_ λ_ _ e=>e)))
 rintro⟨⟨⟩,st⟩ s' ⟨rfl,p,b1,hp,XQ,hf⟩
 dsimp only at XQ hf ⊢
 refine ae (seqEpoch_at XO rfl ?_);rw[kat_snds rfl XQ];refine ae (listUpdate_at XO rfl ?_ (eL _) (by rw[cU,aJ,fE,hp,jc];lia))
 rw[hf];simp only[bne_self_eq_false,ez,cW];exact ah (h p.toList b1)
theorem LR(hI:vg s.heap vs ks)(hn:ks.Nodup)(h2:2<=vs.length)(h64:vs.length<64):VQ prog w A E vs (λr=>r.Perm (List.range vs.length)/\(r.map λi=>pk (ks.getD i ("",[]))).Pairwise (λa b=>DL a b)) s:=by
 obtain⟨fs,f1,f2,f3⟩:=xE hI;refine⟨_,λQ hQ=>kat_kind f1 (by lia) (T:=.type "str") (λv hv=>?_) (by rfl) hQ,λQ hQ=>kat_run (G:=λp s'=>s'=s/\qU p vs.length/\EL (O:=HB) (λi=>pk (ks.getD i ("",[]))) p vs.length) rfl h2 h64 (λp st s' a1 a2 a3 a4=>?_) (LL (O:=HB) (key:=λi=>pk (ks.getD i ("",[]))) ⟨λhi hj hC=>VP (vh hI _ hi) (vh hI _ hj) hC,λhi hj ne e=>?_⟩ (by lia) λr a1 a2=>⟨rfl,a1,a2⟩)⟩
 · obtain⟨a,t,rfl⟩:=f3 v hv
   exact .now
 · obtain⟨rfl,b1,b2⟩:=a4
   refine hQ p st ⟨b1,?_⟩ a1 a2 a3;rw[yy];intro i j hi hj VR;simp only[aJ,fE]at hi hj;have h:=b2 i j VR (by lia)
   have h:DL (pk (ks.getD (p.getD i 0) ("",[]))) (pk (ks.getD (p.getD j 0) ("",[]))):=dv h;simpa[hi,hj]using h
 · have hl:=BY hI
   have e:=HC e;rw[hl]at hi hj;rw[<-tP (h:=hi),<-tP (h:=hj)]at e;exact ne ((ud hn).mp e)
def aae:KeyOrd where
 α:=Int
 blt a b:=decide (a<b)
 irrefl a:=by simp
 trans a b c h1 h2:=by simp only[j9]at *;lia
 negTrans a b c h:=by simp only[j9]at *;lia
 total a b h1 h2:=by simp only[decide_eq_false_iff_not]at *;lia
theorem LU{ns:List Int}(hi:IntsAre vs ns)(hu:ns.Pairwise (· < ·))(h2:2<=vs.length)(QS:vs.length<128):VQ prog w A E vs (λr=>r=List.range vs.length) s:=by
 have hl:vs.length=ns.length:=IntsAre.length hi;have at_:∀i,i<vs.length->∃t,vs.getD i Value.none=Value.int (ns.getD i 0) t:=λi h=>by
  obtain⟨n,t,e1,e2⟩:=hi.at i vs[i] (b8 h);exact⟨t,by simp[h,e1,e2]⟩
 have up:∀i j,i<j->j<vs.length->ns.getD i 0<ns.getD j 0:=λi j h1 h2=>by
  rw[hl]at h2;rw[<-tP (h:=kn h1 h2),<-tP (h:=h2)];exact yy.mp hu i j _ _ h1
 have K:LG (O:=aae) (λi=>ns.getD i 0) (kas_ask prog w A oneType' vs) s vs.length:=⟨λhi hj hC=>by
  obtain⟨t,e1⟩:=at_ _ hi;obtain⟨u,e2⟩:=at_ _ hj;unfold kas_ask;rw[e1,e2,keyLt'_oneType];exact oneLt_int hC,λ{i j} hi hj ne e=>by
  rcases Nat.lt_or_gt_of_ne ne with h | h
  · have:=up _ _ h hj;have e:ns.getD i 0=ns.getD j 0:=e;lia
  · have:=up _ _ h hi;have e:ns.getD i 0=ns.getD j 0:=e;lia⟩
 refine⟨oneType',λQ hQ=>kas_kind h2 (T:=.type "int") (λv hv=>?_) (by rfl) (by rfl) hQ,λQ hQ=>?_⟩
 · obtain⟨i,hi,rfl⟩:=oH hv
   obtain⟨t,e⟩:=at_ i hi;rw[show vs[i]=Value.int (ns.getD i 0) t from by rw[<-e];simp[hi]]
   exact .now
 · have hp:qU (List.toArray (List.range vs.length)) vs.length:=.refl _
   have er:=kas_range (vs.toArray.zip vs.toArray);rw[show(vs.toArray.zip vs.toArray).size=vs.length by simp]at er
   have est:SortSt.mk' oneType' (vs.toArray.zip vs.toArray) #[] 7 none=kas_st oneType' (vs.toArray.zip vs.toArray) (List.toArray (List.range vs.length)):=by
    show _=SortSt.mk' oneType' ((List.toArray (List.range vs.length)).map (kas_item (vs.toArray.zip vs.toArray))) #[] 7 none;rw[er]
   rw[est];refine LP (Q:=λ_ st s'=>Q st s') (G:=λp s'=>s'=s/\p=List.toArray (List.range vs.length)) h2 QS (λp st s' a1 a2 a3 a4=>?_) ?_
   · obtain⟨rfl,rfl⟩:=a4
     exact hQ _ st rfl a1 a2 a3
   · rw[<-kat_ask_eq (vs:=vs) rfl]
     unfold kas_count;rw[KasT.kasWp_bind];refine Ai K hp _ 0 (by lia) BV λa h3 h4 hu' hx=>?_
     have ea:a+1=vs.length:=by
      apply Classical.byContradiction;intro z;have h5:ns.getD ((List.toArray (List.range vs.length)).getD (a+1) 0) 0<ns.getD ((List.toArray (List.range vs.length)).getD a 0) 0:=dv (hx (by lia))
      have h6:=up a (a+1) (by lia) (by lia)
      have g:∀i,i<vs.length->(List.toArray (List.range vs.length)).getD i 0=i:=λi h=>by simp[h]
      rw[g _ (by lia),g _ (by lia)]at h5
      lia
     rw[if_pos (by simp[ea])]
     exact⟨ea,rfl,rfl⟩
end
section
variable {prog:Program} {w:World} {A:Around} {E:Value->Shared->Prop} {s:Shared} {a:Addr} {vs:List Value} {ks:List Pk} {Q:Value->Shared->Prop}
def QT(prog:Program)(w:World)(A:Around)(s:Shared)(a:Addr)(vs:List Value):Prop:=∀{A':Around} {E':Value->Shared->Prop} {R:List Value->Shared->Prop},(A.handled=none->A'.handled=none)->(∀h' tk,(∀b o,s.heap.get? b=some o->h'.get? b=some o)->R vs {s with heap:=h',toks:=tk})->wpAny (model prog w) A' (collect (.ref a)) R E' s
def DN(hl:s.heap.IsList a vs.toArray)(hz:vs.length<128):QT prog w A s a vs:=λ_ hR=>collect_list hl (hR _ _ λb o e=>by
 have dH:b<s.heap.objs.size:=aC e;rw[Heap.get?_update_ne _ _ _ _ (aR dH),oM _ _ _ (aR dH)];exact e) (by rw[jc];lia)
theorem DO{R:List Nat->Prop}(hc:QT prog w A s a vs)(hz:vs.length<128)(h1:vs.length<2->R (List.range vs.length))(hR:∀(A':Around) (E':Value->Shared->Prop) (h':Heap) (tk:Nat),(∀b o,s.heap.get? b=some o->h'.get? b=some o)->2<=vs.length->VQ prog w A' E' vs R {s with heap:=h',toks:=tk})
  (h:∀(h1 h':Heap) (tk:Nat) (D:Addr) (r:List Nat) (e:Nat),(∀b o,s.heap.get? b=some o->h1.get? b=some o)->(∀b o,h1.get? b=some o->h'.get? b=some o)->h1.objs.size<=D->h'.get? D=some (seqObj "list" (r.map λi=>vs.getD i Value.none).toArray e)->R r->Q (.ref D) {s with heap:=h',toks:=tk}) :
  wpAny (model prog w) A (call (.builtin "sorted") [.ref a]) Q E s:=by
 refine yx kind_sorted plain_sorted entry_sorted (args_sorted1 _) ?_;unfold Builtin.«sorted»;refine ae (ah ?_);refine ae (hc (λhh=>by simp[hh]) λh' tk hk=>?_)
 refine ae (wpAny_newList ?_ (by rw[jc];lia))
 have JE:(h'.push (seqObj "list" vs.toArray 0)).get? h'.objs.size=some (seqObj "list" vs.toArray 0):=bc _ rfl;show wpAny _ _ _ _ _ {s with heap:=h'.push (seqObj "list" vs.toArray 0),toks:=tk}
 refine ae (cD (cV slot_list_sort ⟨_,JE,rfl⟩ entry_list_sort (LQ JE hz h1 (λh2 k2=>hR _ _ h2 tk λb o e=>k2 b o (aG _ (hk b o e)) (aR (aC (hk b o e)))) λr a1=>⟨_,rfl,?_⟩) (args_list_sort _)))
 obtain⟨e,Lz⟩:=sortedHeap_at JE;refine ah ⟨_,rfl,h h' _ tk h'.objs.size r e hk (λb o hb=>?_) (az _) Lz a1⟩
 have dH:=aC hb;rw[sortedHeap_old (aR dH) (by rw[size_push'];exact mB dH)]
 exact aG _ hb
end
end PySem.W
namespace L2.U
open PySem PySem.Spec PyProof.Rows PySem.W
def DP:PV->Option Pk
 | .nd .aw (.str a::ps)=>(lB ps).map λns=>(a,ns)
 | _=>none
theorem sH:∀{ps:List PV} {ns:List Int},lB ps=some ns->ps=ns.map .int
 | [],_,h=>by cases h;rfl
 | p::ps,_,h=>by
  obtain⟨n,r,h1,h2,rfl⟩:=cZ h;rw[bz,<-sH h2];cases p with
  | int i=>cases h1;rfl
  | _=>cases h1
theorem xF:∀ns:List Int,lB (ns.map .int)=some ns
 | []=>rfl
 | n::ns=>by
  show(mX (.int n)).bind (λy=>(lB (ns.map .int)).map λys=>y::ys)=_
  rw[xF ns];rfl
theorem qf(h:DP p=some k):p=.aw (.str k.1::k.2.map .int):=by
 unfold DP at h;split at h
 ·obtain⟨ns,h1,rfl⟩:=aV h;rw[sH h1]
 ·cases h
def kk(p:PV):List Nat×List Int:=pk ((DP p).getD ("",[]))
def yn(a b:PV):Bool:=!decide (DL (kk b) (kk a))
def DQ(ps:List PV):List PV:=ps.mergeSort yn
def vi(ps:List PV):Option (List PV):=match bW DP ps with
 | some ks=>if(ks.Nodup/\ps.length<64)then some (DQ ps)else none
 | none=>(lB ps).bind λns=>if(ns.Pairwise (· < ·)/\ps.length<128)then some ps else none
def LV(h:List ak)(p:PV):Option (List PV):=match fA h p with
 | some ps=>some ps
 | none=>(jP h p).bind λq=>(Dy q.2.k).map jm
def DR(fe:Gx PV):Gx PV:=bnd fe λp=>hp λh=>((LV h p).bind vi).map .lst
theorem HE(h:vi ps=some qs):ps.length<128:=by
 unfold vi at h;split at h
 ·obtain⟨⟨_,hz⟩,_⟩:=aB h
  lia
 ·obtain⟨ns,_,e3⟩:=aI h;exact(aB e3).1.2
theorem DS(a b c:PV)(h1:yn a b=true)(h2:yn b c=true):yn a c=true:=by
 have x:=@KeyOrd.kle_trans HB (kk a) (kk b) (kk c);simp only[KeyOrd.kle,HB]at x;simp only[yn,oK]at *;exact x h1 h2
theorem DT(a b:PV):(yn a b || yn b a)=true:=by
 have x:=@KeyOrd.klt_asymm HB (kk a) (kk b);simp only[KeyOrd.kle,KeyOrd.klt,HB]at x;simp only[yn,ug,oK];cases h:decide (DL (kk a) (kk b))with
 | true=>exact .inl (x h)
 | false=>exact .inr rfl
theorem HF(ha:DP a=some x)(hb:DP b=some y)(h1:yn a b=true)(h2:yn b a=true):a=b:=by
 have z:=@KeyOrd.kle_antisymm HB (kk a) (kk b);simp only[KeyOrd.kle,HB]at z;simp only[yn,oK]at h1 h2;have e:=z h1 h2;simp only[kk,ha,hb,Option.getD_some]at e;have e:=HC e;rw[qf ha,qf hb,e]
theorem LW{ps qs:List PV}(hp:qs.Perm ps)(hk:∀p∈ps,∃k,DP p=some k)(hs:qs.Pairwise λa b=>yn a b=true):qs=DQ ps:=by
 have h2:=yN ps yn;refine List.Perm.eq_of_pairwise (λa b h3 h4 h5 h6=>?_) hs (List.pairwise_mergeSort DS DT ps) (hp.trans h2.symm)
 obtain⟨x,hx⟩:=hk a (hp.mem_iff.mp h3);obtain⟨y,hy⟩:=hk b (h2.mem_iff.mp h4);exact HF hx hy h5 h6
theorem HG:∀{ps:List PV} {ks:List Pk},bW DP ps=some ks->ps.length=ks.length/\∀i,i<ps.length->DP (ps.getD i .bL)=some (ks.getD i ("",[]))
 | [],_,h=>by cases h;exact⟨rfl,λi hi=>absurd hi (uf i)⟩
 | p::ps,ks,h=>by
  obtain⟨k,r,h1,h2,rfl⟩:=cZ h;obtain⟨h3,h4⟩:=HG h2;refine⟨by simp[h3],λi hi=>?_⟩
  cases i with
  | zero=>exact h1
  | succ i=>exact h4 i (by simpa using hi)
theorem sJ(ps:List PV):(List.range ps.length).map (λi=>ps.getD i .bL)=ps:=by
 refine List.ext_getElem (by simp) λi h1 h2=>?_
 simp[h2]
theorem LX{r:List Nat}(h:bW DP ps=some ks)(hr:r.Perm (List.range ps.length)) (hp:(r.map λi=>pk (ks.getD i ("",[]))).Pairwise (λa b=>DL a b)):(r.map λi=>ps.getD i .bL)=DQ ps:=by
 obtain⟨h1,h2⟩:=HG h;have dH:∀i∈r,i<ps.length:=λi hi=>dR.mp (hr.mem_iff.mp hi)
 refine LW ((hr.map _).trans (by rw[sJ])) (λp hp=>?_) ?_
 ·obtain⟨i,hi,rfl⟩:=oH hp;exact⟨_,by have:=h2 i hi;simpa[hi]using this⟩
 ·rw[t5]at hp ⊢;refine hp.imp_of_mem λ{i j} hi hj x=>?_
  simp only[yn,kk,h2 _ (dH i hi),h2 _ (dH j hj),Option.getD_some];have z:=@KeyOrd.klt_asymm HB (pk (ks.getD i ("",[]))) (pk (ks.getD j ("",[])));simp only[KeyOrd.kle,KeyOrd.klt,HB]at z;rw[z (eK x)];rfl
section
variable {X:Cx} {aa:Hp} {ab:Fz} {e:Expr} {fe:Gx PV} {pos p:Pos} {af:List (Addr×Obj)} {σ:St} {H:Hp} {s:Shared} {F:Fz}
theorem HH(I:Inv X af σ H s)(hs:cg F.F H):∀{ps:List PV} {ks:List Pk} {xs:List V} {vs:List Value},bW DP ps=some ks->ax X.K F ps xs->Vals xs vs->vg s.heap vs ks
 | [],_,_,_,h,.nil,.nil=>by cases h;trivial
 | p::ps,ks,_,_,h,.cons b1 b2,.cons r1 r2=>by
  obtain⟨k,r,h1,h2,rfl⟩:=cZ h;refine⟨?_,HH I hs h2 b2 r2⟩;rw[qf h1]at b1;obtain⟨a,ws,rfl,sq,bw⟩:=bH.mp b1;obtain⟨w1,ws',rfl,c1,c2⟩:∃w1 ws',ws=w1::ws'/\bu X.K F (.str k.1) w1/\ax X.K F (k.2.map .int) ws':=by
   obtain⟨v,r,e,c1,c2⟩:=bw;exact⟨v,r,e,c1,c2⟩
  cases b7.mp c1;cases jg (xF k.2) c2;obtain⟨aA,rv,⟨o,q1,q2,n,q3⟩,_⟩:=I.tuple (aK hs sq);cases r1;cases rv with
  | cons r3 r4 =>
   obtain⟨t,rfl⟩:=r3;exact⟨a,o,_,n,t,_,rfl,q1,q2,q3,by simp,pd r4⟩
theorem sL:∀(r:List Nat) {xs:List V} {vs:List Value},Vals xs vs->(∀i∈r,i<xs.length)->Vals (r.map λi=>xs.getD i .bL) (r.map λi=>vs.getD i Value.none)
 | [],_,_,_,_=>.nil
 | i::r,xs,vs,h,hr=>.cons (by
  have hi:=hr i bQ;obtain⟨u,h1,h2⟩:=h.get (b8 hi);have e:xs.getD i .bL=xs[i]:=by simp[hi]
  have e2:vs.getD i Value.none=u:=by simp[h1]
  show RelV (xs.getD i .bL) (vs.getD i Value.none);rw[e,e2];exact h2) (sL r h λj hj=>hr j (bF _ hj))
theorem xG{K:W.Frag}:∀(r:List Nat) {ps:List PV} {xs:List V},ax K F ps xs->(∀i∈r,i<ps.length)->ax K F (r.map λi=>ps.getD i .bL) (r.map λi=>xs.getD i .bL)
 | [],_,_,_,_=>.nil
 | i::r,ps,xs,h,hr=>.cons (by
  have hi:=hr i bQ;obtain⟨u,h1,h2⟩:=h.get (b8 hi);have e:ps.getD i .bL=ps[i]:=by simp[hi]
  have e2:xs.getD i .bL=u:=by simp[h1]
  show bu K F (ps.getD i .bL) (xs.getD i .bL);rw[e,e2];exact h2) (xG r h λj hj=>hr j (bF _ hj))
theorem sM{Q:VK}{ps qs:List PV}{xs:List V}{vs:List Value}{st:bJ}{a:Addr}(I:Inv X af σ H s)(R:Rep X.K aa ab F st σ H)(hb:ax X.K F ps xs)(hv:Vals xs vs)(hc:QT X.prog X.w X.A s a vs)(h1:vi ps=some qs)
  (h2:∀b H' F',Rep X.K aa ab F' st σ H'->Gr F F'->bu X.K F' (.lst qs) b->Q b H'):wpAny (model X.prog X.w) X.A (call (.builtin "sorted") [.ref a]) (λv s'=>∃x H',Inv X af σ H' s'/\RelV x v/\Q x H') E s:=by
 have l1:=hb.length;have l2:=hv.length;obtain⟨S,hz,g1,g2,g3⟩:∃S:List Nat->Prop,ps.length<128/\(ps.length<2->S (List.range ps.length))/\(∀(A':Around) (E':Value->Shared->Prop) (h':Heap) (tk:Nat),(∀b o,s.heap.get? b=some o->h'.get? b=some o)->2<=vs.length->VQ X.prog X.w A' E' vs S {s with heap:=h',toks:=tk})/\∀r,S r->r.Perm (List.range ps.length)/\(r.map λi=>ps.getD i .bL)=qs:=by
  unfold vi at h1;cases e1:bW DP ps with
  | some ks =>
   rw[e1]at h1;obtain⟨⟨hn,hz⟩,rfl⟩:=aB h1;have hI:=HH I R.sub e1 hb hv;refine⟨λr=>r.Perm (List.range ps.length)/\(r.map λi=>pk (ks.getD i ("",[]))).Pairwise (λa b=>DL a b),by lia,λz=>⟨.refl _,?_⟩,λA' E' h' tk hk h2=>by rw[l1,l2];exact LR (hI.at λb o e=>.inl (hk b o e)) hn h2 (by lia),λr hr=>⟨hr.1,LX e1 hr.1 hr.2⟩⟩
   rw[yy];intro i j hi hj VR;have:j<ps.length:=by simpa using hj
   lia
  | none =>
   rw[e1]at h1;obtain⟨ns,e2,e3⟩:=aI h1;obtain⟨⟨hu,hz⟩,rfl⟩:=aB e3;have ev:=jg e2 hb;subst ev;exact⟨λr=>r=List.range ps.length,hz,λ_=>rfl,λA' E' h' tk hk h2=>by rw[l1,l2];exact LU (pd hv) hu h2 (by lia),λr hr=>by rw[hr];exact⟨.refl _,sJ ps⟩⟩
 refine DO hc (by lia) (λz=>by rw[<-l2,<-l1];exact g1 (by lia)) g2 λh1 h' tk D r ep k1 k2 hD Lz hr=>?_
 obtain⟨hr,rfl⟩:=g3 r hr;have I3:=I.kept (t':=tk) k1;have dH:∀i∈r,i<ps.length:=λi hi=>dR.mp (hr.mem_iff.mp hi)
 have hq:=I3.hok.fresh hD;obtain⟨R2,s2⟩:=R.laid (.lst (r.map λi=>xs.getD i .bL)) hq
 refine⟨.ref D,bM H D (.lst (r.map λi=>xs.getD i .bL)),I3.laid k2 hD ⟨?_,_,ep,sL r hv λi hi=>by rw[<-l1];exact dH i hi,Lz⟩,rfl,h2 _ _ _ R2 s2 (dJ.mpr ⟨_,_,rfl,iu.of aq,(xG r hb dH).mono s2⟩)⟩
 rw[aJ,hr.length_eq,gC];exact bh (show ps.length<=128 by lia) (by decide)
def VS(hh:X.A.handled=none)(LA:Gl X "sorted")(Ho:X.mg "sorted"=none)(he:PE X e (tE X aa ab fe))(hs:starEach [e] X.env=[(false,eval e X.env)]) :
  PE X (.Call (.Name "sorted" p) [e] [] pos) (tE X aa ab (DR fe)):=by
 rintro af s σ H Q I ⟨F,st,Rp,h⟩
 have hA:=he af s σ H (λv H1=>∃F1 aM q,Rep X.K aa ab F1 aM σ H1/\bu X.K F1 q v/\Tx X aa ab (bu X.K) F1 aM (hp λh=>((LV h q).bind vi).map .lst) σ Q) I ⟨F,st,Rp,h.bnd λq v F1 aM H1 R1 g1 b1 h1=>⟨F1,aM,q,R1,b1,h1⟩⟩
 refine fP (ld_blt I LA Ho nD ?_ (by decide) (by decide))
 refine yq (nC hs (thn hA λu s1 z9=>?_)) hs rfl
 obtain⟨v,H1,I1,r1,F1,aM,q,R1,b1,h1⟩:=z9;obtain⟨o,e0,k⟩:=h1.hp;obtain⟨qs,e9,rfl⟩:=aV e0;obtain⟨ps,e1,e2⟩:=aI e9;cases hl:fA aM.h q with
 | some qs' =>
  rw[LV,hl]at e1;cases e1;obtain⟨a,xs,rfl,ha,fB⟩:=R1.at (cY hl) b1;cases r1;obtain⟨aA,r,pl,_⟩:=I1.list (iu.sq ha);refine sM I1 R1 fB r (DN pl.isList ?_) e2 k;rw[<-r.length,<-fB.length];exact HE e2
 | none =>
  rw[LV,hl]at e1;obtain⟨⟨n,c⟩,d1,d2⟩:=aI e1;obtain⟨ks,d3,rfl⟩:=aV d2;obtain⟨rfl,Lb,hl⟩:=dM d1;obtain⟨a,ha,rfl⟩:=cz.mp b1;cases r1;obtain⟨ck,cp⟩:=c;have d2:Dy ck=some ks:=d3;cases ck with
  | iy t rg =>
   cases t with
   | false=>cases d2
   | true =>
    cases d2;obtain⟨hf,ws,⟨xs,k1,k2,k3,k4⟩,hv⟩:=R1.c.cell n _ a Lb ha hl;subst k3;obtain⟨hz,hS,o,es,ep,e1,e2',e3,e4,e5⟩:=I1.hok a _ k1;have dd:Raw s1.heap a es ep:=⟨o,e1,e2',e3⟩;have sz:=size_of_entries e4;refine sM I1 R1 (vs:=xs.map λz=>Value.ref z.2.1) (Nv k2) (Nw xs _ (by simp) λj u hu=>?_) (λ{A' E' R} hA' hR=>W.kdu_collect (LF hS) (hA' hh) dd (by rw[sz];exact hz) λh' tk acc hk vf=>?_) e2 k
    ·rw[bK]at hu;obtain⟨z,h4,rfl⟩:=gy.mp hu;exact⟨z,h4,rfl⟩
    ·have:=hR h' tk hk
     rwa [show acc.toList=xs.map λz=>Value.ref z.2.1 from ?_]
     refine tY λj=>?_
     rw[oC,bK];by_cases hj:j<acc.size
     ·obtain⟨en,h3,h5⟩:=vf.2 j acc[j] (by simp[hj])
      rw[entry_at e4]at h3;obtain⟨z,h4,rfl⟩:=gy.mp h3;rw[ie hj,h4,<-h5];rfl
     ·rw[mw (oS hj),gz (by rw[<-sz,<-vf.1];exact oS hj)]
      rfl
  | _=>cases d2
end
end L2.U
namespace PySem
def F.n0:isSubtype (.type "range_iterator") (.type "reversed")=pure false:=by rw[uu];kernel_rfl
section
variable {prog:Program} {w:World} {A:Around} {E:Value->Shared->Prop} {s:Shared} {r:Addr} {j:Int} {t u v:Tok} {Q:Value->Shared->Prop}
def kM(j:Int):Obj:={cls:=.type "range_iterator",data:=.fields #[rawInt (0+(Builtin.Range.rangeSize 0 j 1-1)*1),rawInt (Builtin.Range.rangeSize 0 j 1),rawInt (-1)]}
def jR(hr:IsRange s.heap r 0 j 1 t u v)(h1:-(2^62)<=j)(h2:j<2^62)
  (h:Q (.ref s.heap.objs.size) {s with heap:=s.heap.push (kM j)}):wpAny (model prog w) A (call (.builtin "range.__reversed__") [.ref r]) Q E s:=by
 have hT:s.TypeIs (.ref r) "range":=⟨_,hr,rfl⟩;refine cV yH hT F.entry_range_reversed ?_ (F.args_range_reversed_1 _);unfold Builtin.«range.__reversed__»;refine ae (fj (a:=Value.ref r) rfl ?_);refine ae ?_;unfold Builtin.Range.rangeFields;refine ae (cw hr rfl (x:=.int 0 t) rfl ?_);refine ae (fj (a:=some 0) rfl ?_);refine ae (cw hr rfl (x:=.int j u) rfl ?_);refine ae (fj (a:=some j) rfl ?_);refine ae (cw hr rfl (x:=.int 1 v) rfl ?_);refine ae (fj (a:=some 1) rfl ?_);refine ah ?_;have QJ:(Builtin.Range.rangeFitsLong 0&&Builtin.Range.rangeFitsLong j&&Builtin.Range.rangeFitsLong 1&&Builtin.Range.rangeFitsLong (-1)&&Builtin.Range.rangeFitsLong (0-1)&&Builtin.Range.rangeFitsLong (Builtin.Range.rangeSize 0 j 1))=true:=by
  rw[rangeSize_one];unfold Builtin.Range.rangeFitsLong;simp only[aE,j9];split<;>lia
 dsimp only
 rw[QJ];simp only[Bool.not_true,ez,cW,fW];exact ae (eF (ah ⟨_,rfl,h⟩))
def jS(hr:IsRange s.heap r 0 j 1 t u v)(h1:-(2^62)<=j)(h2:j<2^62)
  (h:Q (.ref s.heap.objs.size) {s with heap:=s.heap.push (kM j)}):codeAny (model prog w) A (.call (.builtin "reversed.__new__") ⟨[.type "reversed",.ref r],[]⟩) (wants Q E) s:=by
 have hT:s.TypeIs (.ref r) "range":=⟨_,hr,rfl⟩;refine yZ ?_;show wpAny _ A.in1 (do checkBuiltinCall "reversed.__new__" ⟨[.type "reversed",.ref r],[]⟩;again (.builtin "reversed.__new__" ⟨[.type "reversed",.ref r],[]⟩)) _ _ s
 refine ae (fj (F.newCall_reversed_1 _) (ah ⟨km F.plain_reversed_new _,il F.entry_reversed_new ?_⟩));rw[iZ F.plain_reversed_new _];unfold Builtin.«reversed.__new__»;refine ae (fj (newClass_reversed _) ?_)
 try dsimp only
 refine ae (fj (a:=()) (by first | rfl | kernel_rfl) ?_)
 refine ae (fj (a:=()) (by first | rfl | kernel_rfl) ?_)
 try dsimp only
 refine ae (um hT yH.lookup ?_)
 try dsimp only
 refine ae (fj (yH.bind _) ?_)
 try dsimp only
 rw[if_neg (show ¬((Value.builtin "range.__reversed__"==Value.none)=true)from dg)]
 refine ae (gH ?_);refine ae (m:=runValue (.call (.builtin "range.__reversed__") ⟨[.ref r],[]⟩)) (show wpAny _ _ (call (.builtin "range.__reversed__") [.ref r]) _ _ _ from jR hr h1 h2 ?_)
 first
 | exact ah h
 | exact ae (ah (ah h))
def jT(hr:IsRange s.heap r 0 j 1 t u v)(h1:-(2^62)<=j)(h2:j<2^62)
  (h:Q (.ref s.heap.objs.size) {s with heap:=s.heap.push (kM j)}):wpAny (model prog w) A (call (.type "reversed") [.ref r]) Q E s:=by
 refine callType_other (U:="range_iterator") (Q₁:=λobj s₁=>obj=.ref s.heap.objs.size/\s₁={s with heap:=s.heap.push (kM j)}) (by decide +kernel) F.create_reversed ⟨_,_,F.mro_reversed⟩ F.made_reversed F.n0 (F.typeCall_reversed_1 _) (jS hr h1 h2 ⟨rfl,rfl⟩) ?_
 rintro obj s₁ ⟨rfl,rfl⟩
 exact⟨⟨_,bc _ rfl,rfl⟩,h⟩
end
end PySem
namespace L2.U
open PySem PySem.Spec PyProof.Rows
def Itb(n:Nat):It:=⟨λi _=>i<n,λi H x H'=>H'=H/\x=.int ((n:Int)-1+i * -1),λi _=>n<=i⟩
def HI{P:Program}{w:World}{K:W.Frag}{tg:Expr}(it:Addr)(n:Nat):Turn P w K tg (Itb n) [it] it (λi h=>IsRangeIter h it ((n:Int)-1+(i:Nat) * -1) ((n:Int)-(i:Nat)) (-1)) where
 mem:=by simp
 obj:=λi h st b hb=>by
  grind
 keep:=λi h h' st k=>k it (by simp) _ st
 item:=by
  intro X hP hw hK hc i af s σ H E I hf st hg;subst hP hw hK;obtain⟨f0,f1,f2,f3,f4,f5⟩:=hf it (by simp)
  have W:=Walks.range (prog:=X.prog) (w:=X.w) (I.ok.hd hc) it ((n:Int)-1) (-1) n;refine W.item i s _ _ hg st λv h' tk hv bI kk=>?_
  obtain⟨t,rfl⟩:=hv;have I1:Inv X af σ H {s with heap:=h',toks:=tk}:=I.turned (λb o hb e=>kk b o (by grind) e) f0 f1 f3 f4 f5
  exact⟨_,rfl,wb bI rfl rfl (by decide) ⟨.int ((n:Int)-1+i * -1),H,I1,⟨t,rfl⟩,⟨rfl,rfl⟩,bI,λb hb=>(hf b hb).1⟩⟩
 done:=by
  intro X hP hw hK hc i af s σ H E I hf st hg;subst hP hw hK;obtain⟨f0,f1,f2,f3,f4,f5⟩:=hf it (by simp)
  exact wpAny_pyNext_range_end (I.ok.hd hc) st (by have:n<=i:=hg;lia) λh' eb=>⟨rfl,I.turned (λb o hb e=>eb b o hb e) f0 f1 f3 f4 f5⟩
 self:=λ_ _ _ _ _ st h=>yF st h
def rE:bootBuiltins "reversed"=some (.type "reversed"):=by kernel_rfl
def QU:List PV->Option (List PV)
 | [.int j]=>if Dw 0 j=true then some (mZ 0 j.toNat).reverse else none
 | _=>none
def HJ{K:W.Frag}{F:Fz}(n:Nat):Walk K F (mZ 0 n).reverse (Itb n):=by
 intro aa ab F' st σ H R s i;have hl:(mZ 0 n).length=n:=by simp[mZ]
 refine⟨λp e=>?_,λe=>?_⟩
 ·have hi:i<(mZ 0 n).reverse.length:=(b6.mp e).1;rw[yL,hl]at hi;rw[List.getElem?_reverse (by rw[hl];exact hi),hl]at e
  unfold mZ at e;rw[bK,oG (by lia)]at e
  cases e;exact⟨hi,λx H' ⟨hH,y⟩=>by subst hH y;exact⟨F',R,Gr.refl _,aD.mpr (fV V.int (by lia))⟩⟩
 ·have:=j2.mp e;rw[yL,hl]at this;exact this
section
variable {X:Cx} {aa:Hp} {ab:Fz} {a tg:Expr} {ts:Gx (List PV)} {pos p zp lK:Pos}
def VT(hg:Gl X "reversed")(hm:X.mg "reversed"=none)(Zd:Gl X "range")(Xs:X.mg "range"=none)(ha:PA X [a] (tA X aa ab ts))(hs:starEach [a] X.env=[(false,eval a X.env)]):PI X tg (.Call (.Name "reversed" p) [.Call (.Name "range" zp) [a] [] lK] [] pos) (tI X aa ab (u3 QU ts)):=by
 rintro af s σ H R I ⟨F,st,Rp,h⟩
 have hA:=ha lK af s σ H (λvs H'=>∃F' bI j,vs=[.int j]/\Dw 0 j=true/\Rep X.K aa ab F' bI σ H'/\∀b U3 Gq,Rep X.K aa ab Gq bI σ U3->Gr F' Gq->Walk X.K Gq (mZ 0 j.toNat).reverse b->R b U3) I
  ⟨F,st,Rp,h.bnd λps vs F1 aM H1 R1 g1 b1 h1=>by
   obtain⟨o,e,z⟩:=h1.gI;unfold QU at e;split at e
   ·obtain⟨hr,rfl⟩:=aB e;obtain⟨v,rfl,b⟩:=cG b1;rw[aD.mp b];exact⟨F1,aM,_,rfl,hr,R1,z⟩
   ·cases e⟩
 refine Call_ (ld_blt I hg hm rE (eW (nC rfl ?_) rfl rfl));refine Call_ (ld_blt I Zd Xs o8 (eW (thn hA λus s1 z9=>?_) hs rfl))
 obtain⟨vs,H1,I1,r1,F1,aM,j,ev,hr,R1,q⟩:=z9;subst ev;obtain⟨u1,rfl,t,rfl⟩:=iJ r1;obtain⟨_,_,h3,h4⟩:=dv hr;refine call_range_1 (jT (ux ..) h3 h4 ?_);have I2:Inv X af σ H1 {s1 with heap:=s1.heap.push {cls:=.type "range",data:=.fields #[.int 0 s1.toks,.int j t,.int 1 (s1.toks+1)]},toks:=s1.toks+1+1}:=I1.kept λb o e=>aG _ e
 have XH:IsRangeIter ((s1.heap.push {cls:=.type "range",data:=.fields #[.int 0 s1.toks,.int j t,.int 1 (s1.toks+1)]}).push (kM j)) (s1.heap.push {cls:=.type "range",data:=.fields #[.int 0 s1.toks,.int j t,.int 1 (s1.toks+1)]}).objs.size ((j.toNat:Int)-1+(0:Nat) * -1) ((j.toNat:Int)-(0:Nat)) (-1):=by
  have e2:Builtin.Range.rangeSize 0 j 1=(j.toNat:Int):=by rw[rangeSize_one];split<;>lia
  have e:=bc (s1.heap.push {cls:=.type "range",data:=.fields #[.int 0 s1.toks,.int j t,.int 1 (s1.toks+1)]}) (o:=kM j) rfl
  rw[IsRangeIter,e,kM,e2];simp
 refine yF XH ?_;refine⟨_,[_],_,_,H1,rfl,I2.kept λb o e=>aG _ e,HI _ j.toNat,XH,λb hb=>?_,q _ H1 F1 R1 (Gr.refl _) (HJ _)⟩
 rw[cH]at hb;subst hb;exact I2.wa (az _) (I2.hok.fresh (az _))
end
def m7(ps:List PV):Option (List Bool):=bW nz ps
def LY:GC:=λh ps=>match ps with
 | [p]=>(fA h p).bind λqs=>(m7 qs).map λbs=>.bl (bs.all id)
 | _=>none
def DU:GC:=λh ps=>match ps with
 | [p]=>(fA h p).bind λqs=>(m7 qs).map λbs=>.bl (bs.any id)
 | _=>none
section
variable {X:Cx} {aa:Hp} {ab:Fz} {e:Expr} {fe:Gx PV} {pos p:Pos} {m:Nat}
theorem sN{K:W.Frag}{F:Fz}:∀{ps:List PV} {ns:List Bool} {vs:List V},m7 ps=some ns->ax K F ps vs->vs=ns.map V.bl
 | [],ns,vs,h,b=>by cases h;exact b.cj
 | p::r,ns,vs,h,b=>by
  obtain⟨i,ms,h1,h2,rfl⟩:=cZ h;obtain⟨v,vr,rfl,c,d⟩:=b.bU;rw[kD h1]at c;rw[bC.mp c,sN h2 d];rfl
theorem qg:∀{bs:List Bool} {us:List Value},Vals (bs.map V.bl) us->us=bs.map Value.bool
 | [],_,r=>by cases r;rfl
 | b::bs,_,r=>by
  cases r with
  | cons ra rr =>
   cases ra;rw[qg rr];rfl
theorem DV(bs:List Bool):(List.range bs.length).any (λi=>bs[i]?.getD false)=bs.any id:=by
 rw[Bool.eq_iff_iff,List.any_eq_true,List.any_eq_true];refine⟨λ⟨i,hi,h⟩=>?_,λ⟨b,hb,h⟩=>?_⟩
 ·have hi:=dR.mp hi;rw[b8 hi]at h;exact⟨_,yV hi,h⟩
 ·obtain⟨i,hi,e⟩:=oH hb;refine⟨i,dR.mpr hi,?_⟩;rw[b8 hi,e];exact h
theorem qh{af:List (Addr×Obj)}{s:Shared}{σ τ:St}{H aa:Hp}{ab F:Fz}{st:bJ}{us:List Value}{v:V}{p:PV}{qs:List PV}{ns:List Bool}(I:Inv X af σ H s)(rs:Vals [v] us)(R:Rep X.K aa ab F st τ H)(b:bu X.K F p v)(e1:fA st.h p=some qs)(e2:m7 qs=some ns) :
  ∃a,us=[.ref a]/\s.heap.IsList a (ns.map Value.bool).toArray/\a≠s.heap.objs.size:=by
 obtain⟨a,vs,rfl,ha,fB⟩:=R.at (cY e1) b;obtain⟨aA,r,pl,_⟩:=I.list (iu.sq ha);have ev:=sN e2 fB;subst ev;have ei:=qg r;subst ei;obtain⟨u,rfl,ru⟩:=iJ rs;cases ru;refine⟨a,rfl,pl.isList,?_⟩;obtain⟨o,ho,_⟩:=pl.isList;exact aR (aC ho)
theorem sO{ns:List Bool}{d:Bool}{i:Nat}{v:Value}{s':Shared}{Q':Bool->Shared->Prop}{E':Value->Shared->Prop}{M:Model}{A:Around}(hP:(ns.map Value.bool).toArray[i]?=some v)(hQ:Q' (ns[i]?.getD d) s'):wpAny M A (truthy v) Q' E' s':=by
 rw[List.getElem?_toArray,bK]at hP;cases w:ns[i]? with
 | none=>rw[w]at hP;cases hP
 | some bb =>
  rw[w]at hP hQ;cases hP;exact i5 hQ
theorem DW(hc:X.A.handled=none):zM X (.builtin "any") DU:=by
 intro af s σ H xs us Q I rs ⟨aa,ab,F,st,τ,ps,p,e,R,bs,k⟩;unfold DU at e;split at e
 ·obtain⟨qs,e1,e⟩:=aI e;obtain⟨ns,e2,rfl⟩:=aV e;obtain⟨v,rfl,b⟩:=cG bs;obtain⟨a,rfl,hL,hne⟩:=qh I rs R b e1 e2;refine call_any_walk (oJ hL ?_);refine⟨_,_,_,_,_,_,λi=>ns[i]?.getD false,rfl,Walks.list (A:=X.A.in1) hc s.heap.objs.size a hne _,⟨⟨_,bc _ rfl,rfl,rfl⟩,yS hL _⟩,λi v s' Q' E' hP hQ=>sO hP hQ,λh' tk hk=>?_⟩
  refine⟨.bl (ns.any id),H,I.kept (t':=tk) λb o e=>?_,?_,k _ H F R (Gr.refl F) (bC.mpr rfl)⟩
  ·exact hk b o (λhm=>absurd (cH.mp hm▸aC e) (dX _)) (aG _ e)
  ·show Value.bool _=_;rw[<-DV ns];simp
 ·cases e
theorem DX(bs:List Bool):(List.range bs.length).all (λi=>bs[i]?.getD true)=bs.all id:=by
 rw[Bool.eq_iff_iff,eG,eG];refine⟨λh b hb=>?_,λh i hi=>?_⟩
 ·obtain⟨i,hi,e⟩:=oH hb;have:=h i (dR.mpr hi);rw[b8 hi,e]at this;exact this
 ·have hi:=dR.mp hi;rw[b8 hi];exact h _ (yV hi)
theorem DY(hc:X.A.handled=none):zM X (.builtin "all") LY:=by
 intro af s σ H xs us Q I rs ⟨aa,ab,F,st,τ,ps,p,e,R,bs,k⟩;unfold LY at e;split at e
 ·obtain⟨qs,e1,e⟩:=aI e;obtain⟨ns,e2,rfl⟩:=aV e;obtain⟨v,rfl,b⟩:=cG bs;obtain⟨a,rfl,hL,hne⟩:=qh I rs R b e1 e2;refine call_all_walk (oJ hL ?_);refine⟨_,_,_,_,_,_,λi=>ns[i]?.getD true,rfl,Walks.list (A:=X.A.in1) hc s.heap.objs.size a hne _,⟨⟨_,bc _ rfl,rfl,rfl⟩,yS hL _⟩,λi v s' Q' E' hP hQ=>sO hP hQ,λh' tk hk=>?_⟩
  refine⟨.bl (ns.all id),H,I.kept (t':=tk) λb o e=>?_,?_,k _ H F R (Gr.refl F) (bC.mpr rfl)⟩
  ·exact hk b o (λhm=>absurd (cH.mp hm▸aC e) (dX _)) (aG _ e)
  ·show Value.bool _=_;rw[<-DX ns];simp
 ·cases e
def QV(p:PV):Option (List PV):=match p with
 | .nd .aw ps=>some ps
 | _=>none
def HK(m:Nat)(fe:Gx PV):Gx PV:=bnd fe λp=>bnd (gI (QV p)) λps=>lN m ps
def QW(LA:Gl X "list")(Ho:X.mg "list"=none)(he:PE X e (tE X aa ab fe))(hs:∀es,starEach (e::es) X.env=(false,eval e X.env)::starEach es X.env):PE X (.Call (.Name "list" p) [e] [] pos) (tE X aa ab (HK m fe)):=by
 rintro af s σ H Q I ⟨F,st,Rp,h⟩
 refine fP (ld_blt I LA Ho (iE .list) ?_ (by decide) (by decide))
 refine eW (nC (hs []) ?_) (hs []) rfl;have hA:=he af s σ H (λv H'=>∃F' bI q,Rep X.K aa ab F' bI σ H'/\bu X.K F' q v/\Tx X aa ab (bu X.K) F' bI (bnd (gI (QV q)) λps=>lN m ps) σ Q) I ⟨F,st,Rp,h.bnd λq v F1 aM H1 R1 g1 b1 h1=>⟨F1,aM,q,R1,b1,h1⟩⟩
 refine thn hA λu s1 z9=>?_
 obtain⟨x,H1,I1,r1,F1,aM,q,R1,b1,h1⟩:=z9;obtain⟨ps,f2,h1⟩:=At.gI (At.bnd h1);obtain rfl:q=.aw ps:=by
  unfold QV at f2;split at f2
  ·cases f2;rfl
  ·cases f2
 obtain⟨a,vs,rfl,ha,fB⟩:=bH.mp b1;cases r1;obtain⟨aA,rv,⟨o,ho,hc,n,hd⟩,hz⟩:=I1.tuple (aK R1.sub ha);refine call_list_seq (hsz:=by rw[cU,<-rv.length];exact hz) a (.inr rfl) ho hc hd λh' c' hk hS=>?_
 exact⟨.ref s1.heap.objs.size,bM H1 s1.heap.objs.size (.lst vs),I1.laid hk (az _) ⟨hz,aA,c',rv,hS⟩,rfl,Tx.lN h1 R1 (I1.hok.fresh (az _)) fB⟩
def DZ(h:List ak)(p q:PV):Option (List PV):=(fA h p).bind λxs=>(fA h q).bind λys=>if xs.length+ys.length<=ib then some (xs++ys)else none
def LZ(m:Nat)(fa fb:Gx PV):Gx PV:=bnd fa λp=>bnd fb λq=>bnd (hp λh=>DZ h p q) λl=>lN m l
def aag(X:Cx)(aa:Hp)(ab:Fz)(m:Nat):R2:=λx y H Q=>∃F st σ pa pb l,DZ st.h pa pb=some l/\Rep X.K aa ab F st σ H/\bu X.K F pa x/\bu X.K F pb y/\Tx X aa ab (bu X.K) F st (lN m l) σ Q
def L7:OpR X (binaryOp .Add) (aag X aa ab m):=by
 rintro af s σ H x y v u Q I rx ry ⟨F,st,τ,pa,pb,l,e,R,ba,bb,k⟩
 obtain⟨xs,e1,e⟩:=aI e;obtain⟨ys,e2,e⟩:=aI e;obtain⟨hz,rfl⟩:=aB e;obtain⟨a,vs,rfl,ha,fB⟩:=R.at (cY e1) ba;obtain⟨b,ws,rfl,hb,Jl⟩:=R.at (cY e2) bb;cases rx;cases ry;obtain⟨aA,n,r,e1,z1⟩:=I.pS ha;obtain⟨et,n2,r2,e2,z2⟩:=I.pS hb;have hl:=r.length;have SH:=r2.length;have hz':vs.length+ws.length<=sizeLine:=by rw[<-fB.length,<-Jl.length];exact dC hz
 refine PySem.P.add_list e1 e2 ?_ (by grind)
 have ea:aA.toArray++et.toArray=(aA++et).toArray:=by simp
 rw[ea];exact⟨.ref _,_,I.OW (r.append r2) (by grind),rfl,Tx.lN k R I.fresh (fB.append Jl)⟩
def QX{a b:Expr}{fa fb:Gx PV}(ha:PE X a (tE X aa ab fa))(hb:PE X b (tE X aa ab fb)):PE X (.BinOp a .Add b pos) (tE X aa ab (LZ m fa fb)):=(MV L7 ha hb).imp λσ H Q ⟨F,st,R,h⟩ =>
 ⟨F,st,R,h.bnd λp v F1 aM H1 R1 g1 b1 h1=>⟨F1,aM,R1,h1.bnd λq w F2 dG H2 R2 g2 b2 h2=>by
  obtain⟨l,e,z⟩:=At.hp (At.bnd h2);exact⟨F2,dG,σ,p,q,l,e,R2,b1.mono g2,b2,z⟩⟩⟩
def QY(h:List ak)(p:PV)(as:List PV):Option PV:=match as with
 | [q]=>(fA h p).bind λps=>(toT h dU q).bind λx=>(bW (toT h dU) ps).map λys=>.int (ys.countP λy=>eqT y x:Nat)
 | _=>none
def L8(p:PV)(as:List PV):Gx PV:=hp λh=>QY h p as
def VU(K:W.Frag):V->List V->Hp->VK->Prop:=λv ws H Q=>∃aa ab F st σ p as o,QY st.h p as=some o/\Rep K aa ab F st σ H/\bu K F p v/\ax K F as ws/\∀u H' F',Rep K aa ab F' st σ H'->Gr F F'->bu K F' o u->Q u H'
theorem BZ{s:Shared}{p:Tr}:∀{ts:List Tr} {us:List Value},bN s ts us->us.countP (jO s p)=ts.countP λy=>eqT y p
 | [],_,b=>by simp only[bN]at b;subst b;rfl
 | q::ts,_,b=>by
  simp only[bN]at b;obtain⟨u,r,rfl,c1,d1⟩:=b;rw[List.countP_cons,List.countP_cons,uU c1,BZ d1]
def QZ(hu:X.A.units+1150<cLine):J8 X "list.count" (VU X.K):=by
 rintro af s σ H x vs v us Q I rx rv ⟨aa,ab,F,st,τ,p,as,o,e,R,bp,ba,k⟩
 unfold QY at e;split at e
 ·obtain⟨ps,e1,e⟩:=aI e;obtain⟨t,e2,e⟩:=aI e;obtain⟨ts,e3,rfl⟩:=aV e;obtain⟨y,rfl,b⟩:=cG ba;obtain⟨a,ws,rfl,ha,fB⟩:=R.at (cY e1) bp;cases rx;obtain⟨u,rfl,ru⟩:=rv.one;have tp:=R.tree I _ _ _ _ _ e2 b ru;obtain⟨aA,r,pl,_⟩:=I.list (iu.sq ha);obtain⟨h1,h2⟩:=R.trees I _ _ _ _ _ e3 fB r;obtain⟨⟨cls,dd,data,sl⟩,ho,hc,n,hd⟩:=pl.isList;simp only at hc hd;subst hc hd;refine gG PySem.F.slot_list_count ⟨_,ho,rfl⟩ PySem.F.entry_list_count (PySem.F.args_list_count_2 _ _) (SeqAt.list_countAt a aA.toArray n dd sl u (jO s t)) ⟨ho,λy hy=>oi tp h1 (by rw[oR];unfold dU at h2;lia) y (by simpa using hy),?_⟩
  rw[show aA.toArray.toList=aA from rfl,BZ h1]
  exact⟨.int _,H,I.tok _,⟨_,rfl⟩,k _ H F R (Gr.refl F) (aD.mpr rfl)⟩
 ·cases e
def Ra:Vj X (VU X.K) L8:=λaa H ab F st σ p as v ws Q h R bp ba=>by
 obtain⟨o,e,z⟩:=At.hp h;exact⟨aa,ab,F,st,σ,p,as,o,e,R,bp,ba,z⟩
def VV{o:Expr}{es:List Expr}{fo:Gx PV}{ts:Gx (List PV)}{kZ gi:Pos}(hu:X.A.units+1150<cLine)(ho:PE X o (tE X aa ab fo))(ha:PA X (e::es) (tA X aa ab ts))(gq:attributeBase o "count" X.env (eval o X.env)=eval o X.env)
  (qZ:((backTo gi (starEach (e::es) X.env)).all (λx=>!x.1)&&(backToKw gi (keywordEach [] X.env)).all (λx=>x.1.isSome)&&decide ((e::es).length+([]:List Keyword).length+(if([]:List Keyword).isEmpty then 0 else 1)<30))=true)
  (fK:(kZ.endLine==gi.line)=true) (mQ:starEach (e::es) X.env=(false,eval e X.env)::starEach es X.env) (jL:(backTo gi (starEach es X.env)).any (·.1)=false):PE X (.Call (.Attribute o "count" kZ) (e::es) [] gi) (tE X aa ab (qT "list" L8 fo ts)) :=
 (pH oA PySem.F.slot_list_count PySem.F.type_list_count (QZ hu) ho ha gq qZ fK mQ jL).imp λ_ _ _ h=>kH Ra h
def HL:bootBuiltins "all"=some (.builtin "all"):=by kernel_rfl
def HM:bootBuiltins "any"=some (.builtin "any"):=by kernel_rfl
end
theorem ng{a b:Nat}(h:b<a):@Ne Addr a b:=mJ h
structure Zp (h:Heap) (z TI TO i1 i2 l1 l2:Nat) (f0:Value) (k:Nat) (xs ys:Array Value):Prop where
 hz:IsZip h z TI TO f0
 hTI:IsPair h TI (.ref i1) (.ref i2)
 hTO:∃a b,IsPair h TO a b
 s1:SI h i1 l1 k xs
 s2:SI h i2 l2 k ys
 ord:i1<i2/\i2<TI/\TI<TO/\TO<z
 o1:l1<i1
 o2:l2<i1
section
variable {prog:Program} {w:World} {A:Around} {E:Value->Shared->Prop} {s:Shared} {z TI TO i1 i2 l1 l2:Nat} {k:Nat} {xs ys:Array Value}
theorem L9{x y:Value}{Q:Value->Shared->Prop}(Z:Zp s.heap z TI TO i1 i2 l1 l2 .none k xs ys)(hx:xs[k]?=some x)(hy:ys[k]?=some y)
  (hQ:∀h',Zp h' z TI TO i1 i2 l1 l2 (rawInt s.heap.objs.size) (k+1) xs ys->IsPair h' s.heap.objs.size x y->h'.objs.size=s.heap.objs.size+1->(∀c o,c≠z->c≠TO->c≠i1->c≠i2->s.heap.get? c=some o->h'.get? c=some o)->Q (.ref s.heap.objs.size) {s with heap:=h'}) :
  wpAny (model prog w) A (Builtin.«zip.__next__» ⟨[.ref z],[]⟩) (λgh s'=>∃v,gh=.done (.ret v)/\Q v s') E s:=by
 obtain⟨hz,hTI,⟨a,b,hTO⟩,s1,s2,⟨o1,o2,o3,o4⟩,q1,q2⟩:=Z;show wpAny _ _ (field (.ref z) 2 >>= _) _ _ _;refine ae (cw hz rfl (x:=.bool false) rfl ?_);show wpAny _ _ (field (.ref z) 3 >>= _) _ _ _;refine ae (cw hz rfl (x:=.ref TI) rfl (ae (fU hTI rfl ?_)));show wpAny _ _ (Builtin.SmallTypes.ownedTupleIsFree (.ref z) >>= _) _ _ _;refine ae ?_;unfold Builtin.SmallTypes.ownedTupleIsFree;refine ae (cw hz rfl (x:=.none) rfl (ah ?_));simp only[fW];refine ae (gH (ae (cw hz rfl (x:=.ref TO) rfl (ae (j6 hz (by simp) λh₁ hz₁ e₁=>?_)))))
 replace hz₁:IsZip h₁ z TI TO .ellipsis:=hz₁;refine ae ?_;simp only[List.zipIdx_cons,List.zipIdx_nil,oW,uq];refine ae (ae (uv ?_));show wpAny _ _ (Builtin.SmallTypes.nextOf (.ref i1) >>= _) _ _ _;have lP:SI h₁ i1 l1 k xs:=s1.at (λo e=>e₁.extBut _ _ (by first | exact nl (by lia) | exact ng (by lia)) e) (λo e=>e₁.extBut _ _ (by first | exact nl (by lia) | exact ng (by lia)) e)
 refine ae (SI.next lP hx λqi xH e₂=>ah ?_)
 have qj:IsPair qi TO a b:=e₂.extBut _ _ (by first | exact nl (by lia) | exact ng (by lia)) (e₁.extBut _ _ (by first | exact nl (by lia) | exact ng (by lia)) hTO)
 refine ae (fU qj rfl (ae (yJ qj λkN hTO₃ iV=>?_)))
 replace hTO₃:IsPair kN TO x b:=hTO₃;refine ae (mL (ah (ae (ae (uv ?_)))));show wpAny _ _ (Builtin.SmallTypes.nextOf (.ref i2) >>= _) _ _ _;have xI:SI kN i2 l2 k ys:=s2.at (λo e=>iV.extBut _ _ (by first | exact nl (by lia) | exact ng (by lia)) (e₂.extBut _ _ (by first | exact nl (by lia) | exact ng (by lia)) (e₁.extBut _ _ (by first | exact nl (by lia) | exact ng (by lia)) e))) (λo e=>iV.extBut _ _ (by first | exact nl (by lia) | exact ng (by lia)) (e₂.extBut _ _ (by first | exact nl (by lia) | exact ng (by lia)) (e₁.extBut _ _ (by first | exact nl (by lia) | exact ng (by lia)) e)))
 refine ae (SI.next xI hy λRb VW e₄=>ah ?_)
 have HN:IsPair Rb TO x b:=e₄.extBut _ _ (by first | exact nl (by lia) | exact ng (by lia)) hTO₃
 refine ae (fU HN rfl (ae (yJ HN λjn hTO₅ Aj=>?_)))
 replace hTO₅:IsPair jn TO x y:=hTO₅;refine ae (mL (ah (ah ?_)));refine ae (fU hTO₅ rfl (ae (wpAny_newTuple ?_)));have hsz:jn.objs.size=s.heap.objs.size:=by rw[Aj.1,e₄.1,iV.1,e₂.1,e₁.1]
 have Nx:IsZip jn z TI TO .ellipsis:=Aj.extBut _ _ (by first | exact nl (by lia) | exact ng (by lia)) (e₄.extBut _ _ (by first | exact nl (by lia) | exact ng (by lia)) (iV.extBut _ _ (by first | exact nl (by lia) | exact ng (by lia)) (e₂.extBut _ _ (by first | exact nl (by lia) | exact ng (by lia)) hz₁)))
 have kp:∀c o,c≠z->c≠TO->c≠i1->c≠i2->s.heap.get? c=some o->jn.get? c=some o:=λc o c1 c2 c3 c4 e=>Aj.extBut _ _ c2 (e₄.extBut _ _ c4 (iV.extBut _ _ c2 (e₂.extBut _ _ c3 (e₁.extBut _ _ c1 e))))
 have VX:SI jn i1 l1 (k+1) xs:=xH.at (λo e=>Aj.extBut _ _ (by first | exact nl (by lia) | exact ng (by lia)) (e₄.extBut _ _ (by first | exact nl (by lia) | exact ng (by lia)) (iV.extBut _ _ (by first | exact nl (by lia) | exact ng (by lia)) e))) (λo e=>Aj.extBut _ _ (by first | exact nl (by lia) | exact ng (by lia)) (e₄.extBut _ _ (by first | exact nl (by lia) | exact ng (by lia)) (iV.extBut _ _ (by first | exact nl (by lia) | exact ng (by lia)) e)))
 have VY:SI jn i2 l2 (k+1) ys:=VW.at (λo e=>Aj.extBut _ _ (by first | exact nl (by lia) | exact ng (by lia)) e) (λo e=>Aj.extBut _ _ (by first | exact nl (by lia) | exact ng (by lia)) e)
 have zlt:z<jn.objs.size:=aC Nx;show wpAny _ _ (Builtin.SmallTypes.ownedTupleHandOut (.ref z) (.ref jn.objs.size) >>= _) _ _ _;refine ae ?_;unfold Builtin.SmallTypes.ownedTupleHandOut;have VZ:IsZip (jn.push {cls:=.type "tuple",data:=.seq #[x,y]}) z TI TO .ellipsis:=aG _ Nx
 refine ae (j6 VZ (by simp) λaah HP e₇=>?_)
 replace HP:IsZip aah z TI TO (rawInt jn.objs.size):=HP;refine j6 HP (by simp) λHQ B0 Rc=>?_
 replace B0:IsZip HQ z TI TO (rawInt jn.objs.size):=B0;have up:∀c o,c≠z->jn.get? c=some o->HQ.get? c=some o:=λc o c1 e=>Rc.extBut _ _ c1 (e₇.extBut _ _ c1 (aG _ e))
 have hT₈:IsPair HQ jn.objs.size x y:=Rc.extBut _ _ (by first | exact nl (by lia) | exact ng (by lia)) (e₇.extBut _ _ (by first | exact nl (by lia) | exact ng (by lia)) (bc _ rfl))
 have hs8:HQ.objs.size=jn.objs.size+1:=by rw[Rc.1,e₇.1,eJ]
 rw[hsz]at B0 hT₈ hs8;refine ah ⟨_,rfl,?_⟩;show Q (.ref jn.objs.size) _;rw[hsz];refine hQ HQ ⟨B0,up _ _ (by first | exact nl (by lia) | exact ng (by lia)) (kp _ _ (by first | exact nl (by lia) | exact ng (by lia)) (by first | exact nl (by lia) | exact ng (by lia)) (by first | exact nl (by lia) | exact ng (by lia)) (by first | exact nl (by lia) | exact ng (by lia)) hTI),⟨x,y,up _ _ (by first | exact nl (by lia) | exact ng (by lia)) hTO₅⟩,VX.at (λo e=>up _ o (by first | exact nl (by lia) | exact ng (by lia)) e) (λo e=>up _ o (by first | exact nl (by lia) | exact ng (by lia)) e),VY.at (λo e=>up _ o (by first | exact nl (by lia) | exact ng (by lia)) e) (λo e=>up _ o (by first | exact nl (by lia) | exact ng (by lia)) e),⟨o1,o2,o3,o4⟩,q1,q2⟩ hT₈ hs8 λc o c1 c2 c3 c4 e=>up c o c1 (kp c o c1 c2 c3 c4 e)
theorem Rf{Q:Fin->Shared->Prop}(hh:A.handled=none)(Z:Zp s.heap z TI TO i1 i2 l1 l2 .none k xs ys)(D0:xs[k]?=none\/ys[k]?=none)
  (hE:∀h' e,(∀c o,c≠z->c≠TO->c≠i1->c≠i2->s.heap.get? c=some o->h'.get? c=some o)->(∃o,h'.get? e=some o/\o.cls=.type "StopIteration")->E (.ref e) {s with heap:=h'}):wpAny (model prog w) A (Builtin.«zip.__next__» ⟨[.ref z],[]⟩) Q E s:=by
 obtain⟨hz,hTI,⟨a,b,hTO⟩,s1,s2,⟨o1,o2,o3,o4⟩,q1,q2⟩:=Z;show wpAny _ _ (field (.ref z) 2 >>= _) _ _ _;refine ae (cw hz rfl (x:=.bool false) rfl ?_);show wpAny _ _ (field (.ref z) 3 >>= _) _ _ _;refine ae (cw hz rfl (x:=.ref TI) rfl (ae (fU hTI rfl ?_)));show wpAny _ _ (Builtin.SmallTypes.ownedTupleIsFree (.ref z) >>= _) _ _ _;refine ae ?_;unfold Builtin.SmallTypes.ownedTupleIsFree;refine ae (cw hz rfl (x:=.none) rfl (ah ?_));simp only[fW];refine ae (gH (ae (cw hz rfl (x:=.ref TO) rfl (ae (j6 hz (by simp) λh₁ hz₁ e₁=>?_)))))
 replace hz₁:IsZip h₁ z TI TO .ellipsis:=hz₁;refine ae ?_;simp only[List.zipIdx_cons,List.zipIdx_nil,oW,uq];refine ae (ae (uv ?_));show wpAny _ _ (Builtin.SmallTypes.nextOf (.ref i1) >>= _) _ _ _;have lP:SI h₁ i1 l1 k xs:=s1.at (λo e=>e₁.extBut _ _ (by first | exact nl (by lia) | exact ng (by lia)) e) (λo e=>e₁.extBut _ _ (by first | exact nl (by lia) | exact ng (by lia)) e)
 cases hx:xs[k]? with
 | none =>
  refine ae (SI.stop hh lP hx λqi e hs₂ he=>?_)
  obtain⟨oe,Rg,V0⟩:=he;have Ny:IsZip qi z TI TO .ellipsis:=hs₂ _ _ (by first | exact nl (by lia) | exact ng (by lia)) hz₁
  have hez:e≠z:=λx=>by subst x;rw[Ny]at Rg;cases Rg;simp at V0
  exact j6 Ny (by simp) λkN _ hs₃=>hE kN e (λc o c1 _ c3 _ x=>hs₃.extBut _ _ c1 (hs₂ _ _ c3 (e₁.extBut _ _ c1 x))) ⟨oe,hs₃.extBut _ _ hez Rg,V0⟩
 | some x =>
  have hy:ys[k]?=none:=by
   rcases D0 with h | h
   ·rw[hx]at h;cases h
   ·exact h
  refine ae (SI.next lP hx λqi xH e₂=>ah ?_)
  have qj:IsPair qi TO a b:=e₂.extBut _ _ (by first | exact nl (by lia) | exact ng (by lia)) (e₁.extBut _ _ (by first | exact nl (by lia) | exact ng (by lia)) hTO)
  refine ae (fU qj rfl (ae (yJ qj λkN hTO₃ iV=>?_)))
  refine ae (mL (ah (ae (ae (uv ?_)))));show wpAny _ _ (Builtin.SmallTypes.nextOf (.ref i2) >>= _) _ _ _;have xI:SI kN i2 l2 k ys:=s2.at (λo e=>iV.extBut _ _ (by first | exact nl (by lia) | exact ng (by lia)) (e₂.extBut _ _ (by first | exact nl (by lia) | exact ng (by lia)) (e₁.extBut _ _ (by first | exact nl (by lia) | exact ng (by lia)) e))) (λo e=>iV.extBut _ _ (by first | exact nl (by lia) | exact ng (by lia)) (e₂.extBut _ _ (by first | exact nl (by lia) | exact ng (by lia)) (e₁.extBut _ _ (by first | exact nl (by lia) | exact ng (by lia)) e)))
  refine ae (SI.stop hh xI hy λRb e Nz he=>?_)
  obtain⟨oe,Rg,V0⟩:=he;have NA:IsZip Rb z TI TO .ellipsis:=Nz _ _ (by first | exact nl (by lia) | exact ng (by lia)) (iV.extBut _ _ (by first | exact nl (by lia) | exact ng (by lia)) (e₂.extBut _ _ (by first | exact nl (by lia) | exact ng (by lia)) hz₁))
  have hez:e≠z:=λx=>by subst x;rw[NA]at Rg;cases Rg;simp at V0
  exact j6 NA (by simp) λjn _ hs₅=>hE jn e (λc o c1 c2 c3 c4 x=>hs₅.extBut _ _ c1 (Nz _ _ c4 (iV.extBut _ _ c2 (e₂.extBut _ _ c3 (e₁.extBut _ _ c1 x))))) ⟨oe,hs₅.extBut _ _ hez Rg,V0⟩
theorem HR(l1 l2:Addr)(xs ys:Array Value)(c1 c2:String) :
  Meets (Builtin.«zip.__new__» ⟨[.type "zip",.ref l1,.ref l2],[]⟩) (λ_ R s=>iL s.heap l1 xs c1/\iL s.heap l2 ys c2 /\
   ∀h1 h2 h3 h4:Heap,h1=s.heap.push {cls:=.type c1,data:=.fields #[.ref l1,.int 0 0]}->h2=h1.push {cls:=.type c2,data:=.fields #[.ref l2,.int 0 0]}->h3=h2.push {cls:=.type "tuple",data:=.seq #[.ref s.heap.objs.size,.ref h1.objs.size]}->h4=h3.push {cls:=.type "tuple",data:=.seq #[.none,.none]} ->
    R (.ok (.ret (.ref h4.objs.size))) {s with heap:=h4.push {cls:=.type "zip",data:=.fields #[.none,.bool false,.bool false,.ref h2.objs.size,.ref h3.objs.size]}}) :=
 .of_wp λprog w A R s h=>by
  obtain⟨hp,g,d,tk,os⟩:=s;obtain⟨VC,SH,h⟩:=h;have u0:=sub_zip;have V1:iL (Shared.heap ⟨hp,g,d,tk,os⟩) l1 xs c1:=VC;have Ma:iL (Shared.heap ⟨hp.push {cls:=.type c1,data:=.fields #[.ref l1,.int 0 0]},g,d,tk,os⟩) l2 ys c2:=by
   rcases SH with⟨e,q⟩ | ⟨e,q⟩
   ·exact .inl ⟨e,yS q _⟩
   ·exact .inr ⟨e,Heap.IsTuple.push q _⟩
  wp_walk using jD V1,jD Ma
  exact⟨_,rfl,h _ _ _ _ rfl rfl rfl rfl⟩
end
def IsZ(h:Heap)(z TI TO t:Nat)(f:Bool):Prop:=h.get? z=some {cls:=.type "zip",data:=.fields #[rawInt t,.bool f,.bool false,.ref TI,.ref TO]}
structure Zq (h:Heap) (z TI TO i1 i2 l1 l2 t:Nat) (f:Bool) (k:Nat) (xs ys:Array Value):Prop where
 hz:IsZ h z TI TO t f
 hTI:IsPair h TI (.ref i1) (.ref i2)
 s1:SI h i1 l1 k xs
 s2:SI h i2 l2 k ys
 al:∃o,h.get? t=some o
 ord:i1<i2/\i2<TI/\TI<TO/\TO<z/\z<t
 o1:l1<i1
 o2:l2<i1
section
variable {prog:Program} {w:World} {A:Around} {E:Value->Shared->Prop} {s:Shared} {z TI TO i1 i2 l1 l2 t:Nat} {f:Bool} {k:Nat} {xs ys:Array Value}
theorem Zq.at{h h':Heap}(Z:Zq h z TI TO i1 i2 l1 l2 t f k xs ys)(kp:∀b o,b<=z->h.get? b=some o->h'.get? b=some o)(ka:∀o,h.get? t=some o->∃o',h'.get? t=some o'):Zq h' z TI TO i1 i2 l1 l2 t f k xs ys:=by
 obtain⟨hz,hTI,s1,s2,⟨oa,ha⟩,⟨o1,o2,o3,o4,o5⟩,q1,q2⟩:=Z;exact⟨kp _ _ (az _) hz,kp _ _ (by lia) hTI,s1.at (λo e=>kp _ o (by lia) e) (λo e=>kp _ o (by lia) e),s2.at (λo e=>kp _ o (by lia) e) (λo e=>kp _ o (by lia) e),ka _ ha,⟨o1,o2,o3,o4,o5⟩,q1,q2⟩
theorem B2{oa:Obj}{Q:Bool->Shared->Prop}(hz:IsZ s.heap z TI TO t f)(ha:s.heap.get? t=some oa)(hQ:∀h₁,IsZ h₁ z TI TO t true->Heap.SameBut z s.heap h₁->Q false {s with heap:=h₁}):wpAny (model prog w) A (Builtin.SmallTypes.ownedTupleIsFree (.ref z)) Q E s:=by
 unfold Builtin.SmallTypes.ownedTupleIsFree;refine ae (cw hz rfl (x:=rawInt t) rfl ?_);show wpAny _ _ (loadIfAlive ((t:Int).toNat) >>= _) _ _ _;rw[eZ];refine ae (W.kdx_alive ha ?_);simp only[Option.isNone_some,ez,cW];refine ae (cw hz rfl (x:=.bool f) rfl ?_);cases f with
 | true =>
  rw[if_neg (show ¬((Value.bool true != Value.bool true)=true)from dg)]
  exact ah (hQ _ hz (Heap.SameBut.refl _ _))
 | false =>
  rw[if_pos (show(Value.bool false != Value.bool true)=true from rfl)]
  exact ae (j6 hz (by simp) λh₁ hz₁ e₁=>ah (hQ h₁ hz₁ e₁))
theorem Mb{x y:Value}{Q:Value->Shared->Prop}(Z:Zq s.heap z TI TO i1 i2 l1 l2 t f k xs ys)(hx:xs[k]?=some x)(hy:ys[k]?=some y)
  (hQ:∀h',Zq h' z TI TO i1 i2 l1 l2 t true (k+1) xs ys->IsPair h' s.heap.objs.size x y->h'.objs.size=s.heap.objs.size+1->(∀c o,c≠z->c≠i1->c≠i2->s.heap.get? c=some o->h'.get? c=some o)->Q (.ref s.heap.objs.size) {s with heap:=h'}) :
  wpAny (model prog w) A (Builtin.«zip.__next__» ⟨[.ref z],[]⟩) (λgh s'=>∃v,gh=.done (.ret v)/\Q v s') E s:=by
 obtain⟨hz,hTI,s1,s2,⟨oa,ha⟩,⟨o1,o2,o3,o4,o5⟩,q1,q2⟩:=Z;show wpAny _ _ (field (.ref z) 2 >>= _) _ _ _;refine ae (cw hz rfl (x:=.bool false) rfl ?_);show wpAny _ _ (field (.ref z) 3 >>= _) _ _ _;refine ae (cw hz rfl (x:=.ref TI) rfl (ae (fU hTI rfl ?_)));show wpAny _ _ (Builtin.SmallTypes.ownedTupleIsFree (.ref z) >>= _) _ _ _;refine ae (B2 hz ha λh₁ hz₁ e₁=>?_)
 simp only[ez,cW];refine ae ?_;simp only[List.forIn_toArray,oW,uq];refine ae (ae (cD ?_));show wpAny _ _ (Builtin.SmallTypes.nextOf (.ref i1) >>= _) _ _ _;have lP:SI h₁ i1 l1 k xs:=s1.at (λo e=>e₁.extBut _ _ (by first | exact nl (by lia) | exact ng (by lia)) e) (λo e=>e₁.extBut _ _ (by first | exact nl (by lia) | exact ng (by lia)) e)
 refine ae (SI.next lP hx λqi xH e₂=>ah ?_)
 refine ah (ae (ae (cD ?_)));show wpAny _ _ (Builtin.SmallTypes.nextOf (.ref i2) >>= _) _ _ _;have HS:SI qi i2 l2 k ys:=s2.at (λo e=>e₂.extBut _ _ (by first | exact nl (by lia) | exact ng (by lia)) (e₁.extBut _ _ (by first | exact nl (by lia) | exact ng (by lia)) e)) (λo e=>e₂.extBut _ _ (by first | exact nl (by lia) | exact ng (by lia)) (e₁.extBut _ _ (by first | exact nl (by lia) | exact ng (by lia)) e))
 refine ae (SI.next HS hy λkN xI iV=>ah ?_)
 refine ah (ah ?_);have hsz:kN.objs.size=s.heap.objs.size:=by rw[iV.1,e₂.1,e₁.1]
 have kp:∀c o,c≠z->c≠i1->c≠i2->s.heap.get? c=some o->kN.get? c=some o:=λc o c1 c2 c3 e=>iV.extBut _ _ c3 (e₂.extBut _ _ c2 (e₁.extBut _ _ c1 e))
 have up:∀c o,c≠i1->c≠i2->h₁.get? c=some o->kN.get? c=some o:=λc o c2 c3 e=>iV.extBut _ _ c3 (e₂.extBut _ _ c2 e)
 refine ae (wpAny_newTuple (hsz:=by show 2<=sizeLine;decide) ?_)
 show wpAny _ _ (ret (Value.ref kN.objs.size)) _ _ {s with heap:=kN.push {cls:=.type "tuple",data:=.seq #[x,y]}}
 rw[hsz];refine ah ⟨_,rfl,?_⟩;have Z3:Zq kN z TI TO i1 i2 l1 l2 t true (k+1) xs ys:=⟨up _ _ (by first | exact nl (by lia) | exact ng (by lia)) (by first | exact nl (by lia) | exact ng (by lia)) hz₁,kp _ _ (by first | exact nl (by lia) | exact ng (by lia)) (by first | exact nl (by lia) | exact ng (by lia)) (by first | exact nl (by lia) | exact ng (by lia)) hTI,xH.at (λo e=>iV.extBut _ _ (by first | exact nl (by lia) | exact ng (by lia)) e) (λo e=>iV.extBut _ _ (by first | exact nl (by lia) | exact ng (by lia)) e),xI,⟨oa,kp _ _ (by first | exact nl (by lia) | exact ng (by lia)) (by first | exact nl (by lia) | exact ng (by lia)) (by first | exact nl (by lia) | exact ng (by lia)) ha⟩,⟨o1,o2,o3,o4,o5⟩,q1,q2⟩
 refine hQ _ (Z3.at (λb o _ e=>aG _ e) λo e=>⟨o,aG _ e⟩) ?_ (by rw[eJ,hsz]) λc o c1 c2 c3 e=>aG _ (kp c o c1 c2 c3 e)
 rw[<-hsz];exact bc _ rfl
theorem Rh{Q:Fin->Shared->Prop}(hh:A.handled=none)(Z:Zq s.heap z TI TO i1 i2 l1 l2 t f k xs ys)(D0:xs[k]?=none\/ys[k]?=none)
  (hE:∀h' e,(∀c o,c≠z->c≠i1->c≠i2->s.heap.get? c=some o->h'.get? c=some o)->(∃o,h'.get? e=some o/\o.cls=.type "StopIteration")->E (.ref e) {s with heap:=h'}):wpAny (model prog w) A (Builtin.«zip.__next__» ⟨[.ref z],[]⟩) Q E s:=by
 obtain⟨hz,hTI,s1,s2,⟨oa,ha⟩,⟨o1,o2,o3,o4,o5⟩,q1,q2⟩:=Z;show wpAny _ _ (field (.ref z) 2 >>= _) _ _ _;refine ae (cw hz rfl (x:=.bool false) rfl ?_);show wpAny _ _ (field (.ref z) 3 >>= _) _ _ _;refine ae (cw hz rfl (x:=.ref TI) rfl (ae (fU hTI rfl ?_)));show wpAny _ _ (Builtin.SmallTypes.ownedTupleIsFree (.ref z) >>= _) _ _ _;refine ae (B2 hz ha λh₁ hz₁ e₁=>?_)
 simp only[ez,cW];refine ae ?_;simp only[List.forIn_toArray,oW,uq];refine ae (ae (cD ?_));show wpAny _ _ (Builtin.SmallTypes.nextOf (.ref i1) >>= _) _ _ _;have lP:SI h₁ i1 l1 k xs:=s1.at (λo e=>e₁.extBut _ _ (by first | exact nl (by lia) | exact ng (by lia)) e) (λo e=>e₁.extBut _ _ (by first | exact nl (by lia) | exact ng (by lia)) e)
 cases hx:xs[k]? with
 | none =>
  refine ae (SI.stop hh lP hx λqi e hs₂ he=>?_)
  exact hE qi e (λc o c1 c3 _ x=>hs₂ _ _ c3 (e₁.extBut _ _ c1 x)) he
 | some x =>
  have hy:ys[k]?=none:=by
   rcases D0 with h | h
   ·rw[hx]at h;cases h
   ·exact h
  refine ae (SI.next lP hx λqi xH e₂=>ah ?_)
  refine ah (ae (ae (cD ?_)));show wpAny _ _ (Builtin.SmallTypes.nextOf (.ref i2) >>= _) _ _ _;have HS:SI qi i2 l2 k ys:=s2.at (λo e=>e₂.extBut _ _ (by first | exact nl (by lia) | exact ng (by lia)) (e₁.extBut _ _ (by first | exact nl (by lia) | exact ng (by lia)) e)) (λo e=>e₂.extBut _ _ (by first | exact nl (by lia) | exact ng (by lia)) (e₁.extBut _ _ (by first | exact nl (by lia) | exact ng (by lia)) e))
  refine ae (SI.stop hh HS hy λkN e hs₃ he=>?_)
  exact hE kN e (λc o c1 c2 c3 x=>hs₃ _ _ c3 (e₂.extBut _ _ c2 (e₁.extBut _ _ c1 x))) he
end
def ZS(h:Heap)(z TI TO i1 i2 l1 l2 B i:Nat)(xs ys:Array Value):Prop:=(i=0/\Zp h z TI TO i1 i2 l1 l2 .none 0 xs ys)\/(0<i/\∃f,Zq h z TI TO i1 i2 l1 l2 B f i xs ys)
def kO(B i:Nat):Array Value:=((List.range i).map λj=>Value.ref (B+j)).toArray
theorem D1(B i:Nat):(kO B i).push (.ref (B+i))=kO B (i+1):=by
 unfold kO;rw[y9,gE];simp
theorem sP(B i:Nat):(kO B i).size=i:=by unfold kO;simp
section
variable {prog:Program} {w:World} {A:Around} {E:Value->Shared->Prop} {s:Shared} {z TI TO i1 i2 l1 l2 B:Nat} {i:Nat} {xs ys:Array Value}
theorem ZS.zip{h:Heap}(Z:ZS h z TI TO i1 i2 l1 l2 B i xs ys):∃o,h.get? z=some o/\o.cls=.type "zip":=by
 rcases Z with⟨_,Z⟩ | ⟨_,f,Z⟩
 ·exact⟨_,Z.hz,rfl⟩
 ·exact⟨_,Z.hz,rfl⟩
theorem ZS.at{h h':Heap}(Z:ZS h z TI TO i1 i2 l1 l2 B i xs ys)(kp:∀b o,b<=z->h.get? b=some o->h'.get? b=some o)(ka:∀o,h.get? B=some o->∃o',h'.get? B=some o'):ZS h' z TI TO i1 i2 l1 l2 B i xs ys:=by
 rcases Z with⟨e,⟨hz,hTI,⟨a,b,hTO⟩,s1,s2,⟨o1,o2,o3,o4⟩,q1,q2⟩⟩ | ⟨e,f,Z⟩
 ·exact .inl ⟨e,⟨kp _ _ (az _) hz,kp _ _ (by lia) hTI,⟨a,b,kp _ _ (by lia) hTO⟩,s1.at (λo e=>kp _ o (by lia) e) (λo e=>kp _ o (by lia) e),s2.at (λo e=>kp _ o (by lia) e) (λo e=>kp _ o (by lia) e),⟨o1,o2,o3,o4⟩,q1,q2⟩⟩
 ·exact .inr ⟨e,f,Z.at kp ka⟩
theorem Mc{x y:Value}{Q:Option Value->Shared->Prop}(Z:ZS s.heap z TI TO i1 i2 l1 l2 B i xs ys)(hsz:s.heap.objs.size=B+i)(hx:xs[i]?=some x)(hy:ys[i]?=some y)
  (hQ:∀h',ZS h' z TI TO i1 i2 l1 l2 B (i+1) xs ys->IsPair h' (B+i) x y->h'.objs.size=B+(i+1)->(∀c o,c≠z->c≠TO->c≠i1->c≠i2->s.heap.get? c=some o->h'.get? c=some o)->Q (some (.ref (B+i))) {s with heap:=h'}) :
  wpAny (model prog w) A (pyNext (.ref z)) Q E s:=by
 obtain⟨oz,XR,hzc⟩:=Z.zip;have hT:s.TypeIs (.ref z) "zip":=⟨_,XR,hzc⟩;have hzl:z<s.heap.objs.size:=aC XR;unfold pyNext;rcases Z with⟨rfl,Z⟩ | ⟨hi,f,Z⟩
 ·refine ae (ja (eX (name:=Str.ofString "__next__") hT i9 (cV i9 hT ua
   (L9 Z hx hy λh' Z' SV PM kp=>ah ?_) (t6 _))))
  obtain⟨hz,hTI,_,s1,s2,⟨o1,o2,o3,o4⟩,q1,q2⟩:=Z';rw[hsz]at SV hz hzl ⊢;refine(hQ h' (.inr ⟨uw _,false,⟨hz,hTI,s1,s2,⟨_,SV⟩,⟨o1,o2,o3,o4,by lia⟩,q1,q2⟩⟩) SV (by lia) kp)
 ·refine ae (ja (eX (name:=Str.ofString "__next__") hT i9 (cV i9 hT ua
   (Mb Z hx hy λh' Z' SV PM kp=>ah ?_) (t6 _))))
  rw[hsz]at SV ⊢;exact(hQ h' (.inr ⟨uw _,true,Z'⟩) SV (by lia) λc o c1 _ c3 c4 e=>kp c o c1 c3 c4 e)
theorem Md{Q:Option Value->Shared->Prop}(hh:A.handled=none)(Z:ZS s.heap z TI TO i1 i2 l1 l2 B i xs ys)(D0:xs[i]?=none\/ys[i]?=none)
  (hQ:∀h',(∀c o,c≠z->c≠TO->c≠i1->c≠i2->s.heap.get? c=some o->h'.get? c=some o)->Q none {s with heap:=h'}) :
  wpAny (model prog w) A (pyNext (.ref z)) Q E s:=by
 obtain⟨oz,XR,hzc⟩:=Z.zip;have hT:s.TypeIs (.ref z) "zip":=⟨_,XR,hzc⟩;unfold pyNext;rcases Z with⟨rfl,Z⟩ | ⟨hi,f,Z⟩
 ·refine ae (ja (eX (name:=Str.ofString "__next__") hT i9 (cV i9 hT ua (Rf hh Z D0 λh' e kp ⟨o,ho,hcl⟩=>?_) (t6 _))))
  exact ae (mC (T:="StopIteration") (b:=true) ⟨o,ho,hcl⟩ o6 (ah (hQ h' kp)))
 ·refine ae (ja (eX (name:=Str.ofString "__next__") hT i9 (cV i9 hT ua (Rh hh Z D0 λh' e kp ⟨o,ho,hcl⟩=>?_) (t6 _))))
  exact ae (mC (T:="StopIteration") (b:=true) ⟨o,ho,hcl⟩ o6 (ah (hQ h' λc o c1 _ c3 c4 e=>kp c o c1 c3 c4 e)))
end
section
variable {prog:Program} {w:World} {A:Around} {R:Result->Shared->Prop} {z TI TO i1 i2 l1 l2 S B n:Nat} {xs ys:Array Value}
def lQ(h:Heap)(B i:Nat)(xs ys:Array Value):Prop:=∀j,j<i->∃x y,xs[j]?=some x/\ys[j]?=some y/\IsPair h (B+j) x y
theorem Me(hh:A.handled=none)(hn:n=min xs.size ys.size)(hzS:z<S)(hSB:S<B)(ord:i1<z/\i2<z/\TO<z)(res:Value)(SW:n<=sizeLine) :
  ∀(k i:Nat) (s:Shared) (c:Nat),n-i=k->i<=n->ZS s.heap z TI TO i1 i2 l1 l2 B i xs ys->s.heap.objs.size=B+i->lQ s.heap B i xs ys->s.heap.get? S=some {cls:=.type "list",dict:=none,data:=.seq (kO B i) c,slots:=#[]} ->
  (∀h' c',(∀b o,b≠z->b≠TO->b≠i1->b≠i2->b≠S->s.heap.get? b=some o->h'.get? b=some o)->h'.get? S=some {cls:=.type "list",dict:=none,data:=.seq (kO B n) c',slots:=#[]}->lQ h' B n xs ys->R (.ok (.ret res)) {s with heap:=h'}) ->
  codeAny (model prog w) A (.builtin "list.extend.loop" ⟨[.ref S,.ref z,res],[]⟩) R s:=by
 intro k;induction k with
 | zero =>
  intro i s c hk hi mQ hsz hp hS hR;have Nr:i=n:=by lia
  subst Nr;refine il F.entry_extend_loop ?_;rw[iZ tQ _];show wpAny _ A.in1 (pyNext (.ref z) >>= _) _ _ s;refine ae (Md (by simp[hh]) mQ ?_ λh' kp=>?_)
  ·rcases Nat.le_total xs.size ys.size with q | q
   ·exact .inl (mw (by lia))
   ·exact .inr (mw (by lia))
  ·refine ah (hR h' c (λb o c1 c2 c3 c4 _ e=>kp b o c1 c2 c3 c4 e) (kp S _ (by lia) (by lia) (by lia) (by lia) hS) λj hj=>?_)
   obtain⟨x,y,e1,e2,e3⟩:=hp j hj;exact⟨x,y,e1,e2,kp _ _ (by lia) (by lia) (by lia) (by lia) e3⟩
 | succ k ih =>
  intro i s c hk hi mQ hsz hp hS hR;have dH:i<n:=by lia
  have hx:xs[i]?=some (xs[i]'(by lia)):=ie _
  have hy:ys[i]?=some (ys[i]'(by lia)):=ie _
  refine il F.entry_extend_loop ?_;rw[iZ tQ _];show wpAny _ A.in1 (pyNext (.ref z) >>= _) _ _ s;refine ae (Mc mQ hsz hx hy λh' Hh SR aam kp=>?_)
  have EK:=kp S _ (by lia) (by lia) (by lia) (by lia) hS
  show wpAny _ A.in1 (updateSeq S (·.push (.ref (B+i))) >>= _) _ _ _;refine ae ?_;have hup:=fD (Obj.mapSeq (·.push (Value.ref (B+i)))) EK rfl;obtain⟨c1,hup⟩:∃c1,(h'.update S (Obj.mapSeq (·.push (Value.ref (B+i))))).get? S=some {cls:=.type "list",dict:=none,data:=.seq (kO B (i+1)) c1,slots:=#[]}:=⟨_,by rw[<-D1];exact hup⟩
  have oth:∀b o,b≠S->h'.get? b=some o->(h'.update S (Obj.mapSeq (·.push (Value.ref (B+i))))).get? b=some o:=λb o hb e=>(iY _ _ (cx hb)).trans e
  refine oY (s:={s with heap:=h'}) EK rfl (ah ⟨km tQ _,ih (i+1) _ c1 (by lia) dH (Hh.at (λb o hb e=>oth b o (by lia) e) λo e=>⟨o,oth _ o (by lia) e⟩) ?_ (λj hj=>?_) ?_ λh2 c2 Zt Lx DJ=>?_⟩)
   (by rw[sP];lia) (by show((kO B i).push _).size<=sizeLine+1;rw[Array.size_push,sP];lia)
  ·show(h'.update S _).objs.size=_;rw[i8];exact aam
  ·by_cases hji:j=i
   ·subst hji;exact⟨_,_,hx,hy,oth _ _ (by lia) SR⟩
   ·obtain⟨x,y,e1,e2,e3⟩:=hp j (by lia)
    exact⟨x,y,e1,e2,oth _ _ (by lia) (kp _ _ (by lia) (by lia) (by lia) (by lia) e3)⟩
  ·exact hup
  ·exact hR h2 c2 (λb o c1 c2 c3 c4 c5 e=>Zt b o c1 c2 c3 c4 c5 (oth b o c5 (kp b o c1 c2 c3 c4 e))) Lx DJ
end
theorem Ak:typeLookup (.type "zip") "__len__"=pure none:=by rw[oV,oB];kernel_rfl
theorem xJ:typeLookup (.type "zip") "__length_hint__"=pure none:=by rw[oV,oB];kernel_rfl
section
variable {prog:Program} {w:World} {A:Around} {E:Value->Shared->Prop} {s:Shared} {R:Result->Shared->Prop} {z TI TO i1 i2 l1 l2 S B n:Nat} {xs ys:Array Value}
theorem D2{c:Nat}(hh:A.handled=none)(hn:n=min xs.size ys.size)(hzS:z<S)(hB:s.heap.objs.size=B)(hSB:S<B)(ord:i1<z/\i2<z/\TO<z)(res:Value)(SW:n<=sizeLine)
  (Z:Zp s.heap z TI TO i1 i2 l1 l2 .none 0 xs ys) (hS:s.heap.get? S=some {cls:=.type "list",data:=.seq #[] c})
  (hR:∀h' c',(∀b o,b≠z->b≠TO->b≠i1->b≠i2->b≠S->s.heap.get? b=some o->h'.get? b=some o)->h'.get? S=some {cls:=.type "list",dict:=none,data:=.seq (kO B n) c',slots:=#[]}->lQ h' B n xs ys->R (.ok (.ret res)) {s with heap:=h'}) :
  wpAny (model prog w) A.in1 (Builtin.List.listExtendWith (.ref S) (.ref z) res)
   (λgh s'=>match gh with | .done f=>R (.ok f) s' | .again c'=>c'.quiet=true/\codeAny (model prog w) A c' R s') (λe s'=>R (.error e) s') s:=by
 have hT:s.TypeIs (.ref z) "zip":=⟨_,Z.hz,rfl⟩;unfold Builtin.List.listExtendWith;refine ae (kr hT ?_);have h1:Builtin.List.listSameRef (.ref S) (.ref z)=false:=by
  have:(S==z)=false:=by simp;lia
  exact this
 have h2:(Value.type "zip"==Value.type "list")=false:=by decide
 have h3:(Value.type "zip"==Value.type "tuple")=false:=by decide
 simp only[h1,h2,h3,Bool.or_false,ez,cW];refine ae (wpAny_pyIter_zip Z.hz ?_);refine ae (cD ?_);unfold Builtin.List.listLengthHint;refine ae (um hT Ak ?_);show wpAny _ A.in1 (specialOf (Value.ref z) (Str.ofString "__length_hint__") >>= _) _ _ _;refine ae (um hT xJ ?_);refine ah ?_;show wpAny _ A.in1 (rule "list.extend.makes-room" >>= λ_=>Builtin.List.listTouch (.ref S) >>= λ_ =>
  again (.builtin "list.extend.loop" ⟨[.ref S,.ref z,res],[]⟩)) _ _ _
 refine ae (gH ?_);refine ae ?_;show wpAny _ A.in1 (updateSeq S (·.push .none) >>= λ_=>updateSeq S (·.pop)) _ _ _
 refine ae (oY hS rfl ?_);have B3:=fD (Obj.mapSeq (·.push Value.none)) hS rfl;refine oY (hz:=by seq_fits) B3 rfl ?_
 have V2:=fD (Obj.mapSeq (·.pop)) B3 rfl;have oth:∀b o,b≠S->s.heap.get? b=some o->((s.heap.update S (Obj.mapSeq (·.push Value.none))).update S (Obj.mapSeq (·.pop))).get? b=some o :=
  λb o hb e=>(iY _ _ (cx hb)).trans ((iY _ _ (cx hb)).trans e)
 have Z0:ZS s.heap z TI TO i1 i2 l1 l2 B 0 xs ys:=.inl ⟨rfl,Z⟩;refine ah ⟨km tQ _,Me hh hn hzS hSB ord res SW n 0 _ _ rfl (eL _) (Z0.at (λb o hb e=>oth b o (by lia) e) λo e=>?_) ?_ (λj hj=>absurd hj (uf _)) V2 λh' c' kp EK hp=>?_⟩
 ·have q:=aC e;rw[hB]at q;exact absurd q (dX _)
 ·show((s.heap.update S _).update S _).objs.size=_;rw[i8,i8];exact hB
 ·exact hR h' c' (λb o c1 c2 c3 c4 c5 e=>kp b o c1 c2 c3 c4 c5 (oth b o c5 e)) EK hp
theorem rF{Q:Value->Shared->Prop}(hh:A.handled=none)(hn:n=min xs.size ys.size)(SW:n<=sizeLine)(ord:i1<z/\i2<z/\TO<z)(Z:Zp s.heap z TI TO i1 i2 l1 l2 .none 0 xs ys)
  (hQ:∀h' c',(∀b o,b≠z->b≠TO->b≠i1->b≠i2->s.heap.get? b=some o->h'.get? b=some o)->h'.get? s.heap.objs.size=some {cls:=.type "list",dict:=none,data:=.seq (kO (s.heap.objs.size+1) n) c',slots:=#[]}->lQ h' (s.heap.objs.size+1) n xs ys->Q (.ref s.heap.objs.size) {s with heap:=h'}) :
  wpAny (model prog w) A (call (.type "list") [.ref z]) Q E s:=by
 refine callType_codes (Q₁:=λobj s₁=>obj=.ref s.heap.objs.size/\s₁={s with heap:=s.heap.push {cls:=.type "list",data:=.seq #[]}}) F.called_list (F.typeCall_list_1 _) F.entry_list_init
  (code_list_new _ ⟨rfl,rfl⟩) λobj s₁ h₁=>?_
 obtain⟨rfl,rfl⟩:=h₁;have hzl:z<s.heap.objs.size:=aC Z.hz;have hS:(s.heap.push {cls:=.type "list",data:=.seq #[]}).get? s.heap.objs.size=some {cls:=.type "list",data:=.seq #[]}:=bc _ rfl
 refine⟨⟨_,hS,rfl⟩,F.args_list_init_2 _ _,?_⟩;show wpAny _ _ (do let old <-Builtin.List.listItems (.ref s.heap.objs.size);Builtin.List.listUpdate (.ref s.heap.objs.size) (λ_=>#[]);letGo old.toList.reverse;Builtin.List.listExtendWith (.ref s.heap.objs.size) (.ref z) .none) _ _ _
 refine ae ?_;unfold Builtin.List.listItems;refine ae (fU hS rfl (ah ?_));show wpAny _ _ (updateSeq s.heap.objs.size (λ_=>#[]) >>= λ_=>letGo (#[]:Array Value).toList.reverse >>= λ_=>Builtin.List.listExtendWith (.ref s.heap.objs.size) (.ref z) .none) _ _ _
 refine ae (oY hS rfl ?_);have B3:=fD (Obj.mapSeq (λ_=>(#[]:Array Value))) hS rfl
 have oth:∀b o,b≠s.heap.objs.size->s.heap.get? b=some o->((s.heap.push {cls:=.type "list",data:=.seq #[]}).update s.heap.objs.size (Obj.mapSeq (λ_=>(#[]:Array Value)))).get? b=some o :=
  λb o hb e=>(iY _ _ (cx hb)).trans (aG _ e)
 refine ae (mL ?_);have Z1:ZS ((s.heap.push {cls:=.type "list",data:=.seq #[]}).update s.heap.objs.size (Obj.mapSeq (λ_=>(#[]:Array Value)))) z TI TO i1 i2 l1 l2 0 0 xs ys :=
  ZS.at (h:=s.heap) (.inl ⟨rfl,Z⟩) (λb o hb e=>oth b o (by lia) e) λo e=>⟨o,oth _ o (by lia) e⟩
 rcases Z1 with⟨_,Z1⟩ | ⟨h0,_⟩
 ·refine D2 (A:=A.in1) (by simp[hh]) hn hzl (B:=s.heap.objs.size+1) ?_ (mE _) ord .none SW Z1 B3 λh' c' kp EK hp=>⟨rfl,?_⟩
  ·show((s.heap.push _).update _ _).objs.size=_;rw[i8,eJ]
  ·exact hQ h' c' (λb o c1 c2 c3 c4 e=>kp b o c1 c2 c3 c4 (aR (aC e)) (oth b o (aR (aC e)) e)) EK hp
 ·exact absurd h0 (dX _)
end
theorem sQ{vs:List V}{us:List Value}(r:Vals vs us):∀{i:Nat} {u:Value},us[i]?=some u->∃v,vs[i]?=some v/\RelV v u:=by
 induction r with
 | nil=>intro i u e;simp at e
 | @cons v w vs ws h t ih =>
  intro i u e;cases i with
  | zero=>simp at e;subst e;exact⟨v,rfl,h⟩
  | succ i=>obtain⟨x,h1,h2⟩:=ih (i:=i) (u:=u) (by simpa using e);exact⟨x,by simpa using h1,h2⟩
theorem D3(B n:Nat):Vals ((List.range n).map λj=>V.ref (B+j)) (kO B n).toList:=by
 unfold kO;induction n with
 | zero=>exact .nil
 | succ n ih =>
  rw[y9,gE,gE];exact ih.append (.cons rfl .nil)
theorem xK{X:Cx}{af:List (Addr×Obj)}{σ:St}{H1 aa:Hp}{ab F1:Fz}{st:bJ}{s:Shared}{B m:Nat}{xs ys:List Value}{vs ws:List V}{ps qs:List PV}(b0:Nat)(hb0:b0<=B)(fo:∀b,b0<=b->H1 b=none/\pz X af H1 b)(hsz:X.s₀.heap.objs.size<=b0)(I:Inv X af σ H1 s)(R:Rep X.K aa ab F1 st σ H1)(r1:Vals vs xs)(r2:Vals ws ys)(b1:ax X.K F1 ps vs)(b2:ax X.K F1 qs ws)
  (hp:lQ s.heap B m xs.toArray ys.toArray):∀i,i<=m->∃Hi Fi,Inv X af σ Hi s/\Rep X.K aa ab Fi st σ Hi/\Gr F1 Fi/\ax X.K Fi ((List.zipWith jk ps qs).take i) ((List.range i).map λj=>V.ref (B+j))/\∀b,b0<=b->(b<B\/B+i<=b)->Hi b=none:=by
 intro i;induction i with
 | zero=>intro _;exact⟨H1,F1,I,R,Gr.refl _,by simp only[List.take_zero,List.range_zero,mK];exact .nil,λb hb _=>(fo b hb).1⟩
 | succ i ih =>
  intro hi;obtain⟨Hi,Fi,Ii,Ri,si,bi,ni⟩:=ih (by lia)
  obtain⟨x,y,e1,e2,e3⟩:=hp i hi;obtain⟨v,ev,rv⟩:∃v,vs[i]?=some v/\RelV v x:=by
   exact sQ r1 (by simpa using e1)
  obtain⟨w,ew,C7⟩:∃w,ws[i]?=some w/\RelV w y:=by
   exact sQ r2 (by simpa using e2)
  obtain⟨p,ep⟩:∃p,ps[i]?=some p:=⟨_,b8 (by have:=(b6.mp ev).1;rw[b1.length];exact this)⟩
  obtain⟨v',ev',bp⟩:=b1.get ep;cases bB (ev.symm.trans ev');obtain⟨q,eq'⟩:∃q,qs[i]?=some q:=⟨_,b8 (by have:=(b6.mp ew).1;rw[b2.length];exact this)⟩
  obtain⟨w',ew',bq⟩:=b2.get eq';cases bB (ew.symm.trans ew');have hn:Hi (B+i)=none:=ni (B+i) (by lia) (.inr (az _))
  obtain⟨_,f2,f3,f4,f5,f6⟩:=(fo (B+i) (by lia)).2
  have I2:=Inv.adopt (D:=B+i) (o:=.aw [v,w]) Ii hn (bh hsz (by lia)) f2 f5 f6 ⟨(by show 2<=sizeLine;decide),[x,y],.cons rv (.cons C7 .nil),⟨_,e3,rfl,0,rfl⟩⟩
  obtain⟨R2,s2⟩:=Ri.laid (.aw [v,w]) hn;refine⟨_,_,I2,R2,si.trans s2,?_,λb hb hc=>?_⟩
  ·have hz:(List.zipWith jk ps qs)[i]?=some (jk p q):=by rw[List.getElem?_zipWith,ep,eq']
   rw[List.take_succ,hz,y9,gE];exact(bi.mono s2).append (.cons (bH.mpr ⟨B+i,[v,w],rfl,fX.of aq,.cons (bp.mono (si.trans s2)) (.cons (bq.mono (si.trans s2)) .nil)⟩) .nil)
  ·rw[aH (show b≠B+i from λz=>by lia)]
   exact ni b hb (by lia)
def lzO(p q:PV):Option (List PV):=(p6 p).bind λps=>(p6 q).bind λqs=>if(List.zipWith jk ps qs).length<=ib then some (List.zipWith jk ps qs)else none
def Rj(m:Nat)(fa fb:Gx PV):Gx PV:=bnd fa λp=>bnd fb λq=>bnd (gI (lzO p q)) λl=>lN m l
section
variable {X:Cx} {aa:Hp} {ab:Fz} {a b:Expr} {fa fb:Gx PV} {pos p lK zp:Pos} {m:Nat}
def Rk(hh:X.A.handled=none)(LA:Gl X "list")(Ho:X.mg "list"=none)(hg:Gl X "zip")(hm:X.mg "zip"=none)(ha:PE X a (tE X aa ab fa))(hb:PE X b (tE X aa ab fb))(hs:starEach [a,b] X.env=(false,eval a X.env)::starEach [b] X.env)(CY:starEach [b] X.env=[(false,eval b X.env)]) :
  PE X (.Call (.Name "list" p) [.Call (.Name "zip" zp) [a,b] [] lK] [] pos) (tE X aa ab (Rj m fa fb)):=by
 rintro af s σ H Q I ⟨F,st,Rp,h⟩
 refine fP (ld_blt I LA Ho (iE .list) ?_ (by decide) (by decide))
 refine eW (nC rfl ?_) rfl rfl;have hA:=gp ha (gp hb pF CY) hs lK af s σ H (λvs H'=>∃F' bI x y pa pb,vs=[x,y]/\Rep X.K aa ab F' bI σ H'/\bu X.K F' pa x/\bu X.K F' pb y/\Tx X aa ab (bu X.K) F' bI (bnd (gI (lzO pa pb)) λl=>lN m l) σ Q) I
  ⟨F,st,Rp,h.bnd λpa v F1 aM H1 R1 g1 b1 h1=>⟨F1,aM,R1,h1.bnd λpb w F2 dG H2 R2 g2 b2 h2=>⟨F2,dG,v,w,pa,pb,rfl,R2,b1.mono g2,b2,h2⟩⟩⟩
 refine Call_ (ld_blt I hg hm boot_zip (eW (thn hA λus s1 z9=>?_) hs (by rw[CY];rfl)))
 obtain⟨vs,H1,I1,r1,F1,aM,x,y,pa,pb,ev,R1,b1,b2,hT⟩:=z9;subst ev;obtain⟨l,e,hT⟩:=At.gI (At.bnd hT);obtain⟨ps,f3,e⟩:=aI e;obtain⟨qs,f4,e⟩:=aI e;obtain⟨zI,rfl⟩:=aB e;obtain⟨u1,u2,rfl,U4,ru2⟩:=FU r1;obtain⟨c1,l1,vs1,rfl,q1,XB,k1⟩:=p7 f3 b1;obtain⟨c2,l2,vs2,rfl,q2,bl2,k2⟩:=p7 f4 b2;cases U4;cases ru2;obtain⟨aA,v1,SN⟩:=(k1 H1 R1.sub).get I1;obtain⟨et,v2,kk2⟩:=(k2 H1 R1.sub).get I1;have lt:∀{l:Addr} {xs:Array Value} {c:String},iL s1.heap l xs c->l<s1.heap.objs.size:=λh=>by
  rcases h with⟨_,⟨o,e,_⟩⟩ | ⟨_,⟨o,e,_⟩⟩
  ·exact aC e
  ·exact aC e
 have Zv:=lt SN;have SK:=lt kk2;refine callType_new PySem.F.called_zip (by decide) (PySem.F.typeCall_zip_2 _ _) (PySem.F.newCall_zip_2 _ _) (λobj=>PySem.F.args_object_init_3 obj _ _) PySem.F.entry_zip_new (HR l1 l2 aA.toArray et.toArray (p0 c1) (p0 c2)) ⟨SN,kk2,λh1 h2 h3 h4 e1 e2 e3 e4=>?_⟩
 have z1:h1.objs.size=s1.heap.objs.size+1:=by rw[e1];exact eJ ..
 have z2:h2.objs.size=s1.heap.objs.size+2:=by rw[e2,eJ,z1]
 have z3:h3.objs.size=s1.heap.objs.size+3:=by rw[e3,eJ,z2]
 have z4:h4.objs.size=s1.heap.objs.size+4:=by rw[e4,eJ,z3]
 generalize e5:h4.push {cls:=.type "zip",data:=.fields #[.none,.bool false,.bool false,.ref h2.objs.size,.ref h3.objs.size]}=h5
 have z5:h5.objs.size=s1.heap.objs.size+5:=by rw[<-e5,eJ,z4]
 have p1:∀b o,s1.heap.get? b=some o->h1.get? b=some o:=λb o e=>by rw[e1];exact aG _ e
 have p2:∀b o,h1.get? b=some o->h2.get? b=some o:=λb o e=>by rw[e2];exact aG _ e
 have p3:∀b o,h2.get? b=some o->h3.get? b=some o:=λb o e=>by rw[e3];exact aG _ e
 have p4:∀b o,h3.get? b=some o->h4.get? b=some o:=λb o e=>by rw[e4];exact aG _ e
 have p5:∀b o,h4.get? b=some o->h5.get? b=some o:=λb o e=>by rw[<-e5];exact aG _ e
 have pp:∀b o,s1.heap.get? b=some o->h5.get? b=some o:=λb o e=>p5 _ _ (p4 _ _ (p3 _ _ (p2 _ _ (p1 _ _ e))))
 have g5:IsZip h5 h4.objs.size h2.objs.size h3.objs.size .none:=by rw[<-e5];exact bc _ rfl
 have g4:IsPair h5 h3.objs.size .none .none:=p5 _ _ (by rw[e4];exact bc _ rfl)
 have g3:IsPair h5 h2.objs.size (.ref s1.heap.objs.size) (.ref h1.objs.size):=p5 _ _ (p4 _ _ (by rw[e3];exact bc _ rfl))
 have g2:h5.get? h1.objs.size=some {cls:=.type (p0 c2),data:=.fields #[.ref l2,.int 0 0]}:=p5 _ _ (p4 _ _ (p3 _ _ (by rw[e2];exact bc _ rfl)))
 have g1:h5.get? s1.heap.objs.size=some {cls:=.type (p0 c1),data:=.fields #[.ref l1,.int 0 0]}:=p5 _ _ (p4 _ _ (p3 _ _ (p2 _ _ (by rw[e1];exact bc _ rfl))))
 have sic:∀{c:Bool} {it l:Addr} {xs:Array Value},h5.get? it=some {cls:=.type (p0 c),data:=.fields #[.ref l,.int 0 0]}->iL s1.heap l xs (p0 c)->SI h5 it l 0 xs:=λ{c it l xs} e k=>by
  cases c with
  | true =>
   rcases k with⟨_,⟨o,eo,r⟩⟩ | ⟨k,_⟩
   ·exact .inl ⟨⟨_,e,rfl,rfl⟩,⟨o,pp _ _ eo,r⟩⟩
   ·exact absurd k (by decide)
  | false =>
   rcases k with⟨k,_⟩ | ⟨_,⟨o,eo,r⟩⟩
   ·exact absurd k (by decide)
   ·exact .inr ⟨⟨_,e,rfl,rfl⟩,⟨o,pp _ _ eo,r⟩⟩
 have Z:Zp h5 h4.objs.size h2.objs.size h3.objs.size s1.heap.objs.size h1.objs.size l1 l2 .none 0 aA.toArray et.toArray:=⟨g5,g3,⟨_,_,g4⟩,sic g1 SN,sic g2 kk2,⟨by lia,by lia,by lia,by lia⟩,Zv,SK⟩
 refine⟨⟨_,g5,rfl⟩,?_⟩;have ad1:=XB.length;have ad2:=bl2.length;have vl1:=v1.length;have vl2:=v2.length;have aap:min aA.toArray.size et.toArray.size=(List.zipWith jk ps qs).length:=by rw[List.length_zipWith,cU,cU];lia
 refine rF (s:={s1 with heap:=h5,toks:=s1.toks}) hh aap.symm (dC zI) ⟨by lia,by lia,by lia⟩ Z λh' c' kp hS hp=>?_
 have hS:h'.get? h5.objs.size=some {cls:=.type "list",dict:=none,data:=.seq (kO (h5.objs.size+1) (List.zipWith jk ps qs).length) c',slots:=#[]}:=hS
 have I2:Inv X af σ H1 {s1 with heap:=h',toks:=s1.toks}:=I1.kept λb o e=>by
  have hb:@LT.lt Nat _ b s1.heap.objs.size:=aC e;exact kp b o (show @Ne Nat _ _ by lia) (show @Ne Nat _ _ by lia) (show @Ne Nat _ _ by lia) (show @Ne Nat _ _ by lia) (pp _ _ e)
 have fo:∀b,s1.heap.objs.size<=b->H1 b=none/\pz X af H1 b:=λb hb=>⟨I1.hok.fresh hb,I1.wa hb (I1.hok.fresh hb)⟩
 obtain⟨Hn,Fn,In,Rn,sn,bn,nn⟩:=xK s1.heap.objs.size (B:=h5.objs.size+1) (by lia) fo I1.sz I2 R1 v1 v2 XB bl2 hp _ (az _)
 rw[List.take_length]at bn;have hnS:Hn h5.objs.size=none:=nn _ (by lia) (.inl (by lia))
 obtain⟨_,f2,f3,f4',f5,f6⟩:=(fo h5.objs.size (by lia)).2
 have I3:=Inv.adopt (D:=h5.objs.size) (o:=.lst ((List.range (List.zipWith jk ps qs).length).map λj=>V.ref (h5.objs.size+1+j))) In hnS (bh I1.sz (by lia)) f2 f5 f6
  ⟨by simp only[aJ,gC];exact dC zI,(kO (h5.objs.size+1) (List.zipWith jk ps qs).length).toList,c',D3 _ _,by simpa using hS⟩
 exact⟨.ref h5.objs.size,_,I3,rfl,Tx.lN (Tx.mono hT sn λ_ _ z=>z) Rn hnS bn⟩
end
section
variable {X:Cx}
theorem B4{α:Type}(xs:List α):∀n:Nat,(List.replicate n xs).flatten.length=n*xs.length
 | 0=>by simp
 | n+1=>by rw[i3,kc,cq,B4 xs n,Nat.succ_mul,Nat.add_comm]
theorem B5(aA:List Value):∀(m:Nat) (acc:List Value),List.foldl (λx1 x2=>x1++x2) acc.toArray (List.replicate m aA.toArray)=(acc++(List.replicate m aA).flatten).toArray
 | 0,acc=>by simp
 | m+1,acc=>by
  rw[i3,uk,show acc.toArray++aA.toArray=(acc++aA).toArray by simp,B5 aA m,i3,kc,oP]
theorem xM{xs:List V}{aA:List Value}(r:Vals xs aA):∀n:Nat,Vals (List.replicate n xs).flatten (List.replicate n aA).flatten
 | 0=>.nil
 | n+1=>by rw[i3,i3,kc,kc];exact r.append (xM r n)
theorem B6{K:W.Frag}{F:Fz}{ps:List PV}{vs:List V}(r:ax K F ps vs):∀n:Nat,ax K F (List.replicate n ps).flatten (List.replicate n vs).flatten
 | 0=>.nil
 | n+1=>by rw[i3,i3,kc,kc];exact r.append (B6 r n)
def V3(K:W.Frag):R2:=λx y H Q=>∃l k xs,x=.ref l/\y=.int k/\iu K H l xs /\ -(2^63)<=k/\k<2^63/\xs.length*k.toNat<=sizeLine /\
 ∀p,H p=none->Q (.ref p) (bM H p (.lst (List.replicate k.toNat xs).flatten))
theorem Mf:OpR X (binaryOp .Mult) (V3 X.K):=by
 intro af s σ H x y v u Q I rx ry h;obtain⟨l,k,xs,rfl,rfl,hH,h1,h2,hz,q⟩:=h;cases rx;obtain⟨t,rfl⟩:=ry;obtain⟨aA,n,r,e,z⟩:=I.pS hH;have hl:=r.length;have dY:aA.toArray.size*k.toNat<=sizeLine:=by rw[cU,<-hl];exact hz
 have aaq:¬aA.toArray.size*k.toNat>(2^63-1)/8:=by
  have:(sizeLine:Nat)<=(2^63-1)/8:=by decide
  lia
 have US:¬(!Builtin.List.listFitsIndex k)=true:=by
  rw[fitsIndex_both h1 h2];exact dg
 have V4:¬Builtin.List.listTooLong (aA.toArray.size*k.toNat)=true:=by
  rw[wq dY];exact dg
 have Hq:List.foldl (λx1 x2=>x1++x2) #[] (List.replicate (if aA.toArray.isEmpty=true then 0 else k.toNat) aA.toArray)=(List.replicate k.toNat aA).flatten.toArray:=by
  have f0:∀m:Nat,List.foldl (λx1 x2=>x1++x2) #[] (List.replicate m aA.toArray)=(List.replicate m aA).flatten.toArray:=λm=>by
   have:=B5 aA m [];rw[List.nil_append]at this;exact this
  rw[f0];cases aA with
  | nil=>simp
  | cons a r'=>rw[if_neg (by simp)]
 refine wpAny_binaryOp_repeat_ref (T:="list") (U:="int") (by decide) ⟨_,e,rfl⟩ (λs'=>typeIs_int s' k t) noFill_list_mul F.fills_int_mul F.slot_int_rmul repeat_list F.slot_int_index.lookup
  (gG F.slot_int_rmul (typeIs_int s k t) F.entry_int_rmul (F.args_int_rmul_2 _ _) (int___rmul___int_list k t l aA.toArray n)
   ⟨e,rfl,⟨_,e,rfl⟩,gG F.slot_list_mul ⟨_,e,rfl⟩ F.entry_list_mul (F.args_list_mul_2 _ _) (AutoListH.list___mul___list_int_3 l aA.toArray n k t US aaq V4) ⟨e,?_⟩⟩)
 rw[Hq];exact⟨.ref _,_,I.OW (t':=s.toks) (xM r k.toNat) (by rw[B4,Nat.mul_comm];exact hz),rfl,q _ I.fresh⟩
def Rl(h:List ak)(p:PV)(j:Int):Option (List PV):=(fA h p).bind λxs=>if(-1000<=j/\j<=1000/\xs.length<=100)then some (List.replicate j.toNat xs).flatten else none
def xN:G2:=λh p q=>match p,q with
 | .int i,.int j=>if((-pT<i/\i<pT)\/(-pT<j/\j<pT))then some (.int (i*j))else none
 | p,.int j=>(Rl h p j).map .lst
 | _,_=>none
theorem Rm{xs:List PV}{vs:List V}{F:Fz}{j:Int}(h:-1000<=j/\j<=1000/\xs.length<=100)(b:ax X.K F xs vs):-(2^63)<=j/\j<2^63/\vs.length*j.toNat<=sizeLine:=by
 refine⟨by lia,by lia,?_⟩
 have:=b.length;rw[jc];have:vs.length*j.toNat<=100*1000:=Nat.mul_le_mul (by lia) (by lia)
 lia
theorem HU:q8 X (binaryOp .Mult) xN:=by
 intro af s σ H x y v u Q I rx ry ⟨aa,ab,F,st,τ,pa,pb,p,e,R,ba,bb,k⟩;unfold xN at e;split at e
 ·rename_i i j;obtain⟨hc,rfl⟩:=aB e;exact Bq (op:=.Mult) (g:=Pf) rfl af s σ H x y v u Q I rx ry ⟨aa,ab,F,st,τ,.int i,.int j,.int (i*j),(show(if decide ((-pT<i/\i<pT)\/(-pT<j/\j<pT))=true then some (PV.int (i*j))else none)=_ from if_pos (eK hc)),R,ba,bb,k⟩
 ·obtain⟨qs,e1,rfl⟩:=aV e;obtain⟨xs,e2,e1⟩:=aI e1;obtain⟨hc,rfl⟩:=aB e1;obtain⟨a,vs,rfl,ha,fB⟩:=R.at (cY e2) ba;obtain⟨c1,c2,c3⟩:=Rm hc fB;refine Mf af s σ H _ y v u Q I rx ry ⟨a,_,vs,rfl,aD.mp bb,ha,c1,c2,c3,λp hp=>?_⟩
  obtain⟨R2,s2⟩:=R.laid (.lst (List.replicate _ vs).flatten) hp;exact k _ _ _ R2 s2 (dJ.mpr ⟨p,_,rfl,iu.of aq,(B6 fB _).mono s2⟩)
 ·cases e
def Mg(op:Operator):Option G2:=match op with
 | .Mult=>some xN
 | op=>Pn op
theorem HV{op:Operator}{g:G2}(h:Mg op=some g):q8 X (binaryOp op) g:=by
 cases op<;>first | (cases h;exact HU) | exact Bq h
end
structure Gm where
 sc:List (Str×NameKind)
 N:List Str
 own:Bool
 fns:List (Str×Nat)
 call:Str->m4
 cons:List (Str×PV)
 cP:List Str
 tabs:List (Str×List (Str×Str))
 dO:List (Str×List (Str×PV))
 cls:List (Str×Nat)
 make:Str->m4
 clss:List Str
 flds:List Str
 /-- what aar in a cell: 1 a list,2 a list of cells,10 a dict MM keys X4 tuples -/
 Tj:List (Str×Nat)
 qV:Option ((PV->Gx PV)->Nat->m4)
 Al:Option (Nat×(PV->Gx PV))
def slot(Γ:Gm)(x:Str):Option Nat:=Γ.N.findIdx? (· == x)
def JO(Γ:Gm)(x:Str):Bool:=match Γ.sc.lookup x with | some .local=>true | some .cell=>true | some .free=>true | _=>false
def SX(Γ:Gm)(x:Str):Bool:=match Γ.sc.lookup x with | some .local=>true | some .cell=>Γ.own | _=>false
def vO(Γ:Gm)(x:Str):Bool:=match Γ.sc.lookup x with | some .globalImplicit=>true | _=>false
def gL(x:Str):Bool:=!(x==("__debug__":Str))&&!(x==("__classdict__":Str))&&!(x==("__name__":Str))
def md(Γ:Gm)(x:Str):Nat:=(Γ.Tj.lookup x).getD 0
def D4(m:Nat):Nat:=if m<10 then m-1 else 0
def Rq(X:Cx)(k:Nat)(fns:List (Str×Nat))(call:Str->m4):Prop:=∀x n,fns.lookup x=some n->∃j f fd ps,j<=k/\FnOk X.prog X.w X.K X.mg X.base (gP X.prog X.w) j f fd ps (DC X.K n (call x))/\X.mg x=some (.ref f)/\W.keepIn X.K (.ref f)=true/\fJ X.K fd ps []
structure HW (Γ:Gm) (X:Cx) (rs:(PV->Gx PV)->Nat->m4):Prop where
 ex:∃(st:Stmt) (fs:Addr) (Np:FuncData) (pr Ns:List Str) (k:Nat) (rb:(PV->Gx PV)->Nat->Gx dn),rs=(λω n=>gX (rb ω n) Ns.length)/\zc X.K "spread" "spread" st fs Np/\X.mg "spread"=some (.ref fs)/\fJ X.K Np pr []/\dj Ns pr (ao st)/\pr.length=2/\dq (k+2) X.A /\
  (∀(cC:Value) (A:Around) (ay:List Env) (s:Shared) (H:Hp) (E:XK) (aa:Hp) (ab:Fz) (n:Nat) (ω:PV->Gx PV),dq (k+1) (A.deeper (envOfC "spread" (ao st) s.heap.objs.size fs cC))->BN (ek (gP X.prog X.w) X.prog X.w X.K X.mg X.base Ns "spread" (ao st) fs cC A ay s H E) aa ab n ω ->
   PSs (ek (gP X.prog X.w) X.prog X.w X.K X.mg X.base Ns "spread" (ao st) fs cC A ay s H E) (cO st) (tS (ek (gP X.prog X.w) X.prog X.w X.K X.mg X.base Ns "spread" (ao st) fs cC A ay s H E) aa ab (rb ω n))) /\
  Rq X k Γ.fns Γ.call
 lam:Nm X
structure GOk (Γ:Gm) (X:Cx) (aa:Hp) (ab:Fz):Prop where
 names:X.env.scope.names=Γ.sc
 N:X.N=Γ.N
 nd:X.N.Nodup
 kind:X.env.scope.kind=.function
 calm:X.calm=true
 hd:X.A.handled=none
 un:X.A.units+1150<cLine
 own:Γ.own=true->∀x,X.fn x=true
 fns:G9 X Γ.fns Γ.call
 cons:∀x p,Γ.cons.lookup x=some p->∃u v,X.mg x=some u/\RelV v u/\∀F,bu X.K F p v
 cP:∀x,Γ.cP.contains x=true->X.mg x=none
 tabs:∀T rows,Γ.tabs.lookup T=some rows->BK X.K X.mg X.w.params T rows
 dO:∀T rows,Γ.dO.lookup T=some rows->u5 X.K X.mg X.w.params T rows
 ns:∀x a,W.nsIn X.K mainGlobals x=some (some (.ref a))->X.mg x=some (.ref a)
 NB:Ha X.K Γ.clss Γ.flds
 cls:∀C n,Γ.cls.lookup C=some n->∃k Ca f fd ps,ClsAt X.K C (.ref Ca)/\CF X.K Ca/\Mk X.K Ca f/\FnOk X.prog X.w X.K X.mg X.base (gP X.prog X.w) k f fd ps (DC X.K n (Γ.make C))/\dq (k+1) X.A/\X.mg C=some (.ref Ca)/\fJ X.K fd ps []
 qV:∀rs,Γ.qV=some rs->HW Γ X rs
 Al:∀n ω,Γ.Al=some (n,ω)->BN X aa ab n ω
def bf:Expr->Bool
 | .Starred _ _=>false
 | .Set _ _ _=>false
 | _=>true
def lR:Expr->Bool
 | .Slice _ _ _ _=>false
 | _=>true
def B7:Expr->Bool
 | .Tuple _ _ _=>false
 | .ListComp _ _ _ _=>false
 | .SetComp _ _ _ _=>false
 | .DictComp _ _ _ _ _=>false
 | _=>true
def jo:Expr->Bool
 | .ListComp _ _ _ _=>false
 | .SetComp _ _ _ _=>false
 | .DictComp _ _ _ _ _=>false
 | _=>true
def vj:Expr->Bool
 | .Name _ _=>true
 | .Subscript _ _ _=>true
 | .Attribute _ _ _=>true
 | .Call _ (_::_) _ _=>true
 | _=>false
def lT(h:vj e=true):attributeBase e f env (eval e env)=eval e env:=by
 cases e with
 | Call f as ks=>cases as with
  | nil=>cases h
  | cons=>cases f<;>rfl
 | _=>first | rfl | cases h
def vk(h:B7 e=true):jo e=true:=by
 cases e<;>first | rfl | cases h
def Am:Expr->Bool
 | .UnaryOp .Not _ _=>false
 | .BoolOp _ _ _=>false
 | .IfExp _ _ _ _=>false
 | .Compare _ _ _ _=>false
 | _=>true
def aY(h:bf e=true)(es:List Expr)(env:Env):starEach (e::es) env=(false,eval e env)::starEach es env:=by
 cases e<;>first | rfl | cases h
def gu(h:bf e=true)(op:CmpOp):behindInMarks op e=false:=by
 cases e<;>first | rfl | cases h
def d8(h:bf e=true)(env:Env)(x:Value):foldedSetIterable e env x=pure x:=by
 cases e<;>first | rfl | cases h
def lU(h:lR e=true):jz e:=by
 intro o i;cases e<;>first | rfl | cases h
def HX(h:Am e=true)(env:Env)(iI:Sem Value):isTrue e env iI=(do let v <-iI;standAt e.pos;holding [v] (truthy v)):=by
 cases e with
 | UnaryOp op a p=>cases op<;>first | rfl | cases h
 | BoolOp _ _ _=>cases h
 | IfExp _ _ _ _=>cases h
 | Compare _ _ _ _=>cases h
 | _=>rfl
def jq(h:jo e=true)(t:Option Expr)(l:Nat)(env:Env):swapsWith e t l env=pure false:=by
 cases e<;>first | rfl | cases h
def ej(h:es.all bf=true)(env:Env)(pos:Pos):(backTo pos (starEach es env)).any (·.1)=false:=by
 induction es with
 | nil=>rfl
 | cons e es ih =>
  rw[fF,aE]at h;rw[aY h.1];exact ih h.2
def An(h:es.all bf=true)(env:Env)(pos:Pos):(backTo pos (starEach es env)).all (λx=>!x.1)=true:=by
 induction es with
 | nil=>rfl
 | cons e es ih =>
  rw[fF,aE]at h;rw[aY h.1];exact ih h.2
def B8(h:es.all bf=true)(hl:es.length<30):((backTo cp (starEach es env)).all (λx=>!x.1)&&(backToKw cp (keywordEach [] env)).all (λx=>x.1.isSome)
   && decide (es.length+([]:List Keyword).length+(if([]:List Keyword).isEmpty then 0 else 1)<30))=true:=by
 rw[An h];simp only[Bool.true_and,aE,j9];exact⟨rfl,hl⟩
def hJ(h:gL x=true):(x==("__debug__":Str))=false/\(x==("__classdict__":Str))=false/\x≠"__name__":=by
 unfold gL at h;simp only[aE,oK]at h;exact⟨h.1.1,h.1.2,by simpa using h.2⟩
noncomputable def qk:Nat->Gm->Expr->Option (Tg×List Nat)
 | 0,_,_=>none
 | n+1,Γ,e=>match e with
  | .Name x _=>if SX Γ x=true then(slot Γ x).map λi=>(b9 i,[i])else none
  | .Tuple es _ _=>(es.foldr (λe r=>(qk n Γ e).bind λg=>r.map λgs=>(je g.1 gs.1,g.2++gs.2)) (some (wG,[]))).map λgs=>(q9 es.length gs.1,gs.2)
  | _=>none
def HY(h:slot Γ x=some i):Γ.N[i]?=some x:=by
 unfold slot at h;obtain⟨hi,hp,_⟩:=yp.mp h;rw[b8 hi];exact fV some (aO hp)
section
variable {Γ:Gm} {X:Cx} {x:Str} {pos:Pos} {aa:Hp} {ab:Fz}
def GOk.aas(G:GOk Γ X aa ab)(h:JO Γ x=true):Tv X.env.scope x:=by
 unfold JO at h;unfold Tv;rw[G.names];split at h<;>simp_all
def GOk.Rt(G:GOk Γ X aa ab)(h:SX Γ x=true):MQ X.env.scope x/\(X.fn x=true\/X.env.scope.names.lookup x=some .local):=by
 unfold SX at h;unfold MQ;rw[G.names];split at h
 ·grind
 ·rename_i z;exact⟨.inr z,.inl (G.own h x)⟩
 ·cases h
def GOk.f9(G:GOk Γ X aa ab)(h:vO Γ x=true):Gl X x:=by
 unfold vO at h;show X.env.scope.names.lookup x=_;rw[G.names];split at h
 ·assumption
 ·cases h
def GOk.ql(G:GOk Γ X aa ab)(h:slot Γ x=some i):X.N[i]?=some x:=by
 rw[G.N];exact HY h
theorem gv(G:GOk Γ X aa ab):∀(n:Nat) (e:Expr) (g:Tg×List Nat),qk n Γ e=some g->PG X e (tG X.K aa ab g.1)/\KG g.2 g.1/\(∀env:Env,(assignEach [e] env).map (·.2)=[assign e env])/\∀(es:List Expr) (env:Env),assignEach (e::es) env=(false,assign e env)::assignEach es env
 | 0,_,_,h=>by cases h
 | n+1,e,g,h=>by
  cases e with
  | Name x p =>
   have h:=h;obtain⟨hs,h⟩:=bO h;obtain⟨i,z,rfl⟩:=aV h;obtain⟨h1,h2⟩:=G.Rt hs;exact⟨Pd i (JL G.nd (G.ql z) h1 h2),KY i,λ_=>rfl,λ_ _=>rfl⟩
  | Tuple es k p =>
   have all:∀es gs,es.foldr (λe r=>(qk n Γ e).bind λg=>r.map λgs=>(je g.1 gs.1,g.2++gs.2)) (some (wG,[]))=some gs ->
     PGs X es (UM X.K aa ab gs.1)/\U2 gs.2 gs.1/\∀env:Env,(assignEach es env).length=es.length/\(assignEach es env).findIdx? (·.1)=none:=by
    intro es;induction es with
    | nil =>
     intro gs h;cases h;exact⟨Pe,KZ,λenv=>⟨rfl,rfl⟩⟩
    | cons e es ih =>
     intro gs h;rw[List.foldr_cons]at h;obtain⟨g1,e1,h⟩:=aI h;obtain⟨g2,z,rfl⟩:=aV h;obtain⟨a1,a2,a3,a4⟩:=gv G n e g1 e1;obtain⟨b1,b2,b3⟩:=ih g2 z;refine⟨Kr a1 b1 (by grind),GJ a2 b2,λenv=>?_⟩
     rw[a4];obtain⟨c1,c2⟩:=b3 env;exact⟨by rw[dh,dh,c1],by grind⟩
   have h:=h;obtain⟨gs,z,rfl⟩:=aV h;obtain⟨b1,b2,b3⟩:=all es gs z;exact⟨UN G.calm b1 (b3 _).1 (b3 _).2,PQ b2,λ_=>rfl,λ_ _=>rfl⟩
  | _=>cases h
def sR(G:GOk Γ X aa ab)(hn:gL x=true)(hv:JO Γ x=true)(hs:slot Γ x=some i):PE X (.Name x pos) (Oc i) :=
 pe_var (G.ql hs) (G.aas hv) (hJ hn).1 (hJ hn).2.1
end
def vm(x:Str):Option GC :=
 if x==("len":Str)then some nM
 else if x==("tuple":Str)then some zN
 else if x==("int":Str)then some Dj
 else if x==("sum":Str)then some KA
 else if x==("str":Str)then some Kz
 else if x==("any":Str)then some DU
 else if x==("all":Str)then some LY
 else none
def HZ:bootBuiltins "sum"=some (.builtin "sum"):=by kernel_rfl
set_option maxHeartbeats 4000000 in
theorem Rv(h:vm x=some g)(hh:X.A.handled=none)(hg:Gl X x)(hm:X.mg x=none)(ha:PA X (a::es) (tA X aa ab ts))
  (he:starEach (a::es) X.env=(false,eval a X.env)::starEach es X.env) (jL:(backTo pos (starEach es X.env)).any (·.1)=false):PE X (.Call (.Name x p) (a::es) [] pos) (tE X aa ab (nP g ts)):=by
 unfold vm at h;split at h
 ·rename_i e;cases h;have e:=aO e;subst e;exact(jd Dk hg hm PySem.boot_len ha (by decide) (by decide) he jL).imp λ_ _ _ h=>iD h
 ·split at h
  ·rename_i e;cases h;have e:=aO e;subst e;exact(mU Dl hg hm (iE .tuple) ha (by decide) (by decide) he jL).imp λ_ _ _ h=>iD h
  ·split at h
   ·rename_i e;cases h;have e:=aO e;subst e;exact(mU Dn hg hm (iE .int) ha (by decide) (by decide) he jL).imp λ_ _ _ h=>iD h
   ·split at h
    ·rename_i e;cases h;have e:=aO e;subst e;exact(jd (Dq hh) hg hm HZ ha (by decide) (by decide) he jL).imp λ_ _ _ h=>iD h
    ·split at h
     ·rename_i e;cases h;have e:=aO e;subst e;exact(mU Dp hg hm (iE .str) ha (by decide) (by decide) he jL).imp λ_ _ _ h=>iD h
     ·split at h
      ·rename_i e;cases h;have e:=aO e;subst e;exact(jd (DW hh) hg hm HM ha (by decide) (by decide) he jL).imp λ_ _ _ h=>iD h
      ·split at h
       ·rename_i e;cases h;have e:=aO e;subst e;exact(jd (DY hh) hg hm HL ha (by decide) (by decide) he jL).imp λ_ _ _ h=>iD h
       ·cases h
def vn:ScopeKind->Bool
 | .function=>true
 | _=>false
def sS(scope:Scope):List Str:=(scope.names.filter λy=>match y.2 with | .local=>true | .free=>true | _=>false).map (·.1)
def gf(Γ:Gm)(scope:Scope):List (Option Nat):=(sS scope).map λx=>match scope.names.lookup x with | some .free=>slot Γ x | _=>none
def Ao(Γ:Gm)(scope:Scope):List (Str×NameKind):=scope.names.map fun(n,k)=>if(k==NameKind.free&&Γ.sc.lookup n==some .cell)then(n,NameKind.cell)else(n,k)
def sT(Γ:Gm)(scope:Scope):Gm:={Γ with sc:=Ao Γ scope,N:=sS scope,own:=false,qV:=none,Al:=none}
def qm(Γ:Gm)(scope:Scope)(L:List Nat):Bool :=
 vn scope.kind&&scope.names.all (λy=>match y.2 with
  | .cell=>false
  | .local=>(match scope.names.lookup y.1 with | some .local=>true | _=>false)
  | .free=>(match Γ.sc.lookup y.1 with | some .cell=>true | some .free=>true | _=>false)
  | _=>true)&&decide (sS scope).Nodup&&L.all λi=>match(gf Γ scope)[i]? with | some none=>true | _=>false
def ou(a:Arguments):Option (Str×Pos):=match a.args with
 | [y]=>bif a.posonlyargs.isEmpty&&(a.vararg.isNone&&(a.kwonlyargs.isEmpty&&(a.kw_defaults.isEmpty&&(a.kwarg.isNone&&(a.defaults.isEmpty&&y.annotation.isNone)))))then some (y.arg,y.pos)else none
 | _=>none
def vo(h:ou args=some xa):args=oneArg xa.1 xa.2:=by
 obtain⟨po,as,va,ko,kd,kw,df⟩:=args;rcases as with _ | ⟨⟨x,an,ap⟩,_ | _⟩
 ·cases h
 ·cases po;rotate_left;cases h;cases va;rotate_left;cases h;cases ko;rotate_left;cases h;cases kd;rotate_left;cases h;cases kw;rotate_left;cases h;cases df;rotate_left;cases h;cases an;rotate_left;cases h;cases h;rfl
 ·cases h
def isFree(k:Option NameKind):Bool:=match k with | some .free=>true | _=>false
def vp(scope:Scope):List Str:=(scope.names.filter λy=>isFree (some y.2)).map (·.1)
def ow(Γ:Gm)(scope:Scope):List (Option Nat):=(vp scope).map (slot Γ)
def V5(Γ:Gm)(x:Str)(scope:Scope):Gm:={Γ with sc:=scope.names,N:=x::vp scope,own:=false,qV:=none,Al:=none,cls:=[]}
def H0(Γ:Gm)(x:Str)(scope:Scope):Bool :=
 vn scope.kind&&!scope.isCoroutine&&!scope.isGenerator&&(match scope.names.lookup x with | some .local=>true | _=>false)&&scope.names.all (λy=>match y.2 with
  | .cell=>false
  | .free=>(match Γ.sc.lookup y.1 with | some .cell=>true | some .free=>true | _=>false)&&isFree (scope.names.lookup y.1)
  | _=>true)&&decide (x::vp scope).Nodup
section
variable {Γ:Gm} {X:Cx} {scope:Scope} {L:List Nat} {aa:Hp} {ab:Fz}
def lV(h:qm Γ scope L=true):scope.kind=.function/\(∀y∈scope.names,(match y.2 with
  | .cell=>false
  | .local=>(match scope.names.lookup y.1 with | some .local=>true | _=>false)
  | .free=>(match Γ.sc.lookup y.1 with | some .cell=>true | some .free=>true | _=>false)
  | _=>true)=true)/\(sS scope).Nodup/\∀i∈L,(gf Γ scope)[i]?=some none:=by
 unfold qm at h;simp only[aE,eG,j9]at h;obtain⟨⟨⟨h1,h2⟩,h3⟩,h4⟩:=h;refine⟨?_,h2,h3,λi hi=>?_⟩
 ·unfold vn at h1;split at h1
  ·assumption
  ·cases h1
 ·grind
def Ap(G:GOk Γ X aa ab)(h:qm Γ scope L=true):gW X (sS scope) (gf Γ scope) scope:=by
 obtain⟨h1,h2,h3,h4⟩:=lV h;refine⟨h1,λy hy z=>?_,λy hy z=>?_,λy hy z=>?_,by unfold gf;rw[aJ],λi j x hl hx=>?_⟩
 ·grind
 ·grind
 ·have:=h2 y hy;rw[z]at this;simp only at this;show X.env.scope.names.lookup y.1=_\/X.env.scope.names.lookup y.1=_;rw[G.names];split at this
  ·grind
  ·grind
  ·cases this
 ·unfold gf at hl;rw[bK,hx]at hl;have hl:(match scope.names.lookup x with | some .free=>slot Γ x | _=>none)=some j:=by grind
  split at hl
  ·exact⟨G.ql hl,by assumption⟩
  ·cases hl
def H9(G:GOk Γ X aa ab)(h:qm Γ scope L=true)(C:Addr)(s:Shared)(H:Hp)(fp:List Addr)(u9:Hp)(qb:Fz):GOk (sT Γ scope) (cy X (sS scope) scope C s H fp) u9 qb where
 names:=by
  show(relabel scope X.env).names=Ao Γ scope;have e:∀n,X.env.kindOf n=Γ.sc.lookup n:=λn=>by show X.env.scope.names.lookup n=_;rw[G.names]
  unfold Ao relabel;simp only[G.kind,e]
  congr 1
  funext y
  obtain⟨n,k⟩:=y;simp
 N:=rfl
 nd:=(lV h).2.2.1
 kind:=by
  exact(lV h).1
 calm:=G.calm
 hd:=G.hd
 un:=G.un
 own:=λz=>by cases z
 fns:=G.fns
 cons:=G.cons
 cP:=G.cP
 tabs:=G.tabs
 dO:=G.dO
 ns:=G.ns
 NB:=G.NB
 cls:=G.cls
 qV:=λ_ z=>by cases z
 Al:=λ_ _ z=>by cases z
def Ia{i:Nat}(h:(vp scope)[i]?=some y):(y,NameKind.free)∈scope.names:=by
 have hm:=fO h;unfold vp at hm;obtain⟨z,hz,rfl⟩:=di.mp hm;obtain⟨h1,h2⟩:=uh.mp hz;obtain⟨n,k⟩:=z;cases k<;>first | exact h1 | cases h2
def D5(h:isFree k=true):k=some .free:=by
 unfold isFree at h;split at h
 ·rfl
 ·cases h
def D6{x:Str}(G:GOk Γ X aa ab)(h:H0 Γ x scope=true):qc X x (vp scope) (ow Γ scope) scope/\(x::vp scope).Nodup:=by
 unfold H0 at h;simp only[aE]at h;obtain⟨⟨⟨⟨⟨h1,h2⟩,h3⟩,h4⟩,h5⟩,h6⟩:=h;have Dc:=eG.mp h5;refine⟨⟨?_,by grind,by grind,?_,λy hy z=>?_,λy hy z=>?_,?_,λi j y e1 e2=>?_⟩,dv h6⟩
 ·unfold vn at h1;split at h1
  ·assumption
  ·cases h1
 ·grind
 ·grind
 ·have:=Dc y hy;rw[z]at this;simp only[aE]at this;have hk:X.env.kindOf y.1=Γ.sc.lookup y.1:=by show X.env.scope.names.lookup y.1=_;rw[G.names]
  rw[hk];have t:=this.1;split at t
  ·grind
  ·grind
  ·cases t
 ·unfold ow;rw[aJ]
 ·have hm:=Ia e2;have:=Dc _ hm;simp only[aE]at this;refine⟨?_,D5 this.2⟩;unfold ow at e1;rw[bK,e2]at e1;exact G.ql (bB e1)
def Mh(G:GOk Γ X aa ab)(hk:scope.kind=.function)(hn:(x::vp scope).Nodup)(hf:Rq X k Γ.fns Γ.call)
  {stack:List Env} (hr:dq k (A.deeper (W.envX qual scope s.heap.objs.size fa cC cl))) (u9:Hp) (qb:Fz) :
  GOk (V5 Γ x scope) (M0 (gP X.prog X.w) X.prog X.w X.K X.mg X.base (x::vp scope) qual scope fa cC cl A stack s H E) u9 qb where
 names:=rfl
 N:=rfl
 nd:=hn
 kind:=hk
 calm:=rfl
 hd:=hr.hd
 un:=by
  have:=hr.un;show(A.deeper _).units+1150<cLine
  lia
 own:=λz=>by cases z
 fns:=λy n e=>let ⟨j,f,fd,ps,h1,h2,h3,h4,h5⟩:=hf y n e;⟨j,f,fd,ps,h2,hr.mono h1,h3,h4,h5⟩
 cons:=G.cons
 cP:=G.cP
 tabs:=G.tabs
 dO:=G.dO
 ns:=G.ns
 NB:=G.NB
 cls:=λ_ _ z=>by cases z
 qV:=λ_ z=>by cases z
 Al:=λ_ _ z=>by cases z
end
def bY{α:Type}:Gx α:=λ_=>none
section
variable {X:Cx} {aa:Hp} {ab:Fz} {e:Expr} {es:List Expr}
def sU{C:Prop}(h:tX X aa ab rl bY σ H Q):C:=by
 obtain⟨F,st,R,r,z,_⟩:=h;cases z
def aZ:PE X e (tE X aa ab bY):=λ_ _ _ _ _ _ h=>sU h
def sW:PT X e (tT X aa ab bY):=λ_ _ _ _ _ _ h=>sU h
def Ib:PW X e (tT X aa ab bY):=λ_ _ _ _ _ _ _ h=>sU h
def ND:PA X es (tA X aa ab bY):=λ_ _ _ _ _ _ _ h=>sU h
def B9{tg:Expr}:PI X tg e (Dx X aa ab bY):=λ_ _ _ _ _ _ h=>sU h
end
def bD(m n:Nat)(g:m4)(as:List PV):Gx PV:=λst=>if((m==0)&&(st.h.isEmpty || au as))=true then kG n g as st else zY n g as st
def aat(G:FnOk X.prog X.w X.K X.mg X.base (gP X.prog X.w) k f fd ps (DC X.K n g))(hr:dq k X.A)(hb:fJ X.K fd ps []):Lf X f (bD m n g):=by
 rintro aa H ab F st σ af s Q as us vs I R b r ⟨q,e1,e2⟩
 unfold bD at e1;split at e1
 ·exact P6 G hr hb aa H ab F st σ af s Q as us vs I R b r ⟨q,e1,e2⟩
 ·exact ZF G hr hb aa H ab F st σ af s Q as us vs I R b r ⟨q,e1,e2⟩
def V6(Γ:Gm):Expr->Nat
 | .Name x _=>D4 (md Γ x)
 | .Attribute _ f _=>D4 (md Γ f)
 | _=>0
def aau(Γ:Gm)(g:Str)(o:Expr):Nat:=if g==("get":Str)then 0 else V6 Γ o
def vq(e:Expr):Option {x:Option Expr×Option Expr // ∃p,e=.Slice x.1 x.2 none p}:=match e with
 | .Slice lo hi none p=>some ⟨(lo,hi),p,rfl⟩
 | _=>none
def aav:Const->Gx PV
 | .int i=>aP (.int i)
 | .bool i=>aP (.bl i)
 | .none=>aP .bL
 | .str i=>aP (.str i)
 | _=>bY
def Rx(Γ:Gm)(x:Str):Gx PV:=if gL x=true then(if JO Γ x=true then(match slot Γ x with | some i=>rd i | none=>bY)else if vO Γ x=true then(match Γ.cons.lookup x with | some p=>aP p | none=>bY)else bY)else bY
def Aq(a:Expr):Option {x:Str×Expr×List Expr // ∃p q,a=.Call (.Name x.1 p) (x.2.1::x.2.2) [] q}:=match a with
 | .Call (.Name z p) (b::bs) [] q=>some ⟨(z,b,bs),p,q,rfl⟩
 | _=>none
def qo(a:Expr)(es:List Expr):Option {x:Str×Expr // es=[]/\∃p q,a=.Call (.Name x.1 p) [x.2] [] q}:=match a,es with
 | .Call (.Name z p) [e] [] q,[]=>some ⟨(z,e),rfl,p,q,rfl⟩
 | _,_=>none
def eS(Γ:Gm)(x:Str):Bool:=vO Γ x&&Γ.cP.contains x
def V7:Operator->Bool
 | .Add=>true
 | _=>false
mutual
noncomputable def br:Nat->Gm->Nat->Expr->Gx PV
 | 0,_,_,_=>bY
 | n+1,Γ,m,e=>match e with
  | .Constant c _ _=>aav c
  | .Name x _=>Rx Γ x
  | .BinOp a op b _=>if(m != 0&&V7 op)=true then LZ m (br n Γ 0 a) (br n Γ 0 b)else(match Mg op with | some g=>op2 g (br n Γ 0 a) (br n Γ 0 b) | none=>bY)
  | .UnaryOp .Not a _=>O4 (br n Γ 0 a)
  | .UnaryOp .USub a _=>Pz (br n Γ 0 a)
  | .BoolOp op vs _=>Ic n Γ op vs
  | .Compare a ops bs _=>Ry n Γ a ops bs
  | .IfExp c a b _=>dc (rG n Γ c) (br n Γ m a) (br n Γ m b)
  | .Tuple es _ _=>jX .aw (iG n Γ m es)
  | .List es _=>(match m with | 0=>jX .lst (iG n Γ 0 es) | _=>Km (iG n Γ (D4 m) es))
  | .Dict [] [] _=>QA (m==10)
  | .Subscript a b _=>Rz n Γ a b
  | .ListComp elt gens scope _=>RA n Γ m elt gens scope
  | .Attribute o f _=>if vj o=true then g7 f (br n Γ 0 o)else bY
  | .Call f (a::es) [] cp=>if(a::es).all bf=true then RB n Γ m f a es cp else bY
  | .Call (.Attribute o f ap) [] [] cp=>if(vj o&&(ap.endLine==cp.line))=true then(if f==("isdigit":Str)then QN (br n Γ 0 o)else match zZ f with | some w=>qT w.1 w.2 (br n Γ 0 o) (aP []) | none=>bY)else bY
  | _=>bY
termination_by structural n=>n
noncomputable def RB:Nat->Gm->Nat->Expr->Expr->List Expr->Pos->Gx PV
 | 0,_,_,_,_,_,_=>bY
 | n+1,Γ,m,f,a,es,cp=>match f with
  | .Name x _=>if gL x=true then(if vO Γ x=true then RC n Γ m x a es else if JO Γ x=true then Ie n Γ x a es else bY)else bY
  | .Subscript v k p=>iN Γ.fns Γ.call (br n Γ 0 (.Subscript v k p)) (iG n Γ 0 (a::es))
  | .Attribute o g ap=>if(vj o&&(ap.endLine==cp.line)&&decide ((a::es).length<30))=true then(if g==("count":Str)then qT "list" L8 (br n Γ 0 o) (iG n Γ 0 (a::es))else match xb g with | some w=>qT w.1 w.2 (br n Γ 0 o) (iG n Γ (aau Γ g o) (a::es)) | none=>bY)else bY
  | _=>bY
termination_by structural n=>n
noncomputable def Ie:Nat->Gm->Str->Expr->List Expr->Gx PV
 | 0,_,_,_,_=>bY
 | n+1,Γ,x,a,es=>match slot Γ x with
  | some i=>iN Γ.fns Γ.call (rd i) (iG n Γ 0 (a::es))
  | none=>bY
termination_by structural n=>n
noncomputable def RC:Nat->Gm->Nat->Str->Expr->List Expr->Gx PV
 | 0,_,_,_,_,_=>bY
 | n+1,Γ,m,x,a,es=>if x==("spread":Str)then Ig n Γ a es else match Γ.fns.lookup x with
  | some k=>bnd (iG n Γ 0 (a::es)) (bD m k (Γ.call x))
  | none=>match Γ.cls.lookup x with
   | some k=>(match m with | 0=>SQ x k (Γ.make x) (iG n Γ 0 (a::es)) | _=>bY)
   | none=>if Γ.cP.contains x=true then(if x==("isinstance":Str)then Ih n Γ a es else if x==("sorted":Str)then Ij n Γ a es else if x==("dict":Str)then RD n Γ a es else if x==("list":Str)then Ik n Γ m a es else match vm x with | some g=>nP g (iG n Γ 0 (a::es)) | none=>bY)else bY
termination_by structural n=>n
noncomputable def Ig:Nat->Gm->Expr->List Expr->Gx PV
 | 0,_,_,_=>bY
 | n+1,Γ,a,es=>match es with
  | [.Lambda args body scope _]=>(match Γ.qV,ou args with
   | some rs,some xa=>if H0 Γ xa.1 scope=true then QD rs (br n Γ 0 a) (br n (V5 Γ xa.1 scope) 0 body) (ow Γ scope)else bY
   | _,_=>bY)
  | _=>bY
termination_by structural n=>n
noncomputable def Ik:Nat->Gm->Nat->Expr->List Expr->Gx PV
 | 0,_,_,_,_=>bY
 | n+1,Γ,m,a,es=>match es with
  | []=>(match Aq a with
   | some ⟨zs,_⟩=>if(zs.1==("range":Str)&&eS Γ zs.1&&(zs.2.1::zs.2.2).all bf)=true then Z9 m (iG n Γ 0 (zs.2.1::zs.2.2))else(match zs.2.2 with
    | [b]=>if(zs.1==("zip":Str)&&eS Γ zs.1&&bf zs.2.1&&bf b)=true then Rj m (br n Γ 0 zs.2.1) (br n Γ 0 b)else bY
    | _=>bY)
   | none=>HK m (br n Γ 0 a))
  | _=>bY
termination_by structural n=>n
noncomputable def RD:Nat->Gm->Expr->List Expr->Gx PV
 | 0,_,_,_=>bY
 | n+1,Γ,a,es=>match es with
  | []=>(match a with
   | .BinOp l .Add r _=>Hu (br n Γ 0 l) (br n Γ 0 r)
   | _=>bY)
  | _=>bY
termination_by structural n=>n
noncomputable def Ij:Nat->Gm->Expr->List Expr->Gx PV
 | 0,_,_,_=>bY
 | n+1,Γ,a,es=>match es with
  | []=>(match qo a []with
   | some ⟨ze,_⟩=>if(ze.1==("set":Str)&&eS Γ ze.1&&bf ze.2)=true then Hm (br n Γ 0 ze.2)else bY
   | none=>DR (br n Γ 0 a))
  | _=>bY
termination_by structural n=>n
noncomputable def Ih:Nat->Gm->Expr->List Expr->Gx PV
 | 0,_,_,_=>bY
 | n+1,Γ,a,es=>match es with
  | [.Name t _]=>if eS Γ t=true then(match Bw t with | some g=>Zb g (br n Γ 0 a) | none=>bY)else bY
  | _=>bY
termination_by structural n=>n
noncomputable def Ry:Nat->Gm->Expr->List CmpOp->List Expr->Gx PV
 | 0,_,_,_,_=>bY
 | n+1,Γ,a,ops,bs=>match ops,bs with
  | [op],[b]=>if bf b=true then(match zR op with | some g=>op2 g (br n Γ 0 a) (br n Γ 0 b) | none=>bY)else bY
  | [op,vN],[b,c]=>if bf c=true then(match zR op,zR vN with | some g,some g'=>chain g g' (br n Γ 0 a) (br n Γ 0 b) (br n Γ 0 c) | _,_=>bY)else bY
  | _,_=>bY
termination_by structural n=>n
noncomputable def Rz:Nat->Gm->Expr->Expr->Gx PV
 | 0,_,_,_=>bY
 | n+1,Γ,a,b=>match vq b with
  | some ⟨lh,_⟩=>cutE (br n Γ 0 a) (Mi n Γ lh.1) (Mi n Γ lh.2)
  | none=>if lR b=true then(match a with
   | .Name T p=>if(gL T&&vO Γ T)=true then(match Γ.dO.lookup T with
    | some rows=>rj (λk=>rows.lookup k) (br n Γ 0 b)
    | none=>match Γ.tabs.lookup T with
     | some rows=>rj (λk=>(rows.lookup k).map .fn) (br n Γ 0 b)
     | none=>op2 dt (br n Γ 0 (.Name T p)) (br n Γ 0 b))else op2 dt (br n Γ 0 (.Name T p)) (br n Γ 0 b)
   | a=>op2 dt (br n Γ 0 a) (br n Γ 0 b))else bY
termination_by structural n=>n
noncomputable def rG:Nat->Gm->Expr->Gx Bool
 | 0,_,_=>bY
 | n+1,Γ,e=>match e with
  | .UnaryOp .Not a _=>uQ (rG n Γ a)
  | .BoolOp op vs _=>Il n Γ op vs
  | .Compare a [op] [b] _=>if bf b=true then(match zR op with | some g=>toB (op2 g (br n Γ 0 a) (br n Γ 0 b)) | none=>bY)else bY
  | .Compare a [op,vN] [b,c] _=>if bf c=true then(match zR op,zR vN with | some g,some g'=>toB (chain g g' (br n Γ 0 a) (br n Γ 0 b) (br n Γ 0 c)) | _,_=>bY)else bY
  | e=>if Am e=true then jM (br n Γ 0 e)else bY
termination_by structural n=>n
noncomputable def Ic:Nat->Gm->BoolOp->List Expr->Gx PV
 | 0,_,_,_=>bY
 | n+1,Γ,op,[a]=>br n Γ 0 a
 | n+1,Γ,.And,a::b::r=>Gn (br n Γ 0 a) (Ic n Γ .And (b::r))
 | n+1,Γ,.Or,a::b::r=>Xp (br n Γ 0 a) (Ic n Γ .Or (b::r))
 | _,_,_,_=>bY
termination_by structural n=>n
noncomputable def Il:Nat->Gm->BoolOp->List Expr->Gx Bool
 | 0,_,_,_=>bY
 | n+1,Γ,op,[a]=>rG n Γ a
 | n+1,Γ,.And,a::b::r=>dc (rG n Γ a) (Il n Γ .And (b::r)) (aP false)
 | n+1,Γ,.Or,a::b::r=>dc (rG n Γ a) (aP true) (Il n Γ .Or (b::r))
 | _,_,_,_=>bY
termination_by structural n=>n
noncomputable def iG:Nat->Gm->Nat->List Expr->Gx (List PV)
 | 0,_,_,_=>bY
 | n+1,Γ,m,[]=>aP []
 | n+1,Γ,m,e::es=>if bf e=true then aj (br n Γ m e) (iG n Γ m es)else bY
termination_by structural n=>n
noncomputable def Mi:Nat->Gm->Option Expr->Gx (Option Int)
 | 0,_,_=>bY
 | n+1,Γ,none=>aP none
 | n+1,Γ,some e=>lA (br n Γ 0 e)
termination_by structural n=>n
noncomputable def Im:Nat->Gm->Expr->Expr->Gx BD
 | 0,_,_,_=>bY
 | n+1,Γ,tg,e=>match e with
  | .Call (.Name x p) [a] [] cp=>if(x==("range":Str)&&eS Γ x&&bf a)=true then Jm (u3 wU (iG n Γ 0 [a]))
    else if(x==("enumerate":Str)&&eS Γ x&&bf a&&Nf tg)=true then Jm (BC (br n Γ 0 a))
    else if(x==("reversed":Str)&&eS Γ x)=true then(match qo a []with | some ⟨ze,_⟩=>if(ze.1==("range":Str)&&eS Γ ze.1&&bf ze.2)=true then Jm (u3 QU (iG n Γ 0 [ze.2]))else bY | none=>bY)
    else lE (br n Γ 0 (.Call (.Name x p) [a] [] cp))
  | .Call (.Name x p) [a,b] [] cp=>if(x==("range":Str)&&eS Γ x&&bf a&&bf b)=true then Jm (u3 PU (iG n Γ 0 [a,b]))
    else lE (br n Γ 0 (.Call (.Name x p) [a,b] [] cp))
  | e=>if bf e=true then lE (br n Γ 0 e)else bY
termination_by structural n=>n
noncomputable def RA:Nat->Gm->Nat->Expr->List Comprehension->Scope->Gx PV
 | 0,_,_,_,_,_=>bY
 | n+1,Γ,m,elt,gens,scope=>match gens with
  | [⟨tg,iter,ifs,0⟩]=>if bf iter=true then(match qk n (sT Γ scope) tg with
   | some g=>if qm Γ scope g.2=true then(match ifs with
    | []=>iM (m != 0) (gf Γ scope) (Im n Γ tg iter) (Dv g.1 (br n (sT Γ scope) (D4 m) elt))
    | [c]=>iM (m != 0) (gf Γ scope) (Im n Γ tg iter) (rh g.1 (rG n (sT Γ scope) c) (br n (sT Γ scope) (D4 m) elt))
    | _=>bY)else bY
   | none=>bY)else bY
  | _=>bY
termination_by structural n=>n
end
def CC(X:Cx)(aa:Hp)(ab:Fz)(elt:Expr)(gens:List Comprehension)(scope:Scope)(p:Pos)(f:Gx PV):Prop:=PE X (.ListComp elt gens scope p) (tE X aa ab f) /\
  ∀i x p' sp,X.N[i]?=some x->X.env.scope.names.lookup x=some .local->swapsWith (.ListComp elt gens scope p) (some (.Name x p')) sp.line X.env=pure true ->
   PS X (.Assign [.Name x p'] (.ListComp elt gens scope p) sp) (tS X aa ab (fq f (b9 i)))
structure Snd (n:Nat):Prop where
 e:∀Γ X aa ab m e,GOk Γ X aa ab->PE X e (tE X aa ab (br n Γ m e))
 f:∀Γ X aa ab m f a es cp,GOk Γ X aa ab->(a::es).all bf=true->PE X (.Call f (a::es) [] cp) (tE X aa ab (RB n Γ m f a es cp))
 o:∀Γ X aa ab x a es p cp,GOk Γ X aa ab->(a::es).all bf=true->gL x=true->JO Γ x=true->PE X (.Call (.Name x p) (a::es) [] cp) (tE X aa ab (Ie n Γ x a es))
 cn:∀Γ X aa ab m x a es p cp,GOk Γ X aa ab->(a::es).all bf=true->gL x=true->vO Γ x=true->PE X (.Call (.Name x p) (a::es) [] cp) (tE X aa ab (RC n Γ m x a es))
 sp:∀Γ X aa ab a es p cp,GOk Γ X aa ab->(a::es).all bf=true->vO Γ "spread"=true->PE X (.Call (.Name "spread" p) (a::es) [] cp) (tE X aa ab (Ig n Γ a es))
 st:∀Γ X aa ab a es p cp,GOk Γ X aa ab->(a::es).all bf=true->vO Γ "sorted"=true->Γ.cP.contains "sorted"=true->PE X (.Call (.Name "sorted" p) (a::es) [] cp) (tE X aa ab (Ij n Γ a es))
 d:∀Γ X aa ab a es p cp,GOk Γ X aa ab->(a::es).all bf=true->vO Γ "dict"=true->Γ.cP.contains "dict"=true->PE X (.Call (.Name "dict" p) (a::es) [] cp) (tE X aa ab (RD n Γ a es))
 li:∀Γ X aa ab m a es p cp,GOk Γ X aa ab->(a::es).all bf=true->vO Γ "list"=true->Γ.cP.contains "list"=true->PE X (.Call (.Name "list" p) (a::es) [] cp) (tE X aa ab (Ik n Γ m a es))
 is:∀Γ X aa ab a es p cp,GOk Γ X aa ab->(a::es).all bf=true->vO Γ "isinstance"=true->Γ.cP.contains "isinstance"=true->PE X (.Call (.Name "isinstance" p) (a::es) [] cp) (tE X aa ab (Ih n Γ a es))
 k:∀Γ X aa ab a ops bs p,GOk Γ X aa ab->PE X (.Compare a ops bs p) (tE X aa ab (Ry n Γ a ops bs))
 x:∀Γ X aa ab a b p,GOk Γ X aa ab->PE X (.Subscript a b p) (tE X aa ab (Rz n Γ a b))
 t:∀Γ X aa ab e,GOk Γ X aa ab->PT X e (tT X aa ab (rG n Γ e))
 b:∀Γ X aa ab op vs p,GOk Γ X aa ab->PE X (.BoolOp op vs p) (tE X aa ab (Ic n Γ op vs))
 w:∀Γ X aa ab op vs p,GOk Γ X aa ab->PW X (.BoolOp op vs p) (tT X aa ab (Il n Γ op vs))
 a:∀Γ X aa ab m es,GOk Γ X aa ab->PA X es (tA X aa ab (iG n Γ m es))
 l:∀Γ X aa ab e,GOk Γ X aa ab->PO X e (Pu X aa ab (Mi n Γ e))
 i:∀Γ X aa ab tg e,GOk Γ X aa ab->PI X tg e (Dx X aa ab (Im n Γ tg e))
 c:∀Γ X aa ab m elt gens scope p,GOk Γ X aa ab->CC X aa ab elt gens scope p (RA n Γ m elt gens scope)
def pI{X:Cx}{aa:Hp}{ab:Fz}{e:Expr}{c:Prop} [Decidable c] {f g:Gx PV} (h:c->PE X e (tE X aa ab f)) (h':PE X e (tE X aa ab g)):PE X e (tE X aa ab (if c then f else g)):=by
 split
 ·exact h ‹_›
 ·exact h'
def pJ{X:Cx}{aa:Hp}{ab:Fz}{e:Expr}{c:Prop} [Decidable c] {f:Gx PV} (h:c->PE X e (tE X aa ab f)):PE X e (tE X aa ab (if c then f else bY)):=pI h aZ
def gw:PS X s (tS X aa ab bY):=λ_ _ _ _ _ _ ⟨F,st,R,r,z,_⟩=>by cases z
def vt:PS X s (tS X aa ab (fq bY g)):=λ_ _ _ _ _ _ ⟨F,st,R,r,z,_⟩=>by cases z
def V8{ab:Fz}:PO X e (Pu X aa ab bY):=λ_ _ _ _ _ _ h=>sU h
def Io:Snd 0 where
 e:=λ_ _ _ _ _ _ _=>aZ
 f:=λ_ _ _ _ _ _ _ _ _ _ _=>aZ
 o:=λ_ _ _ _ _ _ _ _ _ _ _ _ _=>aZ
 cn:=λ_ _ _ _ _ _ _ _ _ _ _ _ _ _=>aZ
 sp:=λ_ _ _ _ _ _ _ _ _ _ _=>aZ
 st:=λ_ _ _ _ _ _ _ _ _ _ _ _=>aZ
 d:=λ_ _ _ _ _ _ _ _ _ _ _ _=>aZ
 li:=λ_ _ _ _ _ _ _ _ _ _ _ _ _=>aZ
 is:=λ_ _ _ _ _ _ _ _ _ _ _ _=>aZ
 k:=λ_ _ _ _ _ _ _ _ _=>aZ
 x:=λ_ _ _ _ _ _ _ _=>aZ
 t:=λ_ _ _ _ _ _=>sW
 b:=λ_ _ _ _ _ _ _ _=>aZ
 w:=λ_ _ _ _ _ _ _ _=>Ib
 a:=λ_ _ _ _ _ _ _=>ND
 l:=λ_ _ _ _ _ _=>V8
 i:=λ_ _ _ _ _ _ _=>B9
 c:=λ_ _ _ _ _ _ _ _ _ _=>⟨aZ,λ_ _ _ _ _ _ _=>vt⟩
section
variable {n:Nat} (S:Snd n)
include S
def V9(Γ:Gm)(X:Cx)(aa:Hp)(ab:Fz)(op:BoolOp)(vs:List Expr)(p:Pos)(G:GOk Γ X aa ab):PE X (.BoolOp op vs p) (tE X aa ab (Ic (n+1) Γ op vs)):=by
 match op,vs with
 | .And,[]=>exact aZ
 | .Or,[]=>exact aZ
 | .And,[a]=>exact Fy (S.e Γ X aa ab 0 a G)
 | .Or,[a]=>exact Fy (S.e Γ X aa ab 0 a G)
 | .And,a::b::r=>exact UH (S.e Γ X aa ab 0 a G) (S.b Γ X aa ab .And (b::r) p G)
 | .Or,a::b::r=>exact Y7 (S.e Γ X aa ab 0 a G) (S.b Γ X aa ab .Or (b::r) p G)
def Wa(Γ:Gm)(X:Cx)(aa:Hp)(ab:Fz)(op:BoolOp)(vs:List Expr)(p:Pos)(G:GOk Γ X aa ab):PW X (.BoolOp op vs p) (tT X aa ab (Il (n+1) Γ op vs)):=by
 match op,vs with
 | .And,[]=>exact Ib
 | .Or,[]=>exact Ib
 | .And,[a]=>exact JG (S.t Γ X aa ab a G)
 | .Or,[a]=>exact Og (S.t Γ X aa ab a G)
 | .And,a::b::r=>exact UE (S.t Γ X aa ab a G) (S.w Γ X aa ab .And (b::r) p G)
 | .Or,a::b::r=>exact Y6 (S.t Γ X aa ab a G) (S.w Γ X aa ab .Or (b::r) p G)
def Wb(Γ:Gm)(X:Cx)(aa:Hp)(ab:Fz)(m:Nat)(es:List Expr)(G:GOk Γ X aa ab):PA X es (tA X aa ab (iG (n+1) Γ m es)):=by
 match es with
 | []=>exact UJ
 | e::es =>
  unfold iG;split
  ·rename_i hp;exact O5 (S.e Γ X aa ab m e G) (S.a Γ X aa ab m es G) (aY hp _ _)
  ·exact ND
def Wc(Γ:Gm)(X:Cx)(aa:Hp)(ab:Fz)(e:Option Expr)(G:GOk Γ X aa ab):PO X e (Pu X aa ab (Mi (n+1) Γ e)):=by
 match e with
 | none=>exact Pw
 | some e=>exact Px (S.e Γ X aa ab 0 e G)
def Wd(Γ:Gm)(X:Cx)(aa:Hp)(ab:Fz)(a:Expr)(ops:List CmpOp)(bs:List Expr)(p:Pos)(G:GOk Γ X aa ab):PE X (.Compare a ops bs p) (tE X aa ab (Ry (n+1) Γ a ops bs)):=by
 rcases ops with _ | ⟨op,_ | ⟨vN,_ | _⟩⟩<;>rcases bs with _ | ⟨b,_ | ⟨c,_ | _⟩⟩<;>try exact aZ
 ·show PE X _ (tE X aa ab (ite _ _ _));split
  ·rename_i hp;split
   ·rename_i g h1;exact UB (jC G.un h1) (S.e Γ X aa ab 0 _ G) (S.e Γ X aa ab 0 _ G) (gu hp _)
   ·exact aZ
  ·exact aZ
 ·show PE X _ (tE X aa ab (ite _ _ _));split
  ·rename_i hp;split
   ·rename_i g g' h1 h2;exact Kj (jC G.un h1) (jC G.un h2) (S.e Γ X aa ab 0 _ G) (S.e Γ X aa ab 0 _ G) (S.e Γ X aa ab 0 _ G) (gu hp _)
   ·exact aZ
  ·exact aZ
def We(Γ:Gm)(X:Cx)(aa:Hp)(ab:Fz)(e:Expr)(G:GOk Γ X aa ab):PT X e (tT X aa ab (rG (n+1) Γ e)):=by
 have df:∀e,PT X e (tT X aa ab (if Am e=true then jM (br n Γ 0 e)else bY)):=λe=>by
  split
  ·rename_i hp;exact UD (S.e Γ X aa ab 0 _ G) λiI=>HX hp _ iI
  ·exact sW
 cases e with
 | UnaryOp op=>cases op with
  | Not=>exact UG (S.t Γ X aa ab _ G)
  | _=>exact df _
 | BoolOp=>exact(S.w Γ X aa ab _ _ _ G).pt
 | Compare a ops bs =>
  rcases ops with _ | ⟨op,_ | ⟨vN,_ | _⟩⟩<;>rcases bs with _ | ⟨b,_ | ⟨c,_ | _⟩⟩<;>try exact df _
  ·show PT X _ (tT X aa ab (ite _ _ _));split
   ·rename_i hp;split
    ·rename_i g h1;exact UC (jC G.un h1) (S.e Γ X aa ab 0 _ G) (S.e Γ X aa ab 0 _ G) (gu hp _)
    ·exact sW
   ·exact sW
  ·show PT X _ (tT X aa ab (ite _ _ _));split
   ·rename_i hp;split
    ·rename_i g g' h1 h2;exact Kk (jC G.un h1) (jC G.un h2) (S.e Γ X aa ab 0 _ G) (S.e Γ X aa ab 0 _ G) (S.e Γ X aa ab 0 _ G) (gu hp _)
    ·exact sW
   ·exact sW
 | _=>exact df _
def RE(Γ:Gm)(X:Cx)(aa:Hp)(ab:Fz)(a:Expr)(es:List Expr)(p cp:Pos)(G:GOk Γ X aa ab)(hp:(a::es).all bf=true)(hg:vO Γ "sorted"=true)(hb:Γ.cP.contains "sorted"=true):PE X (.Call (.Name "sorted" p) (a::es) [] cp) (tE X aa ab (Ij (n+1) Γ a es)):=by
 cases es with
 | nil =>
  rw[fF,aE]at hp;show PE X _ (tE X aa ab (match qo a []with | some ⟨ze,_⟩=>_ | none=>DR (br n Γ 0 a)))
  rcases qo a []with _ | ⟨⟨z,e⟩,_,zp,lK,rfl⟩
  ·exact VS G.hd (G.f9 hg) (G.cP _ hb) (S.e Γ X aa ab 0 _ G) (aY hp.1 _ _)
  ·refine pJ λhc=>?_
   simp only[eS,aE]at hc;obtain⟨⟨hx,g1,g2⟩,DJ⟩:=hc;have hx:=aO hx;subst hx;exact QM G.hd (G.f9 hg) (G.cP _ hb) (G.f9 g1) (G.cP _ g2) (S.e Γ X aa ab 0 _ G) (aY DJ _ _)
 | cons=>exact aZ
def Wf(Γ:Gm)(X:Cx)(aa:Hp)(ab:Fz)(a:Expr)(es:List Expr)(p cp:Pos)(G:GOk Γ X aa ab)(hp:(a::es).all bf=true)(hg:vO Γ "dict"=true)(hb:Γ.cP.contains "dict"=true):PE X (.Call (.Name "dict" p) (a::es) [] cp) (tE X aa ab (RD (n+1) Γ a es)):=by
 rw[fF,aE]at hp;cases es with
 | cons=>exact aZ
 | nil=>cases a with
  | BinOp l op=>cases op with
   | Add=>exact QO G.hd (G.f9 hg) (G.cP _ hb) (S.e Γ X aa ab 0 _ G) (S.e Γ X aa ab 0 _ G) rfl
   | _=>exact aZ
  | _=>exact aZ
def RF(Γ:Gm)(X:Cx)(aa:Hp)(ab:Fz)(m:Nat)(a:Expr)(es:List Expr)(p cp:Pos)(G:GOk Γ X aa ab)(hp:(a::es).all bf=true)(hg:vO Γ "list"=true)(hb:Γ.cP.contains "list"=true):PE X (.Call (.Name "list" p) (a::es) [] cp) (tE X aa ab (Ik (n+1) Γ m a es)):=by
 rw[fF,aE]at hp;cases es with
 | cons=>exact aZ
 | nil =>
  show PE X _ (tE X aa ab (match Aq a with | some ⟨zs,_⟩=>_ | none=>HK m (br n Γ 0 a)))
  rcases Aq a with _ | ⟨⟨z,b,bs⟩,zp,lK,rfl⟩
  ·exact QW (G.f9 hg) (G.cP _ hb) (S.e Γ X aa ab 0 _ G) λ_=>aY hp.1 _ _
  ·refine pI (λhc=>?_) ?_
   ·simp only[eS,aE]at hc;obtain⟨⟨hx,g1,g2⟩,DJ⟩:=hc;have hx:=aO hx;subst hx;rw[fF,aE]at DJ;exact VN G.hd (G.f9 hg) (G.cP _ hb) (G.f9 g1) (G.cP _ g2) (S.a Γ X aa ab 0 _ G) (aY DJ.1 _ _) (ej DJ.2 _ _)
   ·rcases bs with _ | ⟨c,_ | _⟩
    ·exact aZ
    ·refine pJ λhc=>?_
     simp only[eS,aE]at hc;obtain⟨⟨⟨hx,g1,g2⟩,p1⟩,p2⟩:=hc;have hx:=aO hx;subst hx;exact Rk G.hd (G.f9 hg) (G.cP _ hb) (G.f9 g1) (G.cP _ g2) (S.e Γ X aa ab 0 _ G) (S.e Γ X aa ab 0 _ G) (aY p1 _ _) (aY p2 _ _)
    ·exact aZ
def RG(Γ:Gm)(X:Cx)(aa:Hp)(ab:Fz)(a:Expr)(es:List Expr)(p cp:Pos)(G:GOk Γ X aa ab)(hp:(a::es).all bf=true)(hg:vO Γ "isinstance"=true)(hb:Γ.cP.contains "isinstance"=true):PE X (.Call (.Name "isinstance" p) (a::es) [] cp) (tE X aa ab (Ih (n+1) Γ a es)):=by
 cases es with
 | nil=>exact aZ
 | cons e es=>cases e with
  | Name t=>cases es with
   | cons=>exact aZ
   | nil =>
    refine pJ λhc=>?_
    unfold eS at hc;rw[aE]at hc;rw[fF,aE]at hp;cases h1:Bw t with
    | none=>exact aZ
    | some g=>exact Zc h1 (G.f9 hg) (G.cP _ hb) (G.f9 hc.1) (G.cP _ hc.2) (S.e Γ X aa ab 0 a G) λes=>aY hp.1 es _
  | _=>exact aZ
def Wg(Γ:Gm)(X:Cx)(aa:Hp)(ab:Fz)(a b:Expr)(p:Pos)(G:GOk Γ X aa ab):PE X (.Subscript a b p) (tE X aa ab (Rz (n+1) Γ a b)):=by
 show PE X _ (tE X aa ab (match vq b with | some ⟨lh,_⟩=>_ | none=>_))
 rcases vq b with _ | ⟨⟨lo,hi⟩,ps,rfl⟩
 ·refine pJ λhp=>?_
  have gen:=λa=>Ze (pos:=p) G.un (S.e Γ X aa ab 0 a G) (S.e Γ X aa ab 0 b G) (lU hp)
  cases a with
  | Name T =>
   refine pI (λhc=>?_) (gen _)
   rw[aE]at hc;cases h0:Γ.dO.lookup T with
   | some rows=>exact Vp (G.dO _ rows h0) (G.f9 hc.2) (S.e Γ X aa ab 0 _ G) (lU hp) (hJ hc.1).1
   | none =>
    cases h1:Γ.tabs.lookup T with
    | some rows=>exact Vq (G.tabs _ rows h1) (G.f9 hc.2) (S.e Γ X aa ab 0 _ G) (lU hp) (hJ hc.1).1
    | none=>exact gen _
  | _=>exact gen _
 ·exact UR (S.e Γ X aa ab 0 _ G) (S.l Γ X aa ab _ G) (S.l Γ X aa ab _ G)
def Wh(Γ:Gm)(X:Cx)(aa:Hp)(ab:Fz)(tg e:Expr)(G:GOk Γ X aa ab):PI X tg e (Dx X aa ab (Im (n+1) Γ tg e)):=by
 have df:∀e,PI X tg e (Dx X aa ab (if bf e=true then lE (br n Γ 0 e)else bY)):=λe=>by
  split
  ·exact GU (S.e Γ X aa ab 0 _ G)
  ·exact B9
 cases e with
 | Call f as ks=>cases f with
  | Name x p =>
   rcases as with _ | ⟨a,_ | ⟨b,_ | _⟩⟩<;>rcases ks with _ | _<;>try exact df _
   ·show PI X _ _ (Dx X aa ab (ite _ _ _));split
    ·rename_i hc;simp only[eS,aE]at hc;obtain⟨⟨hx,hg,hb⟩,hp⟩:=hc;have hx:=aO hx;subst hx;exact La <| GP (G.f9 hg) (G.cP _ hb) (S.a Γ X aa ab 0 _ G) (aY hp _ _)
    ·split
     ·rename_i hc;simp only[eS,aE]at hc;obtain⟨⟨⟨hx,hg,hb⟩,hp⟩,ht⟩:=hc;have hx:=aO hx;subst hx;exact La <| Zu ht (G.f9 hg) (G.cP _ hb) (S.e Γ X aa ab 0 _ G) (aY hp _ _)
     ·split
      ·rename_i hc;simp only[eS,aE]at hc;obtain⟨hx,hg,hb⟩:=hc;have hx:=aO hx;subst hx;rcases qo a []with _ | ⟨⟨z,e⟩,_,zp,lK,rfl⟩
       ·exact B9
       ·show PI X _ _ (Dx X aa ab (ite _ _ _));split
        ·rename_i hc;simp only[eS,aE]at hc;obtain⟨⟨hx,g1,g2⟩,DJ⟩:=hc;have hx:=aO hx;subst hx;exact La <| VT (G.f9 hg) (G.cP _ hb) (G.f9 g1) (G.cP _ g2) (S.a Γ X aa ab 0 _ G) (aY DJ _ _)
        ·exact B9
      ·exact GU (S.e Γ X aa ab 0 _ G)
   ·show PI X _ _ (Dx X aa ab (ite _ _ _));split
    ·rename_i hc;simp only[eS,aE]at hc;obtain⟨⟨⟨hx,hg,hb⟩,hp⟩,DJ⟩:=hc;have hx:=aO hx;subst hx;exact La <| GQ (G.f9 hg) (G.cP _ hb) (S.a Γ X aa ab 0 _ G) (by rw[aY hp,aY DJ];rfl) (aY DJ _ _)
    ·exact GU (S.e Γ X aa ab 0 _ G)
  | _=>exact df _
 | _=>exact df _
def Mj:CC X aa ab elt gens scope p bY:=⟨aZ,λ_ _ _ _ _ _ _=>vt⟩
def cI{c:Prop} [Decidable c] (h:c->CC X aa ab elt gens scope p f):CC X aa ab elt gens scope p (if c then f else bY):=by
 split
 ·exact h ‹_›
 ·exact Mj
def Wi(Γ:Gm)(X:Cx)(aa:Hp)(ab:Fz)(m:Nat)(elt:Expr)(gens:List Comprehension)(scope:Scope)(p:Pos)(G:GOk Γ X aa ab):CC X aa ab elt gens scope p (RA (n+1) Γ m elt gens scope):=by
 rcases gens with _ | ⟨⟨tg,iter,ifs,(_ | _) | _⟩,_ | _⟩<;>try exact Mj
 refine cI λhp=>?_
 cases h2:qk n (sT Γ scope) tg with
 | none=>exact Mj
 | some g =>
  refine cI λhc=>?_
  have SC:=Ap G hc;have hL:=(lV hc).2.2.2;have GK:=H9 G hc;have hi:=S.i Γ X aa ab tg iter G;have hg:=λC s H fp=>(gv (GK C s H fp aa ab) n tg g h2).1
  have kg:=(gv (GK 0 X.s₀ X.aa [] aa ab) n tg g h2).2.1;have he:=λC s H fp=>S.e _ _ _ _ (D4 m) elt (GK C s H fp aa ab)
  rcases ifs with _ | ⟨c,_ | _⟩
  ·exact⟨(BA G.calm SC hi (pb1 hg he) (d8 hp _)).imp λσ H Q h=>GW kg hL h,λi x p' sp hx hl hw=>(BB G.calm G.nd hx hl SC hi (pb1 hg he) hw (d8 hp _)).imp λD σ H h=>GW kg hL (oo h)⟩
  ·have ht:=λC s H fp=>S.t _ _ _ _ c (GK C s H fp aa ab)
   exact⟨(BA G.calm SC hi (pb2 hg he ht) (d8 hp _)).imp λσ H Q h=>GX kg hL h,λi x p' sp hx hl hw=>(BB G.calm G.nd hx hl SC hi (pb2 hg he ht) hw (d8 hp _)).imp λD σ H h=>GX kg hL (oo h)⟩
  ·exact Mj
def Wj(Γ:Gm)(X:Cx)(aa:Hp)(ab:Fz)(x:Str)(a:Expr)(es:List Expr)(p cp:Pos)(G:GOk Γ X aa ab)(hp:(a::es).all bf=true)(hn:gL x=true)(hv:JO Γ x=true):PE X (.Call (.Name x p) (a::es) [] cp) (tE X aa ab (Ie (n+1) Γ x a es)):=by
 have uZ:=gA.mp (fF▸hp);cases h1:slot Γ x with
 | none=>show PE X _ (tE X aa ab (match slot Γ x with | some i=>_ | none=>bY));rw[h1];exact aZ
 | some i =>
  show PE X _ (tE X aa ab (match slot Γ x with | some i=>iN Γ.fns Γ.call (rd i) (iG n Γ 0 (a::es)) | none=>bY))
  rw[h1];exact Ln G.fns G.ns (M6 i (sR G hn hv h1)) (S.a Γ X aa ab 0 _ G) (aY uZ.1 _ _) (ej uZ.2 _ _)
def RH(Γ:Gm)(X:Cx)(aa:Hp)(ab:Fz)(a:Expr)(es:List Expr)(p cp:Pos)(G:GOk Γ X aa ab)(hp:(a::es).all bf=true)(hg:vO Γ "spread"=true):PE X (.Call (.Name "spread" p) (a::es) [] cp) (tE X aa ab (Ig (n+1) Γ a es)):=by
 rcases es with _ | ⟨e,_ | _⟩
 ·exact aZ
 ·cases e with
  | Lambda args body scope =>
   show PE X _ (tE X aa ab (match Γ.qV,ou args with | some rs,some xa=>_ | _,_=>bY))
   cases h1:Γ.qV with
   | none=>exact aZ
   | some rs=>cases h2:ou args with
    | none=>exact aZ
    | some xa =>
     refine pJ λhc=>?_
     rw[fF,aE]at hp;obtain rfl:=vo h2;obtain⟨S1,hnd⟩:=D6 G hc;obtain⟨⟨st,fs,Np,pr,Ns,k,rb,rfl,D,mS,bS,ZQ,SR,hr,Hc,hf⟩,L⟩:=G.qV rs h1;exact Hb D mS bS ZQ SR L (G.f9 hg) hr (S.e Γ X aa ab 0 a G) (aY hp.1 _ _) S1 Hc λqual fa cC cl A stack s H u9 qb Vx=>S.e _ _ u9 qb 0 _ (Mh G S1.kind hnd hf Vx u9 qb)
  | _=>exact aZ
 ·cases e<;>exact aZ
def Wk(Γ:Gm)(X:Cx)(aa:Hp)(ab:Fz)(m:Nat)(x:Str)(a:Expr)(es:List Expr)(p cp:Pos)(G:GOk Γ X aa ab)(hp:(a::es).all bf=true)(hn:gL x=true)(hg:vO Γ x=true):PE X (.Call (.Name x p) (a::es) [] cp) (tE X aa ab (RC (n+1) Γ m x a es)):=by
 have uZ:=hp;rw[fF,aE]at uZ;obtain⟨n1,n2,n3⟩:=hJ hn;have ha:=S.a Γ X aa ab 0 (a::es) G;have h1:=aY uZ.1 es X.env;have h2:=ej uZ.2 X.env cp;refine pI (λhx=>?_) ?_
 ·cases aO hx;exact S.sp Γ X aa ab a es p cp G hp hg
 cases hk:Γ.fns.lookup x with
 | some k =>
  obtain⟨j,f,fd,ps,F,hr,q1,q2,q3⟩:=G.fns _ k hk;exact P7 (aat F hr q3) (G.f9 hg) q1 q2 ha n1 h1 h2
 | none=>cases hk:Γ.cls.lookup x with
  | some k=>cases m with
   | zero =>
    obtain⟨j,Ca,f,fd,ps,hC,c,M,F,hr,q1,q2⟩:=G.cls _ k hk;exact(J3 (p:=p) M F hr (G.f9 hg) q1 q2 .nil wz ha n1 h1 h2).imp λσ H Q h=>Lo hC c h
   | succ=>exact aZ
  | none =>
   refine pJ λhb=>pI (λhx=>?_) (pI (λhx=>?_) (pI (λhx=>?_) (pI (λhx=>?_) ?_)))
   ·cases aO hx;exact S.is Γ X aa ab a es p cp G hp hg hb
   ·cases aO hx;exact S.st Γ X aa ab a es p cp G hp hg hb
   ·cases aO hx;exact S.d Γ X aa ab a es p cp G hp hg hb
   ·cases aO hx;exact S.li Γ X aa ab m a es p cp G hp hg hb
   cases hg':vm x with
   | some g=>exact Rv hg' G.hd (G.f9 hg) (G.cP _ hb) ha h1 h2
   | none=>exact aZ
def Wl(Γ:Gm)(X:Cx)(aa:Hp)(ab:Fz)(m:Nat)(f a:Expr)(es:List Expr)(cp:Pos)(G:GOk Γ X aa ab)(hp:(a::es).all bf=true):PE X (.Call f (a::es) [] cp) (tE X aa ab (RB (n+1) Γ m f a es cp)):=by
 have uZ:=hp;rw[fF,aE]at uZ;cases f with
 | Name=>exact pJ λhn=>pI (λhg=>S.cn Γ X aa ab m _ a es _ cp G hp hn hg) (pJ λhv=>S.o Γ X aa ab _ a es _ cp G hp hn hv)
 | Subscript=>exact Lm G.fns G.ns (S.e Γ X aa ab 0 _ G) (S.a Γ X aa ab 0 _ G) (aY uZ.1 _ _) (ej uZ.2 _ _)
 | Attribute o g ap =>
  refine pJ λhc=>?_
  simp only[aE,j9]at hc;refine pI (λhx=>?_) ?_
  ·have hx:=aO hx;subst hx;exact VV G.un (S.e Γ X aa ab 0 _ G) (S.a Γ X aa ab _ _ G) (lT hc.1.1) (B8 hp hc.2) hc.1.2 (aY uZ.1 _ _) (ej uZ.2 _ _)
  show PE X _ (tE X aa ab (match xb g with | some w=>_ | none=>bY))
  cases hw:xb g with
  | none=>exact aZ
  | some w=>exact ZH G.un hw (S.e Γ X aa ab 0 _ G) (S.a Γ X aa ab _ _ G) (lT hc.1.1) (B8 hp hc.2) hc.1.2 (aY uZ.1 _ _) (ej uZ.2 _ _)
 | _=>exact aZ
def Wm(Γ:Gm)(X:Cx)(aa:Hp)(ab:Fz)(m:Nat)(e:Expr)(G:GOk Γ X aa ab):PE X e (tE X aa ab (br (n+1) Γ m e)):=by
 cases e with
 | Constant c=>cases c<;>first | exact aZ | exact Uz | exact Y4 | exact Uy | exact UA
 | Name x =>
  show PE X _ (tE X aa ab (Rx Γ x));unfold Rx;split
  ·rename_i hn;split
   ·rename_i hv;split
    ·rename_i i hi;exact M6 i (sR G hn hv hi)
    ·exact aZ
   ·split
    ·rename_i hg;split
     ·rename_i q hq;obtain⟨u,v,g1,g2,g3⟩:=G.cons _ q hq;exact wA (uE (G.f9 hg) g1 g2 (hJ hn).1) g3
     ·exact aZ
    ·exact aZ
  ·exact aZ
 | BinOp a op b =>
  refine pI (λhc=>?_) ?_
  ·rw[aE]at hc;obtain rfl:op=.Add:=by
    cases op<;>first | rfl | cases hc.2
   exact QX (S.e Γ X aa ab 0 _ G) (S.e Γ X aa ab 0 _ G)
  show PE X _ (tE X aa ab (match Mg op with | some g=>op2 g (br n Γ 0 a) (br n Γ 0 b) | none=>bY))
  cases h1:Mg op with
  | none=>exact aZ
  | some=>exact Y5 (HV h1) (S.e Γ X aa ab 0 _ G) (S.e Γ X aa ab 0 _ G)
 | UnaryOp op=>cases op with
  | Not=>exact UI (S.e Γ X aa ab 0 _ G)
  | USub=>exact UU (S.e Γ X aa ab 0 _ G)
  | _=>exact aZ
 | BoolOp=>exact S.b Γ X aa ab _ _ _ G
 | Compare=>exact S.k Γ X aa ab _ _ _ _ G
 | IfExp=>exact Y8 (S.t Γ X aa ab _ G) (S.e Γ X aa ab m _ G) (S.e Γ X aa ab m _ G)
 | Tuple=>exact UK (S.a Γ X aa ab m _ G)
 | List=>cases m with
  | zero=>exact UL (S.a Γ X aa ab 0 _ G)
  | succ=>exact O6 (S.a Γ X aa ab _ _ G)
 | Dict ks vs=>rcases ks with _ | _<;>rcases vs with _ | _<;>first | exact Vn _ | exact aZ
 | Subscript=>exact S.x Γ X aa ab _ _ _ G
 | ListComp=>exact(S.c Γ X aa ab m _ _ _ _ G).1
 | Attribute =>
  show PE X _ (tE X aa ab (ite _ _ _));split
  ·rename_i hb;exact Vr (S.e Γ X aa ab 0 _ G) (lT hb)
  ·exact aZ
 | Call f as ks=>cases as with
  | cons=>cases ks with
   | cons=>exact aZ
   | nil =>
    show PE X _ (tE X aa ab (ite _ _ _));split
    ·rename_i hp;exact S.f Γ X aa ab m _ _ _ _ G hp
    ·exact aZ
  | nil=>cases ks with
   | cons=>cases f<;>exact aZ
   | nil=>cases f with
    | Attribute =>
     show PE X _ (tE X aa ab (ite _ _ _));split
     ·rename_i hc;rw[aE]at hc;split
      ·rename_i hx;have hx:=aO hx;subst hx;exact VH (S.e Γ X aa ab 0 _ G) (lT hc.1) hc.2
      split
      ·rename_i w hw;exact Vk hw (S.e Γ X aa ab 0 _ G) (lT hc.1) hc.2
      ·exact aZ
     ·exact aZ
    | _=>exact aZ
 | _=>exact aZ
end
theorem snd:∀n:Nat,Snd n
 | 0=>Io
 | n+1 =>
  have S:=snd n
  ⟨Wm S,Wl S,Wj S,Wk S,RH S,RE S,Wf S,RF S,RG S,Wd S,Wg S,We S,V9 S,Wa S,Wb S,Wc S,Wh S,Wi S⟩
structure SOk (Γ:Gm) (X:Cx) (aa:Hp) (ab:Fz):Prop extends GOk Γ X aa ab where
 never:PassesOwn (model X.prog X.w) X.A X.env X.xe
def qp:Expr->Bool
 | .ListComp _ _ _ _=>true
 | _=>false
def Wn:G2:=nO (λ_ _=>true) λi j=>.int (i+j)
def RI:Operator->Option G2
 | .Add=>some Wn
 | _=>none
def sI{c:Prop} [Decidable c] (h:c->PS X e (tS X aa ab f)):PS X e (tS X aa ab (if c then f else bY)):=by
 split
 ·exact h ‹_›
 ·exact gw
section
variable {Γ:Gm} {X:Cx} {x:Str} {p sp:Pos} {e:Expr} {op:Operator} {i:Nat} {aa:Hp} {ab:Fz} {fe:Gx PV} {g:G2}
def Ml(h:RI op=some g):q8 X (inplaceOp op) g:=by
 cases op<;>cases h
 exact fz (sh JS) (λ_ _ _=>trivial) λ_ _ _=>aD.mpr rfl
def Mm{st:bJ}(h:rd i st=some r):∃p,st.ρ[i]?=some (some p)/\r=(.ok p,st):=by
 obtain⟨p,e1,e2⟩:=aV h;cases z:st.ρ[i]? with
 | none=>rw[z]at e1;cases e1
 | some o =>
  rw[z]at e1;cases o with
  | none=>cases e1
  | some p'=>cases e1;exact⟨p,rfl,e2.symm⟩
def Wo(ho:q8 X (inplaceOp op) g)(he:PE X e (tE X aa ab fe))(hN:X.N.Nodup)(hi:X.N[i]?=some x)(hx:MQ X.env.scope x)(hf:X.fn x=true\/X.env.scope.names.lookup x=some .local):PS X (.AugAssign (.Name x p) op e sp) (tS X aa ab (fq (op2 g (rd i) fe) (b9 i))):=by
 refine(Ov hN hi hx he (λaf s σ H x y v u Q I r1 r2 t=>ho af s σ H x y v u Q I r1 r2 t) hf).imp λD σ H h=>?_
 obtain⟨F,st,R,h⟩:=oo h;obtain⟨r,e1,e2⟩:=At.bnd h;obtain⟨q,e3,rfl⟩:=Mm e1;obtain⟨v,h3,h4⟩:=R.l.av i q e3;refine⟨v,h3,F,st,R,Tx.bnd (e2) λy w F1 aM H1 R1 g1 b1 h1=>?_⟩
 obtain⟨z,hz,k⟩:=h1.hp;exact⟨aa,ab,F1,aM,σ,q,y,z,hz,R1,h4.mono g1,b1,k⟩
def xO(G:GOk Γ X aa ab)(hs:slot Γ x=some i)(hx:SX Γ x=true)(he:PE X e (tE X aa ab fe))(hsw:swapsWith e (some (.Name x p)) sp.line X.env=pure false):PS X (.Assign [.Name x p] e sp) (tS X aa ab (fq fe (b9 i))):=by
 obtain⟨h1,h2⟩:=G.Rt hx;exact(Ou G.nd (G.ql hs) h1 he hsw h2).imp λD σ H h=>oo h
def Ar :
  (swapsWith (.ListComp elt gens scope cp) (some (.Name x p)) sp.line X.env=pure true/\X.env.scope.names.lookup x=some .local)\/swapsWith (.ListComp elt gens scope cp) (some (.Name x p)) sp.line X.env=pure false:=by
 have e:swapsWith (.ListComp elt gens scope cp) (some (.Name x p)) sp.line X.env=pure (X.env.blockKind==.function&&X.env.kindOf x==some .local&&p.line==(Expr.ListComp elt gens scope cp).pos.line&&!(scope.names.any fun(n,k)=>n==x&&(k==.local || k==.cell))):=rfl
 rw[e];cases hb:(X.env.blockKind==.function&&X.env.kindOf x==some .local&&p.line==(Expr.ListComp elt gens scope cp).pos.line&&!(scope.names.any fun(n,k)=>n==x&&(k==.local || k==.cell)))with
 | true =>
  refine .inl ⟨rfl,?_⟩;simp only[aE]at hb;exact aO hb.1.1.2
 | false=>exact .inr rfl
def D7(h:(jo e || qp e)=true)(l:Nat)(env:Env):swapsWith e (some (.Attribute a x p)) l env=pure false:=by
 cases e<;>first | rfl | cases h
def D8{a x:Expr}(h:(jo e || qp e)=true)(l:Nat)(env:Env):swapsWith e (some (.Subscript a x p)) l env=pure false:=by
 cases e<;>first | rfl | cases h
def As(h:lR k=true)(env:Env)(v:Value):assign (.Subscript o k p) env v=(do
   let ov <-holding [v] (eval o env)
   let iv <-holding [v,ov] (eval k env)
   standAt p
   holding [v,ov,iv] (setItem ov iv v)
   release [v,ov,iv] []):=by
 cases k<;>first | rfl | cases h
def Au(env:Env):swappedStores [.Subscript o k p] e env=pure none:=by
 cases e<;>rfl
end
def WHL:Nat:=8000000
def isD(Γ:Gm):Expr->Bool
 | .Name x _=>md Γ x==10
 | _=>false
def Wq:Expr->Expr->Bool
 | .Name x _,.Name y _=>x==y
 | _,_=>false
def NF(body:List Stmt):Option {x:Expr×Expr×Expr×List Stmt // ∃p q,body=[.For x.1 (.Subscript x.2.1 x.2.2.1 p) x.2.2.2 [] q]}:=match body with
 | [.For tg (.Subscript va vb p) b [] q]=>some ⟨(tg,va,vb,b),p,q,rfl⟩
 | _=>none
def RET:Str:="[return]"
def asName(n:Nat)(Γ:Gm)(x:Str)(e:Expr):Gx dn:=if(SX Γ x&&(jo e || qp e))=true then(match slot Γ x with | some i=>fq (br n Γ (md Γ x) e) (b9 i) | none=>bY)else bY
noncomputable def NG(n:Nat)(Γ:Gm)(tg e:Expr):Gx dn:=match tg with
 | .Name x _=>asName n Γ x e
 | .Tuple ts k p=>if B7 e=true then(match qk n Γ (.Tuple ts k p)with | some g=>fq (br n Γ 0 e) g.1 | none=>bY)else bY
 | .Subscript o k _=>if(lR k&&(jo e || qp e))=true then G7 (br n Γ (V6 Γ o) e) (br n Γ 0 o) (br n Γ 0 k)else bY
 | .Attribute o f _=>if(jo e || qp e)=true then u7 Γ.clss Γ.flds f (br n Γ (md Γ f) e) (br n Γ 0 o)else bY
 | _=>bY
noncomputable def NH(n:Nat)(Γ:Gm)(tg:Expr)(op:Operator)(e:Expr):Gx dn:=match tg with
 | .Name x _=>if SX Γ x=true then(match slot Γ x,RI op with | some i,some g=>fq (op2 g (rd i) (br n Γ 0 e)) (b9 i) | _,_=>bY)else bY
 | _=>bY
mutual
noncomputable def RJ:Nat->Gm->Stmt->Gx dn
 | 0,_,_=>bY
 | n+1,Γ,st=>match st with
  | .Pass _=>aP .nx
  | .Break _=>aP .bk
  | .Continue _=>aP .ct
  | .Return none _=>aP (.rt .bL)
  | .Return (some e) _=>if md Γ RET==7 then nN (P0 (br n Γ 1 e))else nN (br n Γ (md Γ RET) e)
  | .If c a b _=>dc (rG n Γ c) (hV n Γ a) (hV n Γ b)
  | .While c b [] _=>gJ (rG n Γ c) (hV n Γ b) WHL
  | .For tg iter body [] _=>if bf iter=true then(match qk n Γ tg with | some g=>if isD Γ iter=true then(match NF body with | some ⟨z,_⟩=>if(Wq iter z.2.1&&lR z.2.2.1)=true then(match qk n Γ z.1 with | some g2=>G1 (br n Γ 0 iter) g.1 (ZC (br n Γ 0 z.2.1) (br n Γ 0 z.2.2.1) g2.1 (hV n Γ z.2.2.2)) | none=>bY)else bY | none=>U9 (br n Γ 0 iter) g.1 (hV n Γ body))else wV (Im n Γ tg iter) g.1 (hV n Γ body) | none=>bY)else bY
  | .Expr e _=>if jo e=true then gr (br n Γ 0 e)else bY
  | .Assign [tg] e _=>NG n Γ tg e
  | .AugAssign tg op e _=>NH n Γ tg op e
  | _=>bY
termination_by structural n=>n
noncomputable def hV:Nat->Gm->List Stmt->Gx dn
 | 0,_,_=>bY
 | n+1,Γ,[]=>aP .nx
 | n+1,Γ,[st]=>RJ n Γ st
 | n+1,Γ,st::SY=>eu (RJ n Γ st) (hV n Γ SY)
termination_by structural n=>n
end
structure aay (n:Nat):Prop where
 s:∀Γ X aa ab st,SOk Γ X aa ab->PS X st (tS X aa ab (RJ n Γ st))
 ss:∀Γ X aa ab SY,SOk Γ X aa ab->PSs X SY (tS X aa ab (hV n Γ SY))
def RK:PSs X s (tS X aa ab bY):=λ_ _ _ _ _ _ ⟨F,st,R,r,z,_⟩=>by cases z
def RL(G:GOk Γ X aa ab):PS X (.Assign [tg] e sp) (tS X aa ab (NG n Γ tg e)):=by
 have S:=snd n;cases tg with
 | Name x p =>
  refine sI λhc=>?_
  rw[aE]at hc;cases hi:slot Γ x with
  | none=>exact gw
  | some i =>
   rcases ug _ _▸hc.2 with hn | hl
   ·exact xO G hi hc.1 (S.e Γ X aa ab _ _ G) (jq hn _ _ _)
   ·cases e<;>try (exact absurd hl dg)
    rcases Ar with⟨z,hl⟩ | z
    ·cases n with
     | zero=>exact vt
     | succ n=>exact((snd n).c Γ X aa ab _ _ _ _ _ G).2 i x p sp (G.ql hi) hl z
    ·exact xO G hi hc.1 (S.e Γ X aa ab _ _ G) z
 | Tuple ts k tp =>
  refine sI λhc=>?_
  cases h1:qk n Γ (.Tuple ts k tp)with
  | none=>exact gw
  | some g =>
   obtain⟨g1,g2,g3,g4⟩:=gv G n _ g h1;refine UO (S.e Γ X aa ab _ _ G) g1 (jq (vk hc) (some (Expr.Tuple ts k tp)) sp.line X.env) ?_ (g3 _);cases e<;>first | rfl | cases hc
 | Subscript o k tp =>
  refine sI λhc=>?_
  rw[aE]at hc;exact Vm G.un (S.e Γ X aa ab _ _ G) (S.e Γ X aa ab _ _ G) (S.e Γ X aa ab _ _ G) (As hc.1 _) (D8 (a:=o) (x:=k) (p:=tp) hc.2 sp.line X.env) (Au _)
 | Attribute=>exact sI λhc=>Vs G.NB (S.e Γ X aa ab _ _ G) (S.e Γ X aa ab _ _ G) (D7 hc _ _)
 | _=>exact gw
def RM(G:GOk Γ X aa ab):PS X (.AugAssign tg op e sp) (tS X aa ab (NH n Γ tg op e)):=by
 cases tg with
 | Name x p =>
  refine sI λhc=>?_
  cases h1:slot Γ x with
  | none=>exact gw
  | some i=>cases h2:RI op with
   | none=>exact gw
   | some g =>
    obtain⟨l1,l2⟩:=G.Rt hc;exact Wo (Ml h2) ((snd n).e Γ X aa ab _ _ G) G.nd (G.ql h1) l1 l2
 | _=>exact gw
theorem XS:∀n:Nat,aay n
 | 0=>⟨λ_ _ _ _ _ _=>gw,λ_ _ _ _ _ _=>RK⟩
 | n+1=>by
  have T:=XS n;have S:=snd n;refine⟨λΓ X aa ab st G=>?_,λΓ X aa ab SY G=>?_⟩
  ·cases st with
   | Pass=>exact O9
   | Break=>exact Kq
   | Continue=>exact Pa
   | Return e=>cases e with
    | none=>exact Pb
    | some e =>
     show PS X _ (tS X aa ab (ite _ _ _));split
     ·exact M8 (Vc (S.e Γ X aa ab _ _ G.toGOk))
     ·exact M8 (S.e Γ X aa ab _ _ G.toGOk)
   | If=>exact Y9 (S.t Γ X aa ab _ G.toGOk) (T.ss Γ X aa ab _ G) (T.ss Γ X aa ab _ G)
   | While c b o=>cases o with
    | nil=>exact Kt WHL G.never (S.t Γ X aa ab _ G.toGOk) (T.ss Γ X aa ab _ G)
    | cons=>exact gw
   | For tg iter body o=>cases o with
    | cons=>exact gw
    | nil =>
     refine sI λhp=>?_
     cases h1:qk n Γ tg with
     | none=>exact gw
     | some g =>
      show PS X _ (tS X aa ab (ite _ _ _));split
      ·rcases NF body with _ | ⟨⟨tg2,va,vb,b2⟩,p2,q2,rfl⟩
       ·exact PZ G.never G.calm (S.e Γ X aa ab _ _ G.toGOk) (gv G.toGOk n _ g h1).1 (T.ss Γ X aa ab _ G) (d8 hp _)
       ·refine sI λhc=>?_
        cases h2:qk n Γ tg2 with
        | none=>exact gw
        | some g2=>exact Ld G.never G.calm (S.e Γ X aa ab _ _ G.toGOk) (gv G.toGOk n _ g h1).1 (Bb (ZE G.un G.never G.calm (S.e Γ X aa ab 0 _ G.toGOk) (S.e Γ X aa ab 0 _ G.toGOk) (lU (gA.mp hc).2) (gv G.toGOk n _ g2 h2).1 (T.ss Γ X aa ab _ G))) (d8 hp _)
      ·exact PX G.never G.calm (S.i Γ X aa ab _ _ G.toGOk) (gv G.toGOk n _ g h1).1 (T.ss Γ X aa ab _ G) (d8 hp _)
   | Expr=>exact sI λhc=>Pc (S.e Γ X aa ab _ _ G.toGOk) (jq hc _ _ _)
   | Assign ts=>rcases ts with _ | ⟨_,_ | _⟩<;>first | exact RL G.toGOk | exact gw
   | AugAssign=>exact RM G.toGOk
   | _=>exact gw
  ·rcases SY with _ | ⟨st,_ | _⟩
   ·exact O7
   ·exact O8 (T.s Γ X aa ab st G)
   ·exact Ko (T.s Γ X aa ab st G) (T.ss Γ X aa ab _ G)
def xP:Nat:=120
abbrev CT:=Str->m4
def noFn:CT:=λ_ _ _=>none
def Mn(P:Pg):List (Str×Nat):=P.cls.map λd=>(d.1,(params d.2).length)
def NI(P:Pg)(x:Str)(st:Stmt)(cls:List (Str×Nat))(make:CT)(qV:Option ((PV->Gx PV)->Nat->m4))(Al:Option (Nat×(PV->Gx PV)))(c:CT):Gm where
 sc:=(ao st).names
 N:=bX st
 own:=true
 fns:=P.defs.map λd=>(d.1,(params d.2).length)
 call:=c
 cons:=P.cons
 cP:=P.cP
 tabs:=P.tabs
 dO:=P.dO
 cls:=cls
 make:=make
 clss:=P.cls.map (·.1)
 flds:=P.flds
 Tj:=(P.Tj.lookup x).getD []
 qV:=qV
 Al:=Al
def rdI(P:Pg)(C:Str)(st:Stmt)(c:CT):Gx dn:=hV xP (NI P C st [] noFn none none c) (cO st)
def Ip(P:Pg)(c:CT):CT:=λC=>match P.cls.lookup C with | some st=>gX (rdI P C st c) (bX st).length | none=>λ_ _=>none
def rdS(P:Pg)(st:Stmt)(c:CT)(ω:PV->Gx PV)(n:Nat):Gx dn:=hV xP (NI P "spread" st [] noFn none (some (n,ω)) c) (cO st)
def Mo(P:Pg)(x:Str)(c:CT):Option ((PV->Gx PV)->Nat->m4):=if P.mN.contains x=true then(P.defs.lookup ("spread":Str)).map λst=>λω n=>gX (rdS P st c ω n) (bX st).length else none
def Wr(P:Pg)(x:Str)(st:Stmt)(c:CT):Gx dn:=hV xP (NI P x st (Mn P) (Ip P c) (Mo P x c) none c) (cO st)
def run(P:Pg):Nat->CT
 | 0=>noFn
 | k+1=>λx=>match P.defs.lookup x with | some st=>gX (Wr P x st (run P k)) (bX st).length | none=>λ_ _=>none
def RN{P:Pg}{k:Nat}{x:Str}{st:Stmt}(h:P.defs.lookup x=some st):run P (k+1) x=gX (Wr P x st (run P k)) (bX st).length:=by
 show(match P.defs.lookup x with | some st=>gX (Wr P x st (run P k)) (bX st).length | none=>λ_ _=>none)=_
 rw[h]
theorem jr{α β:Type}(g:α->β)(x:Str):∀l:List (Str×α),(l.map λd=>(d.1,g d.2)).lookup x=(l.lookup x).map g
 | []=>rfl
 | (n,a)::r=>by
  rw[bz,gD,gD];cases x==n with
  | true=>rfl
  | false=>exact jr g x r
section
variable {prog:Program} {w:World} {K:W.Frag} {mg:Str->Option Value} {base:Heap}
def Av{x:Str}{c T:Addr}(h:W.tabIn K x=some (c,T)):∃f oc od fd rM,W.nsIn K mainGlobals x=some (some (.ref f))/\K.lookup f=some ⟨oc,od,.func fd,rM⟩/\fd.code=.ref c:=by
 unfold W.tabIn at h;split at h
 ·grind
 ·cases h
structure fN (P:Pg) (w:World) (K:W.Frag) (mg:Str->Option Value):Prop where
 fns:∀x st,P.defs.lookup x=some st->∃f fd,zc K x x st f fd/\fJ K fd (params st) []/\mg x=some (.ref f)/\dj (bX st) (params st) (ao st)
 cons:∀x p,P.cons.lookup x=some p->∃u v,mg x=some u/\RelV v u/\∀F,bu K F p v
 cP:∀x,P.cP.contains x=true->mg x=none
 tabs:∀T rows,P.tabs.lookup T=some rows->BK K mg w.params T rows
 dO:∀T rows,P.dO.lookup T=some rows->u5 K mg w.params T rows
 ns:∀x a,W.nsIn K mainGlobals x=some (some (.ref a))->mg x=some (.ref a)
 NB:Ha K (P.cls.map (·.1)) P.flds
 cls:∀C st,P.cls.lookup C=some st->∃Ca f fd,ClsAt K C (.ref Ca)/\CF K Ca/\Mk K Ca f/\mg C=some (.ref Ca)/\zc K "__init__" (C++".__init__") st f fd/\fJ K fd (params st) []/\dj (bX st) (params st) (ao st)
 qV:∀x st,P.defs.lookup x=some st->P.mN.contains x=true->x∈cX/\(∃c T,W.tabIn K x=some (c,T)/\W.codeHdIn K c T=true)/\∀st,P.defs.lookup ("spread":Str)=some st->(params st).length=2
def FR(P:Pg)(prog:Program)(w:World)(K:W.Frag)(mg:Str->Option Value)(base:Heap)(k:Nat):Prop:=∀(x:Str) (st:Stmt) (f:Addr) (fd:FuncData),P.defs.lookup x=some st->mg x=some (.ref f)->zc K x x st f fd->dj (bX st) (params st) (ao st) ->
 FnOk prog w K mg base (gP prog w) (3*k) f fd (params st) (DC K (params st).length (run P k x))
section
variable {P:Pg} (O:fN P w K mg) {k:Nat} (ih:FR P prog w K mg base k)
include O ih
def NJ{X:Cx}(h1:X.prog=prog)(h2:X.w=w)(h3:X.K=K)(h4:X.mg=mg)(h5:X.base=base):Rq X (3*k) (P.defs.map λd=>(d.1,(params d.2).length)) (run P k):=λy n hy=>by
 subst h1 h2 h3 h4 h5;rw[jr (λst=>(params st).length)]at hy
 obtain⟨bI,h1,h2⟩:=aV hy;subst h2;obtain⟨f',RO,F1,B1,m1,S1⟩:=O.fns y bI h1;exact⟨3*k,f',RO,params bI,az _,ih y bI f' RO h1 m1 F1 S1,m1,F1.kp,B1⟩
def Iq{st:Stmt}{x q:Str}{f:Addr}{cC:Value}{A:Around}{ay:List Env}{s:Shared}{H aa:Hp}{ab:Fz}{E:XK}{cls:List (Str×Nat)}{make:CT}{qV:Option ((PV->Gx PV)->Nat->m4)}{Al:Option (Nat×(PV->Gx PV))}{j:Nat}(S:dj (bX st) (params st) (ao st))
  (hr:dq j (A.deeper (envOfC q (ao st) s.heap.objs.size f cC))) (hj:3*k<=j) (hcl:∀C n,cls.lookup C=some n->∃k' Ca f' fd ps,ClsAt K C (.ref Ca)/\CF K Ca/\Mk K Ca f'/\FnOk prog w K mg base (gP prog w) k' f' fd ps (DC K n (make C))/\dq (k'+1) (A.deeper (envOfC q (ao st) s.heap.objs.size f cC))/\mg C=some (.ref Ca)/\fJ K fd ps [])
  (Hc:∀rs,qV=some rs->HW (NI P x st cls make qV Al (run P k)) (ek (gP prog w) prog w K mg base (bX st) q (ao st) f cC A ay s H E) rs)
  (aaA:∀n ω,Al=some (n,ω)->BN (ek (gP prog w) prog w K mg base (bX st) q (ao st) f cC A ay s H E) aa ab n ω) :
  SOk (NI P x st cls make qV Al (run P k)) (ek (gP prog w) prog w K mg base (bX st) q (ao st) f cC A ay s H E) aa ab:=by
 refine⟨⟨rfl,rfl,S.nd,S.kind,rfl,hr.hd,?_,λ_ _=>rfl,λy n hy=>?_,O.cons,O.cP,O.tabs,O.dO,O.ns,O.NB,hcl,Hc,aaA⟩,PassesOwn.leaving⟩
 ·have:=hr.un;show(A.deeper _).units+1150<cLine
  lia
 ·obtain⟨i,f',RO,ps,h1,h2,h3,h4,h5⟩:=NJ (X:=ek (gP prog w) prog w K mg base (bX st) q (ao st) f cC A ay s H E) O ih rfl rfl rfl rfl rfl y n hy;exact⟨i,f',RO,ps,h2,hr.mono (bh h1 hj),h3,h4,h5⟩
def RP{st:Stmt}{x:Str}{f:Addr}{cC:Value}{A:Around}{ay:List Env}{s:Shared}{H:Hp}{E:XK}{cls:List (Str×Nat)}{make:CT}{qV:Option ((PV->Gx PV)->Nat->m4)}{Al:Option (Nat×(PV->Gx PV))}{rs:(PV->Gx PV)->Nat->m4}(h:P.defs.lookup x=some st)(hm:mg x=some (.ref f))(hc:zX K f cC)(hB:P.mN≠[]->wx mg base)
  (hr:dq (3*k+2) (A.deeper (envOfC x (ao st) s.heap.objs.size f cC))) (hs:Mo P x (run P k)=some rs):HW (NI P x st cls make qV Al (run P k)) (ek (gP prog w) prog w K mg base (bX st) x (ao st) f cC A ay s H E) rs:=by
 obtain⟨hl,hs⟩:=bO hs;obtain⟨sp,e1,rfl⟩:=aV hs;obtain⟨hx,⟨c,T,ht,hC⟩,h2⟩:=O.qV x st h hl;obtain⟨fs,Np,F1,B1,m1,S1⟩:=O.fns _ sp e1;refine⟨⟨sp,fs,Np,params sp,bX sp,3*k,rdS P sp (run P k),rfl,F1,m1,B1,S1,h2 sp e1,hr,λcC A ay s H E aa ab n ω Vx ho=>?_,NJ O ih rfl rfl rfl rfl rfl⟩,⟨⟨x,c,T,hx,ht,hC,(by
  obtain⟨f',oc,od,fd,rM,h1,h2,h3⟩:=Av ht;obtain⟨oc',od',RO,ad6,g1,g2⟩:=hc;have:=O.ns x f' h1;rw[hm]at this;cases this;rw[h2]at g1;cases g1;exact g2.symm.trans h3),rfl⟩,hB (λz=>by grind)⟩⟩
 exact(XS xP).ss _ _ aa ab _ (Iq O ih S1 Vx (ue _ _) (λ_ _ z=>by cases z) (λ_ z=>by cases z) λ_ _ z=>by cases z;exact ho)
def Ws{C:Str}{st:Stmt}{f:Addr}{fd:FuncData}(h:P.cls.lookup C=some st)(F:zc K "__init__" (C++".__init__") st f fd)(S:dj (bX st) (params st) (ao st)):FnOk prog w K mg base (gP prog w) (3*k+1) f fd (params st) (DC K (params st).length (Ip P (run P k) C)):=by
 have e:Ip P (run P k) C=gX (rdI P C st (run P k)) (bX st).length:=by
  unfold Ip;rw[h]
 rw[e];exact G4 F S λcC A ay s H E _ hr aa ab=>(XS xP).ss _ _ aa ab _ (Iq O ih S hr (az _) (λ_ _ z=>by cases z) (λ_ z=>by cases z) λ_ _ z=>by cases z)
end
theorem Ir{P:Pg}(O:fN P w K mg)(hB:P.mN≠[]->wx mg base):∀(k:Nat),FR P prog w K mg base k
 | 0=>λx st f fd h Ke F S=>by
  have no:∀vs H Q E,¬DC K (params st).length (run P 0 x) vs H Q E:=λvs H Q E ⟨_,_,_,_,_,_,_,_,_,_,z,_⟩=>by cases z
  exact⟨λvs H Q E h=>absurd h (no vs H Q E),λA ay s H args us vs Q E _ _ _ _ h=>absurd h (no vs H Q E)⟩
 | k+1=>λx st f fd h Ke F S=>by
  have ih:=Ir (P:=P) O hB k;rw[RN h];refine G4 (k:=3*k+2) F S λcC A ay s H E OZ hr aa ab=>(XS xP).ss _ _ aa ab _ (Iq O ih S hr (ue _ _) (λC n hy=>?_) (λrs e=>RP O ih h Ke OZ hB hr e) λ_ _ z=>by cases z)
  unfold Mn at hy;rw[jr (λst=>(params st).length)]at hy
  obtain⟨bI,h1,h2⟩:=aV hy;subst h2;obtain⟨Ca,f',RO,a,c,M,m1,F1,B1,S1⟩:=O.cls C bI h1;exact⟨3*k+1,Ca,f',RO,params bI,a,c,M,Ws O ih h1 F1 S1,hr,m1,B1⟩
def dI(ns:List Int):PV:=.lst (ns.map .int)
theorem xQ{F:Fz}:∀ns:List Int,ax K F (ns.map .int) (ns.map V.int)
 | []=>.nil
 | n::r=>.cons (aD.mpr rfl) (xQ r)
end
theorem fw{α β:Type} [BEq α] [LawfulBEq α] {k:α} {v:β}:∀{l:List (α×β)},l.lookup k=some v->(k,v)∈l
 | [],h=>by cases h
 | (a,b)::l,h=>by
  rw[gD]at h;cases z:k==a with
  | true =>
   rw[z]at h;cases h;rw[aO z];exact bQ
  | false =>
   rw[z]at h;exact bF _ (fw h)
def CG.at{K:W.Frag}{h:Heap}{mg:Str->Option Value}{P:Params}{T:Str}{rows:List (Str×Str)}(x:CG K P T rows)(X:K.In h)(G:h.Ns mainGlobals mg):BK K mg P T rows:=by
 obtain⟨a,es,n,h1,h2,h3,h4⟩:=x;refine⟨a,es,n,W.mg_of X G h1,h2,h3,λk fn e=>?_⟩
 obtain⟨f,h5,h6⟩:=h4 (k,fn) (fw e);exact⟨f,h5,W.mg_of X G h6,h6⟩
def vT.at{K:W.Frag}{h:Heap}{mg:Str->Option Value}{P:Params}{T:Str}{rows:List (Str×PV)}(x:vT K P T rows)(X:K.In h)(G:h.Ns mainGlobals mg):u5 K mg P T rows:=by
 obtain⟨a,es,n,h1,h2,h3,h4⟩:=x;exact⟨a,es,n,W.mg_of X G h1,h2,h3,λk p e=>h4 (k,p) (fw e)⟩
def E7.at{K:W.Frag}{h base:Heap}{mg:Str->Option Value}(b:E7 K)(X:K.In h)(G:h.Ns mainGlobals mg)(Y:K.In base):wx mg base :=
 let ⟨bm,o,h1,h2,h3,h4,h5⟩:=b;⟨bm,o,W.mg_of X G h1,h2,h3,Y _ _ h4,h5⟩
def xR(K:W.Frag):List (Addr×Str):=cX.filterMap λx=>(W.tabIn K x).map λcT=>(cT.2,v3 x)
theorem sX{α β:Type} [BEq α] [LawfulBEq α] {b:α} {q:β}:∀{l:List (α×β)},(l.map (·.1)).Nodup->(b,q)∈l->l.lookup b=some q
 | [],_,h=>nomatch h
 | (a,v)::l,hn,h=>by
  rw[bz,kh]at hn;rw[gD];rcases aF.mp h with e | h'
  ·grind
  ·have:(b==a)=false:=by
    grind
   rw[this];exact sX hn.2 h'
def D9(K:W.Frag):(xR K).map (·.1)=cX.filterMap λx=>(W.tabIn K x).map (·.2):=by
 unfold xR;rw[List.map_filterMap]
 congr 1
 funext x
 cases W.tabIn K x<;>rfl
def k0.tabs{K:W.Frag}{h:Heap}(t:k0 K h)(X:K.In h):(∀b q,(xR K).lookup b=some q->h.get? b=some {cls:=.none,data:=.fields #[]}/\isCodeTable h b/\K.lookup b=none)/\∀H:Hp,(∀b q,(xR K).lookup b=some q->H b=some (.zb q))->ph K H:=by
 refine⟨λb q e=>?_,λH hH x hx c T e=>?_⟩
 ·have hm:=fw e;unfold xR at hm;obtain⟨x,hx,e2⟩:=oI.mp hm;obtain⟨cT,e3,e4⟩:=gy.mp e2;cases e4;obtain⟨h1,h2,h3⟩:=t.at_ x hx cT.1 cT.2 e3;obtain⟨o,vs,_,_,_,_,_,_,_,g1,g2,g3,g4,_⟩:=W.codeHd_of_K X h1;exact⟨h2,⟨_,o,vs,g1,g2,g3,g4⟩,h3⟩
 ·refine hH T (v3 x) (sX (by rw[D9];exact t.nd) ?_)
  exact oI.mpr ⟨x,hx,by rw[e];rfl⟩
def RQ(P:Pg):Bool:=P.mN.isEmpty || (match P.defs.lookup ("spread":Str)with | some st=>(params st).length==2 | none=>true)
def aaB{P:Pg}{K:W.Frag}{h:Heap}{mg:Str->Option Value}(X:K.In h)(G:h.Ns mainGlobals mg)(hd:∀d∈P.defs,E6 K d.1 d.2)
  (hc:∀d∈P.cons,∃u v,W.nsIn K mainGlobals d.1=some (some u)/\RelV v u/\∀F,bu K F d.2 v) (hb:∀x∈P.cP,W.nsIn K mainGlobals x=some none) {w:World} (ht:∀d∈P.tabs,CG K w.params d.1 d.2) (hcl:∀d∈P.cls,NU K d.1 d.2 P.flds) (hct:∀d∈P.dO,vT K w.params d.1 d.2) (LS:RQ P=true) (X7:∀x∈P.mN,NV K x):fN P w K mg where
 fns:=λx st e=>by
  obtain⟨⟨f,fd,a,F,b⟩,s⟩:=hd (x,st) (dQ e);exact⟨f,fd,F,.all b,W.mg_of X G a,s⟩
 cons:=λx p e=>by
  obtain⟨u,v,a,r,b⟩:=hc (x,p) (dQ e);exact⟨u,v,W.mg_of X G a,r,b⟩
 cP:=λx e=>W.mg_none_of X G (hb x (by simpa using e))
 tabs:=λT rows e=>(ht (T,rows) (fw e)).at X G
 dO:=λT rows e=>(hct (T,rows) (fw e)).at X G
 ns:=λx a e=>W.mg_of X G e
 NB:=λC e=>by
  have e:C∈P.cls.map (·.1):=by simpa using e
  obtain⟨d,hd,rfl⟩:=di.mp e;obtain⟨Ca,f,fd,a,M,c,na,F,b,s⟩:=hcl d hd;exact⟨Ca,a,c,λg hg=>na g (by simpa using hg)⟩
 cls:=λC st e=>by
  obtain⟨Ca,f,fd,a,M,c,na,F,b,s⟩:=hcl (C,st) (dQ e);exact⟨Ca,f,fd,a,c,M,W.mg_of X G a,F,.all b,s⟩
 qV:=λx st e hs=>by
  obtain⟨h1,h2⟩:=X7 x (by simpa using hs)
  refine⟨h1,h2,λbI e'=>?_⟩
  unfold RQ at LS;rw[e']at LS;rcases Bool.or_eq_true_iff.mp LS with z | z
  ·rw[t9.mp z]at hs;cases hs
  ·exact aO z
def Yes(o:Option (Rs PV×List ak)):Prop:=∃h,o=some (.ok (.bl true),h)
def RR{K:W.Frag}{P:Pg}{k:Nat}{H:Hp}{a:Addr}{ns:List Int}(hr:Yes (run P k "law" [dI ns] []))(hS:iu K H a (ns.map V.int)):DC K 1 (run P k "law") [.ref a] H (λv _=>v=.bl true) λ_ _ _=>False :=
 let ⟨h,e⟩:=hr
 ⟨H,⟨H,[]⟩,[],[dI ns],_,h,⟨cg.refl H,cg.refl H,Gr.refl _,λ_ _ e=>.inl e,λn a e=>by simp at e,rfl,uo,λn c a e=>by simp at e⟩,λ_ _ e=>.inl e,.cons (dJ.mpr ⟨a,_,rfl,hS,xQ ns⟩) .nil,rfl,e,λv F' H' _ b=>bC.mp b⟩
def Iu{P:Pg}{N:Nat}{x:Str}{st:Stmt}{l:W.OpenLaw}{q:Program}{loose:List Str}{XP:(Str->Option Value)->Heap->Prop}{YP:World->Heap->Prop}{d:DefRec}(mQ:P.defs.lookup ("law":Str)=some st)(hx:params st=[x])
  (hn:l.most=some 63) (Z5:d.name="law") (YY:d.params.defaults=[]) (hr:dq (3*N) callerA) (LS:RQ P=true) (hY:∀(w:World) (h:Heap),YP w h->∃K:W.Frag,K.In h/\E8 P w K/\k0 K h)
  (aaD:∀ns:List Int,ns.length<=63->Yes (run P N "law" [dI ns] [])):W.WalkO q loose XP YP l.row.toRowW d [] (λf vs=>PySem.call f vs):=by
 refine Att.wu hn YY λw s₀ s₁ mg mb fa o pm cd doc a vs ns G Y ho hd yl Ke Gd Ge dY hg=>?_
 obtain⟨K,KX,T,TH⟩:=hY w _ Y;obtain⟨t1,t2⟩:=TH.tabs KX;have O:=aaB KX G.T.g T.hd T.hc T.hb T.ht T.hcl T.hct LS T.X7;obtain⟨⟨f,fd,e0,F,b⟩,s⟩:=T.hd ("law",st) (dQ mQ);rw[Z5]at Ke;have e:=Ke.symm.trans (W.mg_of KX G.T.g e0);cases e;rw[hx]at b;refine De (CX:=gP l.prog w) KX G.T.g G.T.b G.T.builtins G.T.nolimit hg t1 t2 Gd Ge (bh dY (by decide)) hr (λbase kb _=>?_) (λs u=>.of_eq (b [u] rfl)) (λH hS=>RR (aaD ns dY) hS) (by rintro _ _ _ ⟨_,_,_,_,_,_,_,_,_,_,_,h,_⟩;exact h)
 have k:=Ir (prog:=l.prog) O (λz=>(T.hbm z).at KX G.T.g kb) N "law" st _ fd mQ (W.mg_of KX G.T.g e0) F s
 rw[hx]at k;exact k
abbrev Ev{α:Type}(f:Gx α)(s:bJ)(a:α)(s':bJ):Prop:=f s=some (.ok a,s')
abbrev Ek {α : Type} (f : Gx α) (s : bJ) (a : α) : Prop := Ev f s a s
section
variable {α β:Type} {s s1 s2 s3:bJ}
def eB(h:Ev f s a s1)(h2:k a s1=r):bnd f k s=r:=by
 show(f s).bind (Ux k)=r;rw[h];exact h2
def eI(h:Ev gc s b s1)(h2:(if b=true then f s1 else g s1)=r):dc gc f g s=r:=eB h (by grind)
def iT(h:Ev gc s true s1)(h2:f s1=r):dc gc f g s=r:=eI h h2
def iF(h:Ev gc s false s1)(h2:g s1=r):dc gc f g s=r:=eI h h2
variable {fa fb fe:Gx PV} {ts:Gx (List PV)} {p q x y z:PV} {ps as:List PV}
def b2(ha:Ev fa s x s1)(hb:Ev fb s1 y s2)(h:g s2.h x y=some z):Ev (op2 g fa fb) s z s2:=eB ha (eB hb (by show(g s2.h x y).map _=_;rw[h];rfl))
def cA(ha:Ev fa s x s1)(hb:Ev ts s1 as s2):Ev (aj fa ts) s (x::as) s2:=eB ha (eB hb rfl)
def tU(h:Ev ts s ps s1)(hl:ps.length<=4000000):Ev (jX .aw ts) s (.aw ps) s1:=eB h (by show(small ps (.nd .aw ps)).map _=_;rw[show small ps (.nd .aw ps)=some (.nd .aw ps)from if_pos hl];rfl)
def lS(h:Ev ts s ps s1)(hl:ps.length<=4000000):Ev (jX .lst ts) s (.lst ps) s1:=eB h (by show(small ps (.nd .lst ps)).map _=_;rw[show small ps (.nd .lst ps)=some (.nd .lst ps)from if_pos hl];rfl)
def bV(ha:Ev ts s as s1)(h:g s1.h as=some z):Ev (nP g ts) s z s1:=eB ha (by show(g s1.h as).map _=_;rw[h];rfl)
def bT(h:Ev fa s (.bl b) s1):Ev (toB fa) s b s1:=eB h rfl
def tR(h:Ev fa s p s1)(ht:wB s1.h p=some b):Ev (jM fa) s b s1:=eB h (by show(wB s1.h p).map _=_;rw[ht];rfl)
def nB(h:Ev gc s b s1):Ev (uQ gc) s (!b) s1:=eB h rfl
def clV(ha:Ev ts s as s1)(hl:as.length=n)(hn:(s1.h.isEmpty || au as)=true)(hc:g as []=some (.ok p,h'))(hf:nU h' p=some q):Ev (bnd ts (bD 0 n g)) s q s1:=eB ha (by
 unfold bD;rw[hn,if_pos (show((0==0)&&true)=true from rfl)]
 unfold kG;rw[if_pos ⟨hl,hn⟩,hc];show(nU h' p).map _=_;rw[hf];rfl)
def Mp(ha:Ev ts s as s1)(hl:as.length=n)(hn:((m==0)&&(s1.h.isEmpty || au as))=false)(hc:g as s1.h=some (.ok p,h')):Ev (bnd ts (bD m n g)) s p ⟨s1.ρ,h'⟩:=eB ha (by
 unfold bD;rw[hn,if_neg dg];unfold zY;rw[if_pos hl,hc];rfl)
variable {f g:Gx dn} {r:Option (Rs dn×bJ)}
def sq(h:Ev f s .nx s1)(h2:g s1=r):eu f g s=r:=eB h h2
def vP(h:Ev f s (.rt p) s1):eu f g s=some (.ok (.rt p),s1):=eB h rfl
def aS(h:Ev fa s p s1)(ht:t p s1=some s2):Ev (fq fa t) s .nx s2:=eB h (by show(t p s1).map _=_;rw[ht];rfl)
def rS(h:Ev fa s p s1):Ev (nN fa) s (.rt p) s1:=eB h rfl
def dS(h:Ev fa s p s1):Ev (gr fa) s .nx s1:=eB h rfl
def lW(e:f ⟨dE n as,h⟩=some (.ok (.rt p),⟨Iv,h'⟩)):gX f n as h=some (.ok p,h'):=by
 unfold gX;rw[e];rfl
def aaE(e:f ⟨dE n as,h⟩=some (.ok .nx,⟨Iv,h'⟩)):gX f n as h=some (.ok .bL,h'):=by
 unfold gX;rw[e];rfl
variable {t:Tg} {body:Gx dn}
def fC(ht:t p s=some s1)(hb:Ev body s1 .nx s2)(h:dD t body ps s2=r):dD t body (p::ps) s=r:=eB (show Ev (stp (t p)) s .nx s1 by show(t p s).map _=_;rw[ht];rfl) (eB hb h)
def fR(ht:t p s=some s1)(hb:Ev body s1 (.rt q) s2):dD t body (p::ps) s=some (.ok (.rt q),s2):=eB (show Ev (stp (t p)) s .nx s1 by show(t p s).map _=_;rw[ht];rfl) (eB hb rfl)
def fS(h:Ev fi s (.sq ps) s1)(h2:dD t body ps s1=r):wV fi t body s=r:=eB h h2
def sV(he:Ev fa s p s1)(hs:p6 p=some h):Ev (lE fa) s (.sq h) s1:=eB he (by show(K9 s1.h p).map _=_;unfold K9;rw[hs];rfl)
def sG(h:Ev fi s ps s1):Ev (Jm fi) s (.sq ps) s1:=eB h rfl
def e1(ht:t p ⟨ρ,h⟩=some ⟨PR,h1⟩)(he:Ev fe ⟨PR,h1⟩ q ⟨XT,h2⟩):Dv t fe ρ p h=some (some q,h2):=by
 unfold Dv;rw[ht,ik,he];rfl
def e2T(ht:t p ⟨ρ,h⟩=some ⟨PR,h1⟩)(hw:Ev ft ⟨PR,h1⟩ true ⟨XT,h2⟩)(he:Ev fe ⟨XT,h2⟩ q ⟨ρ3,h3⟩):rh t ft fe ρ p h=some (some q,h3):=by
 unfold rh;rw[ht,ik,hw,ik];show(if true=true then(fe ⟨XT,h2⟩).bind _ else _)=_
 rw[if_pos rfl,he];rfl
def e2F(ht:t p ⟨ρ,h⟩=some ⟨PR,h1⟩)(hw:Ev ft ⟨PR,h1⟩ false ⟨XT,h2⟩):rh t ft fe ρ p h=some (none,h2):=by
 unfold rh;rw[ht,ik,hw];rfl
end
end L2.U
namespace L2.U
open PySem L2
def aL(o:Option (Rs PV×List ak))(q:PV):Prop:=∃p h,o=some (.ok p,h)/\nU h p=some q
def Aw(hp:noRef p=true):nU h p=some p:=by
 unfold nU;split
 ·rfl
 ·unfold m5;rw[if_pos hp]
end L2.U
noncomputable section
namespace cS
open PySem L2 L2.U
abbrev Wt:Stmt:=top 76
abbrev kI (n : Int) : Gx PV := aP (.int n)
abbrev kS (s : Str) : Gx PV := aP (.str s)
abbrev Q0 := aj (rd 1) (aP [])
abbrev Q3 := jX .aw (aj (kS "say") (aj (jX .aw (aj (op2 dt (rd 0) (kI 7)) (aj (aP (.bl false)) (aj (jX .aw (aP [])) (aj (op2 dt (rd 0) (kI 5)) (aP [])))))) (aP [])))
abbrev Q4 := Jm (u3 wU (aj (nP nM (aj (g7 "rows" (rd 2)) (aP []))) (aP [])))
abbrev Q9 := toB (op2 gM (op2 iS (op2 gR (rd 2) (kI 384)) (kI 2)) (kI 1))
abbrev Qa := dc (toB (op2 gM (op2 iS (op2 gR (rd 0) (kI 49)) (kI 2)) (kI 1))) (toB (op2 gM (op2 iS (rd 3) (kI 2)) (kI 1))) (aP false)
abbrev Qb := aj (op2 dt (rd 0) (kI 2)) (aj (aP (.bl true)) (aj (rd 1) (aj (op2 gR (rd 3) (kI 2)) (aP []))))
abbrev Qc := aj (rd 2) (aP [])
abbrev Qd := op2 dt (rd 1) (kI 1)
abbrev Qf := toB (op2 gM (op2 iS (op2 gR (rd 2) (kI 192)) (kI 2)) (kI 1))
abbrev Qg := toB (op2 gM (rd 4) (kS "past"))
abbrev Qh := jX .aw (aj (kS "put") (aj (kS "set") (aP [])))
abbrev Qi := jX .aw (aj (rd 3) Q0)
abbrev Qj := jX .lst (aP [])
abbrev Qk := aj (rd 0) Q0
abbrev Ql := g7 "i" (rd 0)
abbrev Qm := toB (op2 Di (rd 13) (op2 dt (rd 6) (kI 1)))
abbrev Qn := op2 dt (rd 2) (kI 1)
abbrev Qo := aj (rd 0) (aP [])
abbrev Qp := aj (rd 5) (aP [])
abbrev Q2 := jX .aw (aj (kS "put") (aj (jX .aw (aj (op2 dt (rd 0) (kI 1)) (aj (aP (.bl false)) (aj (jX .aw (aP [])) (aj (op2 dt (rd 0) (kI 3)) (aP [])))))) Qp))
abbrev Qq := je (b9 2) (je (b9 3) wG)
abbrev Qr := g7 "rows" (rd 0)
abbrev Q1 := nP nM (aj Qr (aP []))
abbrev Qs := aj (rd 0) (aj (kI 1) (aP []))
abbrev Qt := toB (op2 Di (rd 4) (kS "unread"))
abbrev Qu := jX .aw (aj (rd 15) (aP []))
abbrev Qv := aj (rd 2) Q0
abbrev Qw := g7 "j" (rd 0)
abbrev Q7 := aj (rd 0) (aj (op2 dt Qr Ql) (aj (op2 dt Qr Qw) (aP [])))
abbrev Qe := dc (toB (op2 Pl Ql Q1)) (aP true) (toB (op2 Pl Qw Q1))
def xS:List (Str×Nat):=aX.defs.map λd=>(d.1,(params d.2).length)
def Iw:List Str:=["Case"]
abbrev Rn(x:Str)(F:CT->Gx dn)(n:Nat):Prop:=∀k,run aX (k+1) x=gX (F (run aX k)) n
open Lean Meta in
dsimproc_decl pqF (Str.mk _):=λe=>do
 let .app _ (.app _ l):=e | return .continue
 let some l <-getListLit? l | return .continue
 return .done (mkApp (mkConst ``Str.ofString) (toExpr (String.ofList (l.toList.map λx=>Char.ofNat (x.nat?.getD 0)))))
open Lean in
dsimproc_decl pqI (Int.ofNat _):=λe=>do
 let .app _ n:=e | return .continue
 let some n:=n.nat? | return .continue
 return .done (toExpr (n:Int))
def hW(x:Str)(i n k:Nat){f:CT->Gx dn}(h:∀k,run aX (k+1) x=gX (Wr aX x (top i) (run aX k)) n:=by intro _;kernel_rfl)(e:∀c,Wr aX x (top i) c=f c:=by intro c;conv=>(lhs;reduce;simp only[pqF,pqI])):run aX (k+1) x=gX (f (run aX k)) n:=by rw[h,e]
def lbP(s:List Stmt):List Nat->List Stmt
 | []=>s
 | i::r=>lbP (match s[i]? with | some (.For _ _ b _ _) | some (.If _ b _ _) | some (.While _ b _ _)=>b | _=>[]) r
def vQ(x:Str)(i:Nat)(p:List Nat)(c:CT):Gx dn:=hV xP (NI aX x (top i) (Mn aX) (Ip aX c) (Mo aX x c) none c) (lbP (cO (top i)) p)
def Mq(x:Str)(i d:Nat)(c:CT):Gx dn:=hV xP (NI aX x (top i) (Mn aX) (Ip aX c) (Mo aX x c) none c) ((cO (top i)).drop d)
abbrev m8(a:Gx dn){f:Gx dn}(_:a=f:=by conv=>(lhs;reduce;simp only[pqF,pqI])):Gx dn:=f
section
seal eu u7 op2 dt rd bnd aj aP bD iM lE Dv rh b9 gr qT zS dc toB Di nN jX fq Km wV nP zN bY uQ chain Pj Ph nM Wn KA cutE lA wN gM gQ q9 je wG jM QA Pz gJ G7 gU fm kF iN rj Xp Jm BC KS QD Z9 Gn QN Zb Xr Kz SQ Ip g7 u3 wU UP Pl iS Pf Dj gR Ku KO KQ O4 Hu gX rdS Lg GD DR Qy  G1 ZC P0 Zf HK Rj LZ L8 DU LY xN Hm
def Ea:List (Str×Str):=[("again","is_again"),("known","is_known"),("over","is_over"),("back","is_back"),("unread","is_unread"),("past","is_past")]
def iH:List (Str×Str):=[("changed","stands_changed"),("lent","stands_lent"),("named","stands_named"),("read","stands_read"),("way","stands_by_way")]
def jG:List (Str×Str):=[("again","turn_again"),("known","turn_known"),("over","turn_first"),("back","turn_back"),("unread","turn_first"),("past","turn_past")]
def lX:List (Str×PV):=(aX.dO.lookup ("REASONS":Str)).getD []
def Iy(c:CT):Gx dn :=
 (eu (u7 Iw aX.flds "rule" (op2 dt (rd 2) (kI 0)) (rd 0))
  (eu (u7 Iw aX.flds "function" (op2 dt (rd 1) Qn) (rd 0))
  (eu (u7 Iw aX.flds "rows" (op2 dt (g7 "function" (rd 0)) (kI 4)) (rd 0))
  (eu (u7 Iw aX.flds "i" (op2 dt (rd 2) (kI 2)) (rd 0))
  (u7 Iw aX.flds "j" (op2 dt (rd 2) (kI 3)) (rd 0))))))
theorem Mr(c:CT):Ip aX c "Case"=gX (Iy c) 3:=by kernel_rfl
noncomputable def xU(c:CT):=m8 (vQ "kind_of" 5 [0] c)
def xV(k:Nat):=hW "kind_of" 5 4 k
def rH(k:Nat):=hW "row_nexts" 7 3 k
noncomputable def js(c:CT):Gx dn :=
 (eu (fq (rj (λk=>(List.lookup k iH).map .fn) (rd 4)) (b9 5))
  (gr (qT "list" zS (rd 3) (aj (iM false [none,none,some 2,some 4,some 5] Q4 (rh (b9 1) (jM (iN xS c (rd 4) Qv)) Qi)) (aP [])))))
noncomputable def Eb(c:CT):Gx dn :=
 (eu (fq (SQ "Case" 3 (Ip aX c "Case") Qk) (b9 2))
  (eu (dc (uQ (jM (bnd Qc (bD 0 1 (c "is_of_form")))))
  (nN (jX .lst (aj (jX .aw (aj (kS "form") (aj (g7 "i" (rd 2)) (aP [])))) (aP []))))
  (aP .nx))
  (eu (fq (Km (aP [])) (b9 3))
  (eu (wV (lE (rj (λk=>List.lookup k lX) (g7 "rule" (rd 2)))) (b9 4) (js c))
  (nN (DR (rd 3)))))))
theorem nF:Rn "against" Eb 6:=λ_=>by kernel_rfl
noncomputable def Ax(c:CT):Gx dn :=
 (G7 (rd 6) (rd 4) (rd 5))
noncomputable def Iz(c:CT):Gx dn :=
 (eu (fq (bnd Qk (bD 0 2 (c "against"))) (b9 2))
  (eu (dc (toB (op2 Di (rd 2) Qj))
  bY
  (aP .nx))
  (eu (fq (SQ "Case" 3 (Ip aX c "Case") Qk) (b9 3))
  (eu (fq (HK 1 (g7 "rows" (rd 3))) (b9 4))
  (eu (wV (lE (iN xS c (rj (λk=>(List.lookup k jG).map .fn) (g7 "rule" (rd 3))) (aj (rd 3) (aP [])))) (q9 2 (je (b9 5) (je (b9 6) wG))) (Ax c))
  (eu (fq (op2 gQ (cutE (g7 "function" (rd 3)) (aP none) (lA (kI 4))) (jX .aw (aj (nP zN (aj (rd 4) (aP []))) (aP [])))) (b9 7))
  (nN (op2 gQ (op2 gQ (cutE (rd 0) (aP none) (lA Qd)) (jX .aw (aj (rd 7) (aP [])))) (cutE (rd 0) (lA (op2 gQ Qd (kI 1))) (aP none))))))))))
theorem Ay:Rn "turned" Iz 8:=λ_=>by kernel_rfl
noncomputable def vv(c:CT):Gx dn :=
 (eu (dc Qe
  (nN (aP (.bl false)))
  (aP .nx))
  (nN (iN xS c (rj (λk=>(List.lookup k Ea).map .fn) (g7 "rule" (rd 0))) Q7)))
theorem qr:Rn "is_of_form" vv 1:=λ_=>by kernel_rfl
def m9(k:Nat):=hW "is_num_owner" 21 2 k
def lY(k:Nat):=hW "is_plain" 22 2 k
def nG(k:Nat):=hW "is_load" 24 2 k
def lZ(k:Nat):=hW "is_store" 25 2 k
def n4(k:Nat):=hW "puts_number" 26 1 k
def vw(k:Nat):=hW "is_again" 27 3 k
def vx(k:Nat):=hW "is_known" 28 3 k
def xW(k:Nat):=hW "is_over" 29 3 k
def xX(k:Nat):=hW "is_back" 30 3 k
def rJ(k:Nat):=hW "is_unread" 31 3 k
def xY(k:Nat):=hW "spot_of" 33 2 k
def rK(k:Nat):=hW "holder_of" 34 1 k
def vy(k:Nat):=hW "owner_of" 35 3 k
def qt(k:Nat):=hW "is_between" 36 2 k
def l7(k:Nat):=hW "stands_by_way" 37 3 k
def nh(k:Nat):=hW "stands_named" 38 3 k
def kP(k:Nat):=hW "stands_changed" 39 2 k
def iP(k:Nat):=hW "stands_lent" 40 2 k
def n5(k:Nat):=hW "stands_read" 41 4 k
def qu(k:Nat):=hW "turn_again" 42 1 k
def qw(k:Nat):=hW "turn_known" 43 1 k
noncomputable def Az(c:CT):=m8 (vQ "turner" 53 [2,1] c)
noncomputable def AA(c:CT):=m8 (vQ "turner" 53 [2] c)
def AB(k:Nat):=hW "turner" 53 5 k
noncomputable def gg(c:CT):=m8 (vQ "good_paper" 54 [0] c)
def jt(k:Nat):=hW "good_paper" 54 3 k
noncomputable def ma(c:CT):=m8 (vQ "papers_to_try" 55 [2,0] c)
noncomputable def me(c:CT):=m8 (vQ "papers_to_try" 55 [2] c)
def mh(k:Nat):=hW "papers_to_try" 55 6 k
def vz(k:Nat):=hW "_law_cell_at" 57 2 k
noncomputable def AD(c:CT):=m8 (vQ "_law_names" 58 [4,1] c)
noncomputable def qx(c:CT):=m8 (vQ "_law_names" 58 [4] c)
def AE(k:Nat):=hW "_law_names" 58 9 k
def IA(k:Nat):=hW "_law_big" 60 2 k
def Ec(k:Nat):=hW "_law_spot" 61 4 k
def Ed(k:Nat):=hW "_law_tame" 63 9 k
def Ee(k:Nat):=hW "_law_wild" 64 12 k
def Ef(k:Nat):=hW "_law_form" 65 11 k
noncomputable def kQ(c:CT):=m8 (vQ "_law_begin" 66 [1] c)
noncomputable def qy(c:CT):=m8 (vQ "_law_begin" 66 [2] c)
def AF(k:Nat):=hW "_law_begin" 66 7 k
def xZ(k:Nat):=hW "_law_filler" 67 6 k
def Eg(k:Nat):=hW "_law_lets" 68 5 k
noncomputable def Eh(c:CT):=m8 (vQ "_law_case" 71 [10] c)
noncomputable def Ei(c:CT):=m8 (vQ "_law_case" 71 [14] c)
def Ej(k:Nat):=hW "_law_case" 71 17 k
noncomputable def AG(c:CT):=m8 (vQ "_law_alone" 72 [5] c)
def AH(k:Nat):=hW "_law_alone" 72 10 k
noncomputable def qz(c:CT):=m8 (vQ "_law_none_left" 74 [0,2,1,0] c)
noncomputable def qA(c:CT):=m8 (vQ "_law_none_left" 74 [0,2,1] c)
noncomputable def qB(c:CT):=m8 (vQ "_law_none_left" 74 [0,2] c)
noncomputable def qC(c:CT):=m8 (vQ "_law_none_left" 74 [0] c)
def qD(k:Nat):=hW "_law_none_left" 74 8 k
noncomputable def AI(c:CT):=m8 (vQ "_law_right" 75 [3] c)
def AJ(k:Nat):=hW "_law_right" 75 5 k
noncomputable def Ms(c:CT):=m8 (Mq "_law_wild" 64 0 c)
def Mt(c:CT):=m8 (Mq "_law_wild" 64 11 c)
noncomputable def Mu(c:CT):=m8 (Mq "_law_form" 65 0 c)
def Cc(c:CT):=m8 (Mq "_law_form" 65 7 c)
noncomputable def Mv(c:CT):=m8 (Mq "_law_case" 71 0 c)
def sY(c:CT):=m8 (Mq "_law_case" 71 5 c)
def sZ(c:CT):=m8 (Mq "_law_case" 71 9 c)
def qE(c:CT):=m8 (Mq "_law_case" 71 13 c)
def kR(c:CT):=m8 (Mq "_law_case" 71 16 c)
def Mw(k:Nat):=hW "law" 76 1 k
end
inductive At where
 | bL | idx (i:Int) | num (i:Int) | El (x:Str)
structure Sp where
 x:Str
 t:Bool
 a:At
inductive Op where
 | n (i:Int) | s (s:Sp)
inductive Rw where
 | put (s:Sp) (o:Op)
 | set (s:Sp) (g:Str) (a b:Op)
 | fill (s:Sp) (o:Op)
 | AK (t s:Sp)
 | Em (t s:Sp)
 | drop (s:Sp)
 | fx (b:Bool) (x:Str) (s:Sp)
 | call (x f a:Str)
 | AL (a b:Op) (to:Int)
 | go (to:Int)
 | ju (o:Op)
 | eO (x:Str)
def paP:At->PV
 | .idx i=>.aw [.int i]
 | _=>.aw []
def atP:At->PV
 | .num i=>.int i
 | .El x=>.str x
 | _=>.bL
def bA(s:Sp):PV:=.aw [.str s.x,.bl s.t,paP s.a,atP s.a]
def eU:Op->PV
 | .n i=>.int i
 | .s s=>bA s
def Wu(b:Bool):Str:=if b then "sole" else "lend"
def ai:Rw->PV
 | .put s o=>.aw [.str "put",bA s,eU o]
 | .set s g a b=>.aw [.str "set",bA s,.str g,eU a,eU b]
 | .fill s o=>.aw [.str "fill",bA s,eU o]
 | .AK t s=>.aw [.str "copy",bA t,bA s]
 | .Em t s=>.aw [.str "move",bA t,bA s]
 | .drop s=>.aw [.str "drop",bA s]
 | .fx b x s=>.aw [.str (Wu b),.str x,bA s]
 | .call x f a=>.aw [.str "call",.str x,.str f,.aw [.str a]]
 | .AL a b to=>.aw [.str "if",eU a,eU b,.int to]
 | .go to=>.aw [.str "go",.int to]
 | .ju o=>.aw [.str "say",eU o]
 | .eO x=>.aw [.str "give",.str x]
def Jo(s:Sp):List Str:=match s.a with | .El y=>[s.x,y] | _=>[s.x]
def EM:Op->List Str
 | .n _=>[]
 | .s s=>Jo s
def RS:Rw->List Str
 | .put s o=>Jo s++EM o
 | .set s _ a b=>Jo s++(EM a++EM b)
 | .fill s o=>Jo s++EM o
 | .AK t s=>Jo t++Jo s
 | .Em t s=>Jo t++Jo s
 | .drop s=>Jo s
 | .fx _ x s=>x::Jo s
 | .call x _ a=>[x,a]
 | .AL a b _=>EM a++EM b
 | .go _=>[]
 | .ju o=>EM o
 | .eO x=>[x]
theorem iQ(k:Nat)(o:Op):run aX (k+1) "names_of_spot" [eU o] []=some (.ok (.lst ((EM o).map .str)),[]):=by
 cases o with
 | n i=>kernel_rfl
 | s s =>
  obtain⟨x,t,a⟩:=s;cases a<;>kernel_rfl
theorem rL{P:Sp->Prop}(h1:∀x t,P ⟨x,t,.bL⟩)(h2:∀x t i,P ⟨x,t,.idx i⟩)(h3:∀x t i,P ⟨x,t,.num i⟩)(h4:∀x t y,P ⟨x,t,.El y⟩):∀s,P s
 | ⟨x,t,.bL⟩=>h1 x t
 | ⟨x,t,.idx i⟩=>h2 x t i
 | ⟨x,t,.num i⟩=>h3 x t i
 | ⟨x,t,.El y⟩=>h4 x t y
theorem qF{P:Op->Prop}(h0:∀i,P (.n i))(h1:∀x t,P (.s ⟨x,t,.bL⟩))(h2:∀x t i,P (.s ⟨x,t,.idx i⟩))(h3:∀x t i,P (.s ⟨x,t,.num i⟩))(h4:∀x t y,P (.s ⟨x,t,.El y⟩)):∀o,P o
 | .n i=>h0 i
 | .s s=>rL (P:=λs=>P (.s s)) h1 h2 h3 h4 s
theorem qG(k:Nat)(r:Rw):run aX (k+4) "names_in" [ai r] []=some (.ok (.ref 0),[⟨.lst,(RS r).map .str⟩]):=by
 cases r with
 | eO x=>kernel_rfl
 | go to=>kernel_rfl
 | call x f a=>kernel_rfl
 | drop s=>revert s;refine rL ?_ ?_ ?_ ?_<;>intros<;>kernel_rfl
 | fx b x s=>cases b<;>(revert s;refine rL ?_ ?_ ?_ ?_<;>intros<;>kernel_rfl)
 | ju o=>revert o;refine qF ?_ ?_ ?_ ?_ ?_<;>intros<;>kernel_rfl
 | put s o=>revert s;refine rL ?_ ?_ ?_ ?_<;>intros<;>(revert o;refine qF ?_ ?_ ?_ ?_ ?_<;>intros<;>kernel_rfl)
 | fill s o=>revert s;refine rL ?_ ?_ ?_ ?_<;>intros<;>(revert o;refine qF ?_ ?_ ?_ ?_ ?_<;>intros<;>kernel_rfl)
 | AK t s=>revert t;refine rL ?_ ?_ ?_ ?_<;>intros<;>(revert s;refine rL ?_ ?_ ?_ ?_<;>intros<;>kernel_rfl)
 | Em t s=>revert t;refine rL ?_ ?_ ?_ ?_<;>intros<;>(revert s;refine rL ?_ ?_ ?_ ?_<;>intros<;>kernel_rfl)
 | AL a b to=>revert a;refine qF ?_ ?_ ?_ ?_ ?_<;>intros<;>(revert b;refine qF ?_ ?_ ?_ ?_ ?_<;>intros<;>kernel_rfl)
 | set s g a b=>revert s;refine rL ?_ ?_ ?_ ?_<;>intros<;>(revert a;refine qF ?_ ?_ ?_ ?_ ?_<;>intros<;>(revert b;refine qF ?_ ?_ ?_ ?_ ?_<;>intros<;>kernel_rfl))
abbrev S0(l:List (Option PV)):bJ:=⟨l,[]⟩
section
variable {s s1:bJ} {ts:Gx (List PV)} {as:List PV} {q:PV}
theorem dy{n:Nat}{g:m4}(ha:Ev ts s as s1)(hl:as.length=n)(hn:(s1.h.isEmpty || au as)=true)(hc:aL (g as []) q):Ev (bnd ts (bD 0 n g)) s q s1:=let ⟨_,_,h1,h2⟩:=hc;clV ha hl hn h1 h2
theorem gV{f:Gx dn}{n:Nat}{p:PV}{Iv:List (Option PV)}{h':List ak}(e:f ⟨dE n as,[]⟩=some (.ok (.rt p),⟨Iv,h'⟩))(hp:noRef p=true):aL (gX f n as []) p:=⟨p,h',lW e,Aw hp⟩
end
theorem IB(h:List ak)(a b:Str):gM h (.str a) (.str b)=some (.bl (a==b)):=rfl
theorem aT{h:List ak}{ps qs:List PV}(hl:ps.length+qs.length<=4000000):gQ h (.aw ps) (.aw qs)=some (.aw (ps++qs)):=if_pos (show ps.length+qs.length<=ib from hl)
inductive Bg where
 | nu | st (n:Int) | rn | ro
inductive Kn where
 | bg (b:Bg) | ho (w:Bool) (b:Bg)
def c0:Bg->PV
 | .nu=>.aw [.str "num"]
 | .st n=>.aw [.str "strip",.int n]
 | .rn=>.aw [.str "rec",.aw [.aw [.str "num"],.aw [.str "num"]]]
 | .ro=>.aw [.str "rec",.aw [.aw [.str "own"],.aw [.str "num"]]]
def Jp:Kn->PV
 | .bg b=>c0 b
 | .ho w b=>.aw [.str (if w then "sole" else "lent"),c0 b]
abbrev Ky:=Str×Kn
def iW(q:Ky):PV:=.aw [.str q.1,Jp q.2]
def gx:List Ky->Str->Option Kn
 | [],_=>none
 | r::l,x=>if r.1=x then some r.2 else gx l x
structure Fd where
 nm:Str
 ps:List Ky
 res:PV
 ls:List Ky
 rw:List Rw
def dz(F:Fd):PV:=.aw [.str F.nm,.aw (F.ps.map iW),F.res,.aw (F.ls.map iW),.aw (F.rw.map ai)]
def cJ(u:Str)(F:Fd)(i j:Int):PV:=.nd (.ins "Case" ["rule","function","rows","i","j"]) [.str u,dz F,.aw (F.rw.map ai),.int i,.int j]
theorem nH(d:Kn):noRef (Jp d)=true:=by
 cases d with
 | bg b=>cases b<;>rfl
 | ho w b=>cases w<;>cases b<;>rfl
theorem IC:∀l:List Ky,au (l.map iW)=true
 | []=>rfl
 | q::l=>by
  rw[bz,au,IC l,Bool.and_true];show noRef (.aw [.str q.1,Jp q.2])=true;simp[noRef,au,nH]
theorem jZ(s:Sp):noRef (bA s)=true:=by
 obtain⟨x,t,a⟩:=s;cases a<;>rfl
theorem ID:∀o,noRef (eU o)=true
 | .n _=>rfl
 | .s s=>jZ s
theorem j0(r:Rw):noRef (ai r)=true:=by
 cases r<;>simp[ai,noRef,au,jZ,ID]
theorem qH:∀l:List Rw,au (l.map ai)=true
 | []=>rfl
 | r::l=>by rw[bz,au,qH l,j0];rfl
theorem Cd{F:Fd}(h:noRef F.res=true):noRef (dz F)=true:=by simp[dz,noRef,au,IC,qH,h]
theorem s9(c:CT)(f:Option PV)(x:Str):∀(R:List Ky) (o2 o3:Option PV) (d:Kn),gx R x=some d->∃ρ,dD (q9 2 Qq) (xU c) (R.map iW) (S0 [f,some (.str x),o2,o3])=some (.ok (.rt (Jp d)),S0 ρ)
 | [],_,_,_,h=>by cases h
 | r::R,o2,o3,d,h=>by
  have t:q9 2 Qq (iW r) (S0 [f,some (.str x),o2,o3])=some (S0 [f,some (.str x),some (.str r.1),some (Jp r.2)]):=rfl;have e:Ek (toB (op2 gM (rd 2) (rd 1))) (S0 [f,some (.str x),some (.str r.1),some (Jp r.2)]) (r.1==x):=bT (b2 rfl rfl (IB _ _ _));unfold gx at h;by_cases hx:r.1=x
  ·rw[if_pos hx]at h;cases h;rw[show(r.1==x)=true by rw[hx];exact kf x]at e
   exact⟨_,fR t (iT e (rS rfl))⟩
  ·rw[if_neg hx]at h;obtain⟨ρ,ih⟩:=s9 c f x R (some (.str r.1)) (some (Jp r.2)) d h;rw[show(r.1==x)=false by rw[my];exact hx]at e
   exact⟨ρ,fC t (iF e rfl) ih⟩
theorem td(k:Nat)(F:Fd)(x:Str)(d:Kn)(hd:gx (F.ps++F.ls) x=some d)(h:F.ps.length+F.ls.length<=1000):aL (run aX (k+1) "kind_of" [dz F,.str x] []) (Jp d):=by
 obtain⟨ρ,e⟩:=s9 (run aX k) (some (dz F)) x (F.ps++F.ls) none none d hd;rw[xV]
 generalize run aX k=c at e ⊢
 refine gV (vP (fS (sV (p:=.aw ((F.ps++F.ls).map iW)) (b2 (b2 rfl rfl rfl) (b2 rfl rfl rfl) ?_) rfl) e)) (nH d);rw[gE];exact aT (by rw[aJ,aJ];lia)
def S3(F:Fd):List Ky:=F.ps++F.ls
def RT:Kn->Bool
 | .bg .nu=>true
 | _=>false
def EN(F:Fd)(x:Str):Bool:=match gx (S3 F) x with | some d=>RT d | none=>false
def hdS(s:Sp):Bool:=s.t&&(match s.a with | .El _=>false | _=>true)
def tf:Op->Bool
 | .n _=>false
 | .s s=>hdS s
theorem hZ(k:Nat)(o:Op):run aX (k+1) "is_held" [eU o] []=some (.ok (.bl (tf o)),[]):=by
 revert o
 refine qF ?_ ?_ ?_ ?_ ?_
 ·intros;kernel_rfl
 all_goals (intro x t;cases t<;>intros<;>kernel_rfl)
theorem RU(d:Kn):gM [] (Jp d) (.aw [.str "num"])=some (.bl (RT d)):=by
 cases d with
 | bg b=>cases b<;>kernel_rfl
 | ho w b=>cases w<;>cases b<;>kernel_rfl
theorem qI(k:Nat)(u:Str)(F:Fd)(i j:Int)(s:Sp){d:Kn}(hd:gx (S3 F) s.x=some d)(h:F.ps.length+F.ls.length<=1000)(hr:noRef F.res=true):aL (run aX (k+2) "is_num_owner" [cJ u F i j,bA s] []) (.bl (EN F s.x)):=by
 have hk:=td k F s.x d hd h;have e:EN F s.x=RT d:=by unfold EN;rw[hd]
 rw[e,m9]
 generalize run aX (k+1)=c at hk ⊢
 exact gV (rS (b2 (dy (as:=[dz F,.str s.x]) (cA rfl (cA (b2 rfl rfl rfl) rfl)) rfl (by simp[au,noRef]) hk) rfl (RU d))) rfl
section
variable {s s1:bJ} {fa fb:Gx PV} {a b:Bool}
theorem aN(ha:Ev fa s (.bl a) s1)(hb:a=true->Ev fb s1 (.bl b) s1):Ev (Gn fa fb) s (.bl (a&&b)) s1:=by
 refine eB ha (eB (a:=a) (s1:=s1) rfl ?_);cases a with
 | true=>exact hb rfl
 | false=>rfl
theorem oN(ha:Ev fa s (.bl a) s1)(hb:a=false->Ev fb s1 (.bl b) s1):Ev (Xp fa fb) s (.bl (a || b)) s1:=by
 refine eB ha (eB (a:=a) (s1:=s1) rfl ?_);cases a with
 | true=>rfl
 | false=>exact hb rfl
end
def Dm(F:Fd)(x:Str):Prop:=∃d,gx (S3 F) x=some d
structure FdOk (F:Fd):Prop where
 few:F.ps.length+F.ls.length<=1000
 res:noRef F.res=true
theorem mj{u:Str}{F:Fd}{i j:Int}(h:FdOk F):noRef (cJ u F i j)=true:=by simp[cJ,noRef,au,Cd h.res,qH]
def plO(F:Fd):Op->Bool
 | .n _=>true
 | .s s=>EN F s.x
def ya:Rw->Bool
 | .put _ _=>true
 | _=>false
def RV(F:Fd):Rw->Bool
 | .put s o=>EN F s.x&&tf o
 | _=>false
def Wv(F:Fd):Rw->Bool
 | .put s o=>hdS s&&plO F o
 | _=>false
def DmO(F:Fd):Op->Prop
 | .n _=>True
 | .s s=>Dm F s.x
def S4(F:Fd):Rw->Prop
 | .put s o=>Dm F s.x/\DmO F o
 | _=>True
theorem vA(h:List ak)(r:Rw):∃w,dt h (ai r) (.int 0)=some (.str w)/\gM h (.str w) (.str "put")=some (.bl (ya r)):=by
 cases r with
 | fx b x s=>cases b<;>exact⟨_,rfl,by kernel_rfl⟩
 | _=>exact⟨_,rfl,by kernel_rfl⟩
section
variable {u:Str} {F:Fd} {i j:Int} (ok:FdOk F)
include ok
theorem AM(k:Nat)(o:Op)(hd:DmO F o):aL (run aX (k+3) "is_plain" [cJ u F i j,eU o] []) (.bl (plO F o)):=by
 cases o with
 | n x =>
  rw[lY]
  generalize run aX (k+2)=c
  exact gV (rS (oN (a:=true) (b:=true) (eB (a:=false) rfl rfl) (λz=>nomatch z))) rfl
 | s s =>
  obtain⟨d,hd⟩:=hd;have hk:=qI k u F i j s hd ok.few ok.res;rw[lY]
  generalize run aX (k+2)=c at hk ⊢
  exact gV (rS (oN (a:=false) (eB (a:=true) rfl rfl) λ_=>dy (as:=[cJ u F i j,bA s]) (cA rfl (cA rfl rfl)) rfl (by simp[au,mj ok,jZ]) hk)) rfl
theorem tj(k:Nat)(r:Rw)(hd:S4 F r):aL (run aX (k+3) "is_load" [cJ u F i j,ai r] []) (.bl (RV F r)):=by
 obtain⟨w,h1,h2⟩:=vA [] r;cases r with
 | put s o =>
  obtain⟨⟨d,hd⟩,_⟩:=hd;have hk:=qI k u F i j s hd ok.few ok.res;have hh:aL (run aX (k+2) "is_held" [eU o] []) (.bl (tf o)):=⟨_,_,hZ (k+1) o,rfl⟩;rw[nG]
  generalize run aX (k+2)=c at hk hh ⊢
  exact gV (rS (aN (a:=true) (b2 (b2 rfl rfl h1) rfl h2) λ_=>aN (dy (as:=[cJ u F i j,bA s]) (cA rfl (cA (b2 rfl rfl rfl) rfl)) rfl (by simp[au,mj ok,jZ]) hk) λ_=>dy (as:=[eU o]) (cA (b2 rfl rfl rfl) rfl) rfl (by simp[au,ID]) hh)) rfl
 | _ =>
  rw[nG];exact gV (rS (aN (a:=false) (b:=false) (b2 (b2 rfl rfl h1) rfl h2) (λz=>nomatch z))) rfl
theorem AN(k:Nat)(r:Rw)(hd:S4 F r):aL (run aX (k+4) "is_store" [cJ u F i j,ai r] []) (.bl (Wv F r)):=by
 obtain⟨w,h1,h2⟩:=vA [] r;cases r with
 | put s o =>
  have hk:=AM (u:=u) (i:=i) (j:=j) ok k o hd.2;have hh:aL (run aX (k+3) "is_held" [eU (.s s)] []) (.bl (tf (.s s))):=⟨_,_,hZ (k+2) (.s s),rfl⟩;rw[lZ]
  generalize run aX (k+3)=c at hk hh ⊢
  exact gV (rS (aN (a:=true) (b2 (b2 rfl rfl h1) rfl h2) λ_=>aN (dy (as:=[bA s]) (cA (b2 rfl rfl rfl) rfl) rfl (by simp[au,jZ]) hh) λ_=>dy (as:=[cJ u F i j,eU o]) (cA rfl (cA (b2 rfl rfl rfl) rfl)) rfl (by simp[au,mj ok,ID]) hk)) rfl
 | _ =>
  rw[lZ];exact gV (rS (aN (a:=false) (b:=false) (b2 (b2 rfl rfl h1) rfl h2) (λz=>nomatch z))) rfl
end
def tpa:At->Tr
 | .idx i=>.aw [.int i]
 | _=>.aw []
def tat:At->Tr
 | .num i=>.int i
 | .El x=>.str x
 | _=>.bL
def AO(s:Sp):Tr:=.aw [.str s.x,.bl s.t,tpa s.a,tat s.a]
def Ce:Op->Tr
 | .n i=>.int i
 | .s s=>AO s
theorem toT_op(h:List ak)(o:Op):toT h dU (eU o)=some (Ce o):=by
 revert o
 refine qF ?_ ?_ ?_ ?_ ?_<;>intros<;>kernel_rfl
def eP(o o':Op):Bool:=eqT (Ce o) (Ce o')
theorem IE(h:List ak)(o o':Op):gM h (eU o) (eU o')=some (.bl (eP o o')):=by
 obtain⟨q,hq⟩:∃q,q=eU o':=⟨_,rfl⟩
 have e:gM h (eU o) (eU o')=((toT h dU (eU o)).bind λx=>(toT h dU (eU o')).map λy=>eqT x y).map .bl:=by
  cases o with
  | n i=>cases o'<;>rfl
  | s s=>cases o'<;>rfl
 rw[e,toT_op,toT_op];rfl
def trR:Rw->Tr
 | .put s o=>.aw [.str "put",AO s,Ce o]
 | .set s g a b=>.aw [.str "set",AO s,.str g,Ce a,Ce b]
 | .fill s o=>.aw [.str "fill",AO s,Ce o]
 | .AK t s=>.aw [.str "copy",AO t,AO s]
 | .Em t s=>.aw [.str "move",AO t,AO s]
 | .drop s=>.aw [.str "drop",AO s]
 | .fx b x s=>.aw [.str (Wu b),.str x,AO s]
 | .call x f a=>.aw [.str "call",.str x,.str f,.aw [.str a]]
 | .AL a b to=>.aw [.str "if",Ce a,Ce b,.int to]
 | .go to=>.aw [.str "go",.int to]
 | .ju o=>.aw [.str "say",Ce o]
 | .eO x=>.aw [.str "give",.str x]
theorem toT_op9(h:List ak)(o:Op):toT h 999 (eU o)=some (Ce o):=by
 revert o
 refine qF ?_ ?_ ?_ ?_ ?_<;>intros<;>kernel_rfl
theorem toT_rw(h:List ak)(r:Rw):toT h dU (ai r)=some (trR r):=by
 have sp:∀s:Sp,toT h 999 (bA s)=some (AO s):=λs=>toT_op9 h (.s s)
 have st:∀x:Str,toT h 999 (.str x)=some (.str x):=λ_=>rfl
 have it:∀x:Int,toT h 999 (.int x)=some (.int x):=λ_=>rfl
 have tp:∀ps:List PV,toT h dU (.aw ps)=(bW (toT h 999) ps).map .aw:=λps=>by
  show(bW (toT h 999) ps).bind _=_;cases bW (toT h 999) ps<;>rfl
 cases r with
 | call x f a=>kernel_rfl
 | _=>simp[ai,trR,tp,bW,sp,st,it,toT_op9]
def du:Rw->Bool
 | .put _ _=>true
 | .set _ _ _ _=>true
 | _=>false
theorem vB(k:Nat)(r:Rw):aL (run aX (k+1) "puts_number" [ai r] []) (.bl (du r)):=by
 have e:∃w,dt [] (ai r) (.int 0)=some (.str w)/\wN false [] (.str w) (.aw [.str "put",.str "set"])=some (.bl (du r)):=by
  cases r with
  | fx b x s=>cases b<;>exact⟨_,rfl,by kernel_rfl⟩
  | _=>exact⟨_,rfl,by kernel_rfl⟩
 obtain⟨w,h1,h2⟩:=e;rw[n4];exact gV (rS (b2 (b2 rfl rfl h1) rfl h2)) rfl
def S5(F:Fd)(i j:Int)(r r':Rw):Bool:=decide (i<j)&&(RV F r&&(ya r'&&(match r,r' with | .put _ o,.put _ o'=>eP o' o | _,_=>false)))
def S6(F:Fd)(i j:Int)(r r':Rw):Bool:=decide (i<j)&&(Wv F r&&(ya r'&&(match r,r' with | .put s _,.put _ o'=>eP o' (.s s) | _,_=>false)))
def XU(F:Fd)(i j:Int)(r r':Rw):Bool:=decide (i<j)&&(RV F r&&(match r with | .put s o=>eqT (trR r') (.aw [.str "put",Ce o,AO s]) | _=>false))
def urR(F:Fd)(i j:Int)(r:Rw):Bool:=(i==j)&&(du r&&(match r with | .put s _=>EN F s.x | .set s _ _ _=>EN F s.x | _=>false))
section
variable {u:Str} {F:Fd} {i j:Int} (ok:FdOk F)
include ok
theorem AQ(k:Nat)(r r':Rw)(hd:S4 F r):aL (run aX (k+4) "is_again" [cJ u F i j,ai r,ai r'] []) (.bl (S5 F i j r r')):=by
 have hl:=tj (u:=u) (i:=i) (j:=j) ok k r hd;obtain⟨w,h1,h2⟩:=vA [] r';rw[vw]
 generalize run aX (k+3)=c at hl ⊢
 refine gV (rS (aN (b2 rfl rfl rfl) λ_=>aN (dy (as:=[cJ u F i j,ai r]) (cA rfl (cA rfl rfl)) rfl (by simp[au,mj ok,j0]) hl) λLO=>aN (b2 (b2 rfl rfl h1) rfl h2) λhp=>?_)) rfl
 cases r with
 | put s o =>
  cases r' with
  | put s' o'=>exact b2 (b2 rfl rfl rfl) (b2 rfl rfl rfl) (IE _ o' o)
  | _=>cases hp
 | _=>cases LO
theorem AS(k:Nat)(r r':Rw)(hd:S4 F r):aL (run aX (k+5) "is_known" [cJ u F i j,ai r,ai r'] []) (.bl (S6 F i j r r')):=by
 have hl:=AN (u:=u) (i:=i) (j:=j) ok k r hd;obtain⟨w,h1,h2⟩:=vA [] r';rw[vx]
 generalize run aX (k+4)=c at hl ⊢
 refine gV (rS (aN (b2 rfl rfl rfl) λ_=>aN (dy (as:=[cJ u F i j,ai r]) (cA rfl (cA rfl rfl)) rfl (by simp[au,mj ok,j0]) hl) λLO=>aN (b2 (b2 rfl rfl h1) rfl h2) λhp=>?_)) rfl
 cases r with
 | put s o =>
  cases r' with
  | put s' o'=>exact b2 (b2 rfl rfl rfl) (b2 rfl rfl rfl) (IE _ o' (.s s))
  | _=>cases hp
 | _=>cases LO
theorem En(k:Nat)(r r':Rw)(hd:S4 F r):aL (run aX (k+4) "is_back" [cJ u F i j,ai r,ai r'] []) (.bl (XU F i j r r')):=by
 have hl:=tj (u:=u) (i:=i) (j:=j) ok k r hd;rw[xX]
 generalize run aX (k+3)=c at hl ⊢
 refine gV (rS (aN (b2 rfl rfl rfl) λ_=>aN (dy (as:=[cJ u F i j,ai r]) (cA rfl (cA rfl rfl)) rfl (by simp[au,mj ok,j0]) hl) λLO=>?_)) rfl
 cases r with
 | put s o =>
  refine b2 rfl (tU (ps:=[.str "put",eU o,bA s]) (cA rfl (cA (b2 rfl rfl rfl) (cA (b2 rfl rfl rfl) rfl))) (by simp)) ?_
  have e:toT [] dU (.aw [.str "put",eU o,bA s])=some (.aw [.str "put",Ce o,AO s]):=by
   show(bW (toT [] 999) [.str "put",eU o,bA s]).bind _=_;simp[bW,toT_op9,show toT [] 999 (bA s)=some (AO s)from toT_op9 [] (.s s),show toT [] 999 (.str "put")=some (.str "put")from rfl]
   rfl
  have e2:gM [] (ai r') (.aw [.str "put",eU o,bA s])=((toT [] dU (ai r')).bind λx=>(toT [] dU (.aw [.str "put",eU o,bA s])).map λy=>eqT x y).map .bl:=by
   cases r'<;>rfl
  show gM [] (ai r') (.aw [.str "put",eU o,bA s])=_;rw[e2,toT_rw,e];rfl
 | _=>cases LO
theorem yb(k:Nat)(r r':Rw)(hd:∀s,(∃o,r=.put s o)\/(∃g a b,r=.set s g a b)->Dm F s.x):aL (run aX (k+3) "is_unread" [cJ u F i j,ai r,ai r'] []) (.bl (urR F i j r)):=by
 have hl:=vB (k+1) r;have hn:∀s:Sp,Dm F s.x->aL (run aX (k+2) "is_num_owner" [cJ u F i j,bA s] []) (.bl (EN F s.x)):=λs ⟨d,h⟩=>qI k u F i j s h ok.few ok.res
 rw[rJ]
 generalize run aX (k+2)=c at hl hn ⊢
 refine gV (rS (aN (b2 rfl rfl rfl) λ_=>aN (dy (as:=[ai r]) (cA rfl rfl) rfl (by simp[au,j0]) hl) λhp=>?_)) rfl
 cases r with
 | put s o=>exact dy (as:=[cJ u F i j,bA s]) (cA rfl (cA (b2 rfl rfl rfl) rfl)) rfl (by simp[au,mj ok,jZ]) (hn s (hd s (.inl ⟨o,rfl⟩)))
 | set s g a b=>exact dy (as:=[cJ u F i j,bA s]) (cA rfl (cA (b2 rfl rfl rfl) rfl)) rfl (by simp[au,mj ok,jZ]) (hn s (hd s (.inr ⟨g,a,b,rfl⟩)))
 | _=>cases hp
end
def jU:Rw->List Op
 | .put _ o=>[o]
 | .set _ _ a b=>[a,b]
 | .fill _ o=>[o]
 | .AL a b _=>[a,b]
 | .ju o=>[o]
 | _=>[]
theorem qJ(k:Nat)(r:Rw):run aX (k+2) "operands" [ai r] []=some (.ok (.lst ((jU r).map eU)),[]):=by
 cases r with
 | fx b x s=>cases b<;>kernel_rfl
 | _=>kernel_rfl
def EO(x:Str)(o:Op):Bool:=(EM o).any (· == x)
theorem NK(h:List ak)(x:Str)(o:Op):wN false h (.str x) (.lst ((EM o).map .str))=some (.bl (EO x o)):=by
 revert o
 refine qF ?_ ?_ ?_ ?_ ?_<;>intros<;>kernel_rfl
def Mx:Rw->Option Sp
 | .put s _=>some s
 | .set s _ _ _=>some s
 | _=>none
def RW(i j:Int)(r r':Rw):Bool:=decide (i<j)&&(du r&&(du r'&&(match Mx r,Mx r' with | some s,some s'=>hdS s&&(eP (.s s) (.s s')&&!((jU r').any (EO s.x))) | _,_=>false)))
theorem IF(h:List ak)(l:List Bool):DU h [.lst (l.map .bl)]=some (.bl (l.any id)):=by
 have:∀l:List Bool,m7 (l.map .bl)=some l:=λl=>by
  induction l with
  | nil=>rfl
  | cons b l ih =>
   show(bW nz (PV.bl b::l.map .bl))=_;rw[bW];show(some b).bind _=_;rw[ik,show bW nz (l.map .bl)=some l from ih]
   rfl
 show((m7 (l.map .bl)).map λbs=>PV.bl (bs.any id))=_
 rw[this];rfl
theorem cM{α:Type}{link:List (Option Nat)}{fi:Gx BD}{bd:Bd}{s s1:bJ}{l:List α}{e G:α->PV}(hi:Ev fi s (.sq (l.map e)) s1)(hl:l.length<=4000000)(hb:∀a∈l,bd (cf link s1.ρ) (e a) s1.h=some (some (G a),s1.h)):Ev (iM false link fi bd) s (.lst (l.map G)) s1:=eB hi (by
 have:∀l:List α,(∀a∈l,bd (cf link s1.ρ) (e a) s1.h=some (some (G a),s1.h))->lD (bd (cf link s1.ρ)) (l.map e) s1.h=some (l.map G,s1.h):=by
  intro l;induction l with
  | nil=>intro _;rfl
  | cons a l ih =>
   intro H;show(bd (cf link s1.ρ) (e a) s1.h).bind _=_;rw[H a bQ];show(lD (bd (cf link s1.ρ)) (l.map e) s1.h).map _=_;rw[ih λb hb=>H b (bF _ hb)]
   rfl
 show(if(l.map e).length<=ib then lD _ (l.map e) s1.h else none).bind _=_
 rw[if_pos (show(l.map e).length<=ib by rw[aJ];exact hl),this l hb]
 rfl)
theorem Ww{fa fb:Gx Bool}{s s1:bJ}{a b:Bool}(ha:Ev fa s a s1)(hb:a=false->Ev fb s1 b s1):Ev (dc fa (aP true) fb) s (a || b) s1:=by
 cases a with
 | true=>exact iT ha rfl
 | false=>exact iF ha (hb rfl)
theorem tB{fa:Gx PV}{s s1:bJ}{b:Bool}(h:Ev fa s (.bl b) s1):Ev (jM fa) s b s1:=tR h rfl
theorem NL(h:List ak)(o o':Op):Di h (eU o) (eU o')=some (.bl (!eP o o')):=by
 have e:Di h (eU o) (eU o')=((toT h dU (eU o)).bind λx=>(toT h dU (eU o')).map λy=>eqT x y).map λb=>.bl (!b):=by
  cases o with
  | n i=>cases o'<;>rfl
  | s s=>cases o'<;>rfl
 rw[e,toT_op,toT_op];rfl
theorem Eo{u:Str}{F:Fd}{i j:Int}(ok:FdOk F)(k:Nat)(r r':Rw):aL (run aX (k+3) "is_over" [cJ u F i j,ai r,ai r'] []) (.bl (RW i j r r')):=by
 have hp:=vB (k+1) r;have uZ:=vB (k+1) r';have ho:aL (run aX (k+2) "operands" [ai r'] []) (.lst ((jU r').map eU)):=⟨_,_,qJ k r',rfl⟩;have hh:∀o,aL (run aX (k+2) "is_held" [eU o] []) (.bl (tf o)):=λo=>⟨_,_,hZ (k+1) o,rfl⟩
 have hs:∀o,aL (run aX (k+2) "names_of_spot" [eU o] []) (.lst ((EM o).map .str)):=λo=>⟨_,_,iQ (k+1) o,rfl⟩
 rw[xW]
 generalize run aX (k+2)=c at hp uZ ho hh hs ⊢
 have t1:Ek (dc (toB (op2 Pl Ql Qw)) (aP true) (dc (uQ (jM (bnd Q0 (bD 0 1 (c "puts_number"))))) (aP true) (uQ (jM (bnd Qc (bD 0 1 (c "puts_number"))))))) (S0 [some (cJ u F i j),some (ai r),some (ai r')]) (decide (j<=i) || (!du r || !du r')) :=
  Ww (bT (b2 rfl rfl rfl)) λ_=>Ww (nB (tB (dy (as:=[ai r]) (cA rfl rfl) rfl (by simp[au,j0]) hp))) λ_=>nB (tB (dy (as:=[ai r']) (cA rfl rfl) rfl (by simp[au,j0]) uZ))
 cases hz:(decide (j<=i) || (!du r || !du r'))with
 | true =>
  rw[hz]at t1;have e:RW i j r r'=false:=by
   unfold RW;cases h1:du r<;>cases h2:du r'<;>simp_all
   lia
  rw[e];exact gV (vP (iT t1 (rS rfl))) rfl
 | false =>
  rw[hz]at t1;have dH:i<j/\du r=true/\du r'=true:=by
   cases h1:du r<;>cases h2:du r'<;>simp_all
  have tg:∀r,du r=true->∃s,Mx r=some s/\∀h,dt h (ai r) (.int 1)=some (bA s):=λr hr=>by
   cases r with
   | put s o=>exact⟨s,rfl,λ_=>rfl⟩
   | set s g a b=>exact⟨s,rfl,λ_=>rfl⟩
   | _=>cases hr
  obtain⟨s,e1,x1⟩:=tg r dH.2.1;obtain⟨s',e2,x2⟩:=tg r' dH.2.2;have eo:RW i j r r'=(hdS s&&(eP (.s s) (.s s')&&!((jU r').any (EO s.x)))):=by
   unfold RW;rw[e1,e2,dH.2.1,dH.2.2,eK dH.1];rfl
  rw[eo];have t2:Ek (dc (uQ (jM (bnd (aj Qd (aP [])) (bD 0 1 (c "is_held"))))) (aP true) (toB (op2 Di Qd Qn))) (S0 [some (cJ u F i j),some (ai r),some (ai r')]) (!hdS s || !eP (.s s) (.s s')) :=
   Ww (nB (tB (dy (as:=[bA s]) (cA (b2 rfl rfl (x1 _)) rfl) rfl (by simp[au,jZ]) (hh (.s s))))) λ_=>bT (b2 (b2 rfl rfl (x1 _)) (b2 rfl rfl (x2 _)) (NL _ (.s s) (.s s')))
  refine gV (Iv:=[some (cJ u F i j),some (ai r),some (ai r')]) (h':=[]) (sq (iF t1 rfl) ?_) rfl;cases hy:(!hdS s || !eP (.s s) (.s s'))with
  | true =>
   rw[hy]at t2;rw[show(hdS s&&(eP (.s s) (.s s')&&!((jU r').any (EO s.x))))=false by cases h1:hdS s<;>cases h2:eP (.s s) (.s s')<;>simp_all]
   exact vP (iT t2 (rS rfl))
  | false =>
   rw[hy]at t2;rw[show(hdS s&&(eP (.s s) (.s s')&&!((jU r').any (EO s.x)))) = !((jU r').any (EO s.x)) by cases h1:hdS s<;>cases h2:eP (.s s) (.s s')<;>simp_all]
   refine sq (iF t2 rfl) (rS (eB (a:=(jU r').any (EO s.x)) (bT (bV (cA (cM (l:=jU r') (e:=eU) (G:=λo=>.bl (EO s.x o)) (sV (dy (as:=[ai r']) (cA rfl rfl) rfl (by simp[au,j0]) ho) rfl) ?_ λo _=>?_) rfl) ?_)) rfl))
   ·cases r'<;>simp[jU]
   ·exact L2.U.e1 rfl (b2 (b2 (b2 rfl rfl (x1 _)) rfl rfl) (dy (as:=[eU o]) (cA rfl rfl) rfl rfl (hs o)) (NK _ _ o))
   ·have:=IF [] ((jU r').map (EO s.x));rw[ku]at this;rw[List.any_map]at this;exact this
theorem XW{g g':G2}{fa fb fc:Gx PV}{s:bJ}{x y z:PV}{a b:Bool}(ha:Ev fa s x s)(hb:Ev fb s y s)(h1:g s.h x y=some (.bl a))(hc:Ev fc s z s)(h2:g' s.h y z=some (.bl b)):Ev (chain g g' fa fb fc) s (.bl (a&&b)) s:=by
 have e1:Ev (hp λh=>(g h x y).bind nz) s a s:=by show((g s.h x y).bind nz).map _=_;rw[h1];rfl
 cases a with
 | true =>
  refine eB ha (eB hb (eB e1 (eB hc ?_)));show(g' s.h y z).map _=_;rw[h2];rfl
 | false=>exact eB ha (eB hb (eB e1 rfl))
theorem vC{F:Fd}{n:Nat}{r:Rw}(h:F.rw[n]?=some r)(H:List ak):dt H (.aw (F.rw.map ai)) (.int n)=some (ai r):=atI_nat (by rw[bK,h];rfl)
def IG(F:Fd)(s:Sp):Prop:=Dm F s.x/\(s.t=true->EN F s.x=false)
def aaJ(F:Fd):Op->Prop
 | .n _=>True
 | .s s=>IG F s
def Ep(F:Fd):Rw->Prop
 | .put s o=>IG F s/\aaJ F o
 | .set s _ _ _=>IG F s
 | .AL _ _ to=>0<=to/\to<64
 | _=>True
def dF(n:Nat)(p:PV):Prop:=∀h,∃t,toT h n p=some t
structure jV (F:Fd):Prop extends FdOk F where
 tre:∀n,dF (n+10) F.res
 len:F.rw.length<=30
 rows:∀r∈F.rw,Ep F r
theorem jV.at{F:Fd}(ok:jV F){n:Nat}{r:Rw}(h:F.rw[n]?=some r):Ep F r/\n<30:=⟨ok.rows r (fO h),by have:=(b6.mp h).1;have:=ok.len;lia⟩
theorem Ep.dm{F:Fd}{r:Rw}(h:Ep F r):S4 F r:=by
 cases r with
 | put s o=>exact⟨h.1.1,by cases o with | n=>trivial | s s=>exact h.2.1⟩
 | _=>trivial
def wc:Rw->Nat
 | .fx _ _ _=>1
 | .AL _ _ _=>2
 | .go _=>2
 | .eO _=>2
 | _=>0
theorem tm(k:Nat)(u:Str)(F:Fd)(i j n:Int):aL (run aX (k+1) "is_between" [cJ u F i j,.int n] []) (.bl (decide (i<n)&&decide (n<j))):=by
 rw[qt];exact gV (rS (XW rfl rfl rfl rfl rfl)) rfl
theorem tq:∀l:List Int,au (l.map .int)=true
 | []=>rfl
 | _::l=>tq l
theorem Er(l:List Int):(iO l).length=l.length:=by
 induction l with
 | nil=>rfl
 | cons x r ih=>exact(jF x (iO r)).length_eq.trans (by simp[ih])
theorem My{F:Fd}(ok:jV F){n:Nat}{r:Rw}(hn:F.rw[n]?=some r):∃l:List Int,(∀k,aL (run aX (k+1) "row_nexts" [.aw (F.rw.map ai),.int n] []) (.aw (l.map .int)))/\l.length<=2/\(wc r≠2->l=[(n:Int)+1]):=by
 have h0:=ok.at hn;have a1:=vC hn [];simp only[rH]
 generalize F.rw.map ai=R at a1 ⊢
 have st:∀{g:Gx dn} {p:PV},g (S0 [some (.aw R),some (.int n),some (ai r)])=some (.ok (.rt p),S0 [some (.aw R),some (.int n),some (ai r)])->eu (fq (op2 dt (rd 0) (rd 1)) (b9 2)) g ⟨dE 3 [.aw R,.int n],[]⟩=some (.ok (.rt p),S0 [some (.aw R),some (.int n),some (ai r)]):=λh=>sq (aS (b2 rfl rfl a1) rfl) h
 cases r with
 | AL a b to =>
  obtain⟨⟨t1,t2⟩,t3⟩:=h0;have ss:VG [] (.lst [.int ((n:Int)+1),.int to])=some (.lst ((iO (lI (λj=>([(n:Int)+1,to]:List Int).getD j 0) 2)).map .int)):=by
   have e:VG [] (.lst [.int ((n:Int)+1),.int to])=(if(([(n:Int)+1,to]:List Int).length<=2/\([(n:Int)+1,to]:List Int).all (λn=>decide (0<=n/\n<64))=true)then some (PV.lst ((iO (lI (λj=>([(n:Int)+1,to]:List Int).getD j 0) 2)).map .int))else none):=rfl
   rw[e,if_pos ⟨by simp,by simp;lia⟩]
  have hl:=bh (gF (Er (lI (λj=>([(n:Int)+1,to]:List Int).getD j 0) 2))) (lJ _ 2)
  generalize iO (lI (λj=>([(n:Int)+1,to]:List Int).getD j 0) 2)=l at ss hl
  refine⟨l,λk=>gV (st (sq (iF (bT (b2 (b2 rfl rfl rfl) rfl (by kernel_rfl))) rfl) (sq (iF (bT (b2 (b2 rfl rfl rfl) rfl (by kernel_rfl))) rfl) (vP (iT (bT (b2 (b2 rfl rfl rfl) rfl (by kernel_rfl))) (rS (bV (cA (eB (lS (cA (b2 rfl rfl rfl) (cA (b2 rfl rfl rfl) rfl)) (by simp)) (show Option.map _ (VG [] (.lst [.int ((n:Int)+1),.int to]))=_ by rw[ss];rfl)) rfl) ?_))))))) ?_,hl,λz=>absurd rfl z⟩
  ·rfl
  ·exact tq l
 | go to=>exact⟨[to],λk=>gV (st (by kernel_rfl)) rfl,by simp,λz=>absurd rfl z⟩
 | eO x=>exact⟨[],λk=>gV (st (by kernel_rfl)) rfl,by simp,λz=>absurd rfl z⟩
 | fx b x s=>cases b<;>exact⟨[(n:Int)+1],λk=>gV (st (by kernel_rfl)) rfl,by simp,λ_=>rfl⟩
 | _=>exact⟨[(n:Int)+1],λk=>gV (st (by kernel_rfl)) rfl,by simp,λ_=>rfl⟩
theorem IH{fa fb:Gx PV}{gc:Gx Bool}{s:bJ}{b:Bool}{p q:PV}(h:Ev gc s b s)(h1:b=true->Ev fa s p s)(h2:b=false->Ev fb s q s):Ev (dc gc fa fb) s (if b then p else q) s:=by
 cases b with
 | true=>exact iT h (h1 rfl)
 | false=>exact iF h (h2 rfl)
def Jq:Rw->Sp
 | .put s o=>if hdS s then s else(match o with | .s s'=>s' | .n _=>s)
 | .set s _ _ _=>s
 | _=>⟨"",false,.bL⟩
def owP(s:Sp)(o:Op):Option Str:=if hdS s then(match o with | .s s'=>some s'.x | .n _=>none)else some s.x
def XX:Rw->Option Str
 | .put s o=>owP s o
 | _=>none
def S7:Option Str->PV
 | none=>.bL
 | some x=>.str x
theorem Wx(w:Option Str):noRef (S7 w)=true:=by cases w<;>rfl
def AU:Rw->Prop
 | .put s o=>hdS s=true\/∃s',o=.s s'
 | .set s _ _ _=>hdS s=true
 | _=>False
def S8(r:Rw):Prop:=∃s o,r=.put s o
section
variable {u:Str} {F:Fd} {i j:Nat} {r:Rw} (ok:jV F) (hi:F.rw[i]?=some r)
include ok hi
theorem Es(k:Nat)(hs:AU r):aL (run aX (k+2) "spot_of" [cJ u F i j] []) (bA (Jq r)):=by
 have a1:=vC hi [];have hh:∀o,aL (run aX (k+1) "is_held" [eU o] []) (.bl (tf o)):=λo=>⟨_,_,hZ k o,rfl⟩
 rw[xY]
 generalize run aX (k+1)=c at hh ⊢
 cases r with
 | put s o =>
  refine gV (Iv:=[some (cJ u F i j),some (ai (.put s o))]) (h':=[]) (sq (aS (b2 rfl rfl a1) rfl) (rS ?_)) (jZ _);have e:bA (Jq (.put s o))=if hdS s then bA s else eU o:=by
   show bA (if hdS s then s else _)=_
   cases hz:hdS s with
   | true=>rfl
   | false =>
    rcases hs with z | ⟨s',rfl⟩
    ·rw[hz]at z;cases z
    ·rfl
  rw[e];exact IH (tB (dy (as:=[bA s]) (cA (b2 rfl rfl rfl) rfl) rfl rfl (hh (.s s)))) (λ_=>b2 rfl rfl rfl) λ_=>b2 rfl rfl rfl
 | set s g a b =>
  refine gV (sq (aS (b2 rfl rfl a1) rfl) (rS (iT (tB (dy (as:=[bA s]) (cA (b2 rfl rfl rfl) rfl) rfl rfl (q:=.bl true) ?_)) (b2 rfl rfl rfl)))) (jZ _);have:=hh (.s s);rw[show tf (.s s)=true from hs]at this
  exact this
 | _=>exact hs.elim
theorem yc(k:Nat)(hs:AU r):aL (run aX (k+3) "holder_of" [cJ u F i j] []) (.str (Jq r).x):=by
 have hh:=Es (u:=u) (j:=j) ok hi k hs;rw[rK]
 generalize run aX (k+2)=c at hh ⊢
 exact gV (rS (b2 (dy (as:=[cJ u F i j]) (cA rfl rfl) rfl rfl hh) rfl rfl)) rfl
theorem qK(k:Nat)(hs:S8 r):aL (run aX (k+2) "owner_of" [cJ u F i j] []) (S7 (XX r)):=by
 have a1:=vC hi [];have hh:∀o,aL (run aX (k+1) "is_held" [eU o] []) (.bl (tf o)):=λo=>⟨_,_,hZ k o,rfl⟩
 rw[vy]
 generalize run aX (k+1)=c at hh ⊢
 obtain⟨s,o,rfl⟩:=hs;have t1:Ek (dc (jM (bnd (aj Qd (aP [])) (bD 0 1 (c "is_held")))) (op2 dt (rd 1) (kI 2)) Qd) (S0 [some (cJ u F i j),some (ai (.put s o)),none]) (if hdS s then eU o else bA s) :=
  IH (tB (dy (as:=[bA s]) (cA (b2 rfl rfl rfl) rfl) rfl rfl (hh (.s s)))) (λ_=>b2 rfl rfl rfl) λ_=>b2 rfl rfl rfl
 refine gV (Iv:=[some (cJ u F i j),some (ai (.put s o)),some (if hdS s then eU o else bA s)]) (h':=[]) (sq (aS (b2 rfl rfl a1) rfl) (sq (aS t1 rfl) (rS ?_))) (Wx _)
 show Ev _ _ (S7 (owP s o)) _;unfold owP;cases hdS s with
 | true =>
  cases o with
  | n x=>exact iF (tB (b:=false) rfl) rfl
  | s s'=>exact iT (tB (b:=true) rfl) (b2 rfl rfl rfl)
 | false=>exact iT (tB (b:=true) rfl) (b2 rfl rfl rfl)
end
theorem Et(r:Rw)(w:Option Str):∃b,(∀k,aL (run aX (k+1) "changes" [ai r,S7 w] []) (.bl b))/\(b=true->wc r=0):=by
 cases r with
 | fx b x s=>cases b<;>exact⟨false,λk=>⟨_,[],by cases w<;>kernel_rfl,rfl⟩,λz=>nomatch z⟩
 | AL a b to=>exact⟨false,λk=>⟨_,[],by cases w<;>kernel_rfl,rfl⟩,λz=>nomatch z⟩
 | go to=>exact⟨false,λk=>⟨_,[],by cases w<;>kernel_rfl,rfl⟩,λz=>nomatch z⟩
 | eO x=>exact⟨false,λk=>⟨_,[],by cases w<;>kernel_rfl,rfl⟩,λz=>nomatch z⟩
 | ju o=>exact⟨false,λk=>⟨_,[],by cases w<;>kernel_rfl,rfl⟩,λz=>nomatch z⟩
 | put s o=>exact⟨match w with | none=>false | some y=>s.x==y,λk=>⟨_,[],by cases w<;>kernel_rfl,rfl⟩,λ_=>rfl⟩
 | set s g a b=>exact⟨match w with | none=>false | some y=>s.x==y,λk=>⟨_,[],by cases w<;>kernel_rfl,rfl⟩,λ_=>rfl⟩
 | fill s o=>exact⟨match w with | none=>false | some y=>s.x==y,λk=>⟨_,[],by cases w<;>kernel_rfl,rfl⟩,λ_=>rfl⟩
 | AK s o=>exact⟨match w with | none=>false | some y=>s.x==y,λk=>⟨_,[],by cases w<;>kernel_rfl,rfl⟩,λ_=>rfl⟩
 | drop s=>exact⟨match w with | none=>false | some y=>s.x==y,λk=>⟨_,[],by cases w<;>kernel_rfl,rfl⟩,λ_=>rfl⟩
 | call x f a=>exact⟨match w with | none=>false | some y=>x==y,λk=>⟨_,[],by cases w<;>kernel_rfl,rfl⟩,λ_=>rfl⟩
 | Em s o=>exact⟨match w with | none=>false | some y=>(s.x==y) || ((o.x==y) || false),λk=>⟨_,[],by cases w<;>kernel_rfl,rfl⟩,λ_=>rfl⟩
theorem toT_ints(h:List ak)(l:List Int):toT h dU (.aw (l.map .int))=some (.aw (l.map .int)):=by
 have:∀l:List Int,bW (toT h 999) (l.map .int)=some (l.map .int):=by
  intro l;induction l with
  | nil=>rfl
  | cons x l ih=>rw[bz,bW,ih];rfl
 show(bW (toT h 999) (l.map .int)).bind _=_;rw[this];rfl
theorem Cf{u:Str}{F:Fd}{i j:Int}(ok:jV F):noRef (cJ u F i j)=true:=mj ok.toFdOk
section
variable {u:Str} {F:Fd} {i j n:Nat} {r q:Rw} (ok:jV F) (hn:F.rw[n]?=some q)
include ok hn
theorem II:∃b,(∀k,aL (run aX (k+2) "stands_by_way" [cJ u F i j,.int n] []) (.bl b))/\(b=true->wc q=2):=by
 obtain⟨l,h1,h2,h3⟩:=My ok hn;refine⟨if((decide ((i:Int)<=n)&&decide ((n:Int)<j))&&!eqT (.aw (l.map .int)) (.aw [.int ((n:Int)+1)]))then true else((l.map λm=>(decide ((i:Int)<m)&&decide (m<=(j:Int)))&&!(m==(n:Int)+1)).any id),λk=>?_,λhb=>?_⟩
 rotate_left
 ·by_cases hw:wc q=2
  ·exact hw
  ·rw[h3 hw]at hb;simp[eqT,rf]at hb
 have h1:=h1 k;rw[l7]
 generalize run aX (k+1)=c at h1 ⊢
 obtain⟨S1,hS⟩:∃S1,S1=S0 [some (cJ u F i j),some (.int n),some (.aw (l.map .int))]:=⟨_,rfl⟩
 have a1:Ev (fq (bnd (aj Qr Q0) (bD 0 2 (c "row_nexts"))) (b9 2)) ⟨dE 3 [cJ u F i j,.int n],[]⟩ .nx S1:=by
  rw[hS];exact aS (dy (as:=[.aw (F.rw.map ai),.int n]) (cA rfl (cA rfl rfl)) rfl (by simp[au,noRef,qH]) h1) rfl
 have t1:Ev (dc (toB (chain Pj Ph Ql (rd 1) Qw)) (toB (op2 Di (rd 2) (jX .aw (aj (op2 gQ (rd 1) (kI 1)) (aP []))))) (aP false)) S1 ((decide ((i:Int)<=n)&&decide ((n:Int)<j))&&!eqT (.aw (l.map .int)) (.aw [.int ((n:Int)+1)])) S1:=by
  rw[hS];have e:Di [] (.aw (l.map .int)) (.aw [.int ((n:Int)+1)])=some (.bl (!eqT (.aw (l.map .int)) (.aw [.int ((n:Int)+1)]))):=by
   show((Dh [] _ _).map _)=_;unfold Dh;rw[toT_ints];rfl
  have z:=bT (XW (g:=Pj) (g':=Ph) (fa:=g7 "i" (rd 0)) (fb:=rd 1) (fc:=g7 "j" (rd 0)) (s:=S0 [some (cJ u F i j),some (.int n),some (.aw (l.map .int))]) (x:=.int i) (y:=.int n) (z:=.int j) (a:=decide ((i:Int)<=n)) (b:=decide ((n:Int)<j)) rfl rfl rfl rfl rfl);cases hz:(decide ((i:Int)<=n)&&decide ((n:Int)<j))with
  | true=>rw[hz]at z;exact iT z (bT (b2 rfl (tU (cA (b2 rfl rfl rfl) rfl) (by simp)) e))
  | false=>rw[hz]at z;exact iF z rfl
 have t2:Ev (nP DU (aj (iM false [none,none,some 0,some 1] (lE (rd 2)) (Dv (b9 1) (Gn (chain Ph Pj (g7 "i" (rd 2)) (rd 1) (g7 "j" (rd 2))) (op2 Di (rd 1) (op2 gQ (rd 3) (kI 1)))))) (aP []))) S1 (.bl ((l.map λm=>(decide ((i:Int)<m)&&decide (m<=(j:Int)))&&!(m==(n:Int)+1)).any id)) S1:=by
  rw[hS];refine bV (cA (cM (l:=l) (e:=.int) (G:=λm=>.bl ((decide ((i:Int)<m)&&decide (m<=(j:Int)))&&!(m==(n:Int)+1))) (sV rfl rfl) (by lia) λm _=>L2.U.e1 rfl (aN (XW (x:=.int i) (y:=.int m) (z:=.int j) rfl rfl rfl rfl rfl) λ_=>b2 rfl (b2 rfl rfl rfl) rfl)) rfl) ?_
  have:=IF [] (l.map λm=>(decide ((i:Int)<m)&&decide (m<=(j:Int)))&&!(m==(n:Int)+1))
  rw[ku]at this;exact this
 cases hz:((decide ((i:Int)<=n)&&decide ((n:Int)<j))&&!eqT (.aw (l.map .int)) (.aw [.int ((n:Int)+1)]))with
 | true=>rw[hz]at t1;exact gV (sq a1 (vP (iT t1 (rS rfl)))) rfl
 | false=>rw[hz]at t1;exact gV (sq a1 (sq (iF t1 rfl) (rS t2))) rfl
end
theorem toT_strs(h:List ak):∀l:List Str,bW (toT h dU) (l.map .str)=some (l.map .str)
 | []=>rfl
 | x::l=>by rw[bz,bW,toT_strs h l];rfl
def XY(x:Str)(L:List Str):Bool:=(L.map Tr.str).any λy=>eqT y (.str x)
theorem Cg(h:List ak)(x:Str)(L:List Str):wN false h (.str x) (.lst (L.map .str))=some (.bl (XY x L)):=by
 show(((toT h dU (.str x)).bind λx=>(bW (toT h dU) (L.map .str)).map λys=>ys.any λy=>eqT y x).map _)=_
 rw[toT_strs];rfl
theorem Ci{h:List ak}{n:Nat}:∀ps:List PV,au ps=true->bW (m5 h n) ps=some ps
 | [],_=>rfl
 | p::ps,hp=>by
  simp only[au,aE]at hp;have e:m5 h n p=some p:=by cases n<;>(unfold m5;rw[if_pos hp.1])
  simp only[bW,e,Ci ps hp.2,ik,oX]
theorem vD{h:List ak}{n:Nat}{ps:List PV}(hc:h[n]?=some ⟨.lst,ps⟩)(hp:au ps=true):nU h (.ref n)=some (.lst ps):=by
 have hne:h.isEmpty=false:=by
  cases h with
  | nil=>simp at hc
  | cons a r=>rfl
 unfold nU;rw[hne,if_neg dg];unfold m5;rw[if_neg (by simp[noRef])]
 show((h[n]?).bind _)=_;rw[hc,ik];show(if live ⟨.lst,ps⟩=true then(bW (m5 h 3) ps).map (PV.nd .lst)else none)=_
 rw[if_pos (show live ⟨.lst,ps⟩=true from rfl),Ci ps hp]
 rfl
theorem vE:∀l:List Str,au (l.map .str)=true
 | []=>rfl
 | _::l=>vE l
theorem aaL(h:List ak)(d:Kn):∃w b,dt h (Jp d) (.int 0)=some (.str w)/\gM h (.str w) (.str "sole")=some (.bl b):=by
 cases d with
 | bg b=>cases b<;>exact⟨_,_,rfl,rfl⟩
 | ho w b=>exact⟨_,_,rfl,rfl⟩
def qp:Rw->Option Str
 | .fx false x _=>some x
 | .call x _ _=>some x
 | _=>none
theorem aaM(h:List ak)(q:Rw):∃w,dt h (ai q) (.int 0)=some (.str w)/\wN false h (.str w) (.aw [.str "lend",.str "call"])=some (.bl (qp q).isSome)/\∀x,qp q=some x->dt h (ai q) (.int 1)=some (.str x):=by
 cases q with
 | fx b x s=>cases b<;>exact⟨_,rfl,by kernel_rfl,λ_ e=>(by cases e<;>rfl)⟩
 | call x f a=>exact⟨_,rfl,by kernel_rfl,λ_ e=>by cases e;rfl⟩
 | _=>exact⟨_,rfl,by kernel_rfl,λ_ e=>by cases e⟩
def Mz:Rw->Option Sp
 | .fx _ _ s=>some s
 | _=>none
theorem aaN(h:List ak)(q:Rw):∃w,dt h (ai q) (.int 0)=some (.str w)/\wN false h (.str w) (.aw [.str "lend",.str "sole"])=some (.bl (Mz q).isSome)/\(∀s,Mz q=some s->dt h (ai q) (.int 2)=some (bA s))/\((Mz q).isSome=true->wc q=1):=by
 cases q with
 | fx b x s=>cases b<;>exact⟨_,rfl,by kernel_rfl,λ_ e=>(by cases e;rfl),λ_=>rfl⟩
 | _=>exact⟨_,rfl,by kernel_rfl,λ_ e=>(by cases e),λe=>(by cases e)⟩
theorem Wy(h:List ak)(x:Str)(w:Option Str):∃b,gM h (.str x) (S7 w)=some (.bl b):=by cases w<;>exact⟨_,rfl⟩
section
variable {u:Str} {F:Fd} {i j n:Nat} {r q:Rw} (ok:jV F) (hi:F.rw[i]?=some r) (hn:F.rw[n]?=some q)
include ok hi hn
theorem qL(hs:AU r)(hd:Dm F (Jq r).x):∃b,∀k,aL (run aX (k+5) "stands_named" [cJ u F i j,.int n] []) (.bl b):=by
 obtain⟨d,hd⟩:=hd;obtain⟨w,b,e1,e2⟩:=aaL [] d;obtain⟨w',f1,f2,f3⟩:=aaM [] q;obtain⟨x,hx⟩:∃x,x=(Jq r).x:=⟨_,rfl⟩
 refine⟨if(decide ((i:Int)<n)&&decide ((n:Int)<j))then(if b then XY x (RS q)else(qp q).isSome&&(match qp q with | some y=>y==x | none=>false))else false,λk=>?_⟩
 have h1:=yc (u:=u) (j:=j) ok hi (k+1) hs;have h2:=tm (k+3) u F i j n;have h3:=td (k+3) F (Jq r).x d hd ok.few;have h4:aL (run aX (k+4) "names_in" [ai q] []) (.lst ((RS q).map .str)):=⟨_,_,qG k q,vD rfl (vE _)⟩;rw[nh]
 generalize run aX (k+4)=c at h1 h2 h3 h4 ⊢
 rw[<-hx]at h1 h3;obtain⟨S1,hS⟩:∃S1,S1=S0 [some (cJ u F i j),some (.int n),some (.str x)]:=⟨_,rfl⟩
 have a1:Ev (fq (bnd Qo (bD 0 1 (c "holder_of"))) (b9 2)) ⟨dE 3 [cJ u F i j,.int n],[]⟩ .nx S1:=by
  rw[hS];exact aS (dy (as:=[cJ u F i j]) (cA rfl rfl) rfl rfl h1) rfl
 have t1:Ev (uQ (jM (bnd Qk (bD 0 2 (c "is_between"))))) S1 (!(decide ((i:Int)<n)&&decide ((n:Int)<j))) S1:=by
  rw[hS];exact nB (tB (dy (as:=[cJ u F i j,.int n]) (cA rfl (cA rfl rfl)) rfl rfl h2))
 cases hz:(decide ((i:Int)<n)&&decide ((n:Int)<j))with
 | false =>
  rw[hz]at t1;exact gV (sq a1 (vP (iT t1 (rS rfl)))) rfl
 | true =>
  rw[hz]at t1;have t2:Ev (toB (op2 gM (op2 dt (bnd (aj (g7 "function" (rd 0)) Qc) (bD 0 2 (c "kind_of"))) (kI 0)) (kS "sole"))) S1 b S1:=by
   rw[hS];exact bT (b2 (b2 (dy (as:=[dz F,.str x]) (cA rfl (cA rfl rfl)) rfl rfl h3) rfl e1) rfl e2)
  cases b with
  | true =>
   refine gV (sq a1 (sq (iF t1 rfl) (vP (iT t2 (rS (s1:=S1) ?_))))) rfl;rw[hS];exact b2 rfl (dy (as:=[ai q]) (cA (b2 rfl rfl (vC hn _)) rfl) rfl rfl h4) (Cg [] x (RS q))
  | false =>
   refine gV (sq a1 (sq (iF t1 rfl) (sq (iF t2 rfl) (rS (s1:=S1) ?_)))) rfl;rw[hS];refine aN (b2 (b2 (b2 rfl rfl (vC hn _)) rfl f1) rfl f2) λe=>?_
   cases hq:qp q with
   | none=>rw[hq]at e;cases e
   | some y=>exact b2 (b2 (b2 rfl rfl (vC hn _)) rfl (f3 y hq)) rfl rfl
theorem vF(hu:(u==("past":Str))=false)(hp:S8 r):∃b,(∀k,aL (run aX (k+3) "stands_changed" [cJ u F i j,.int n] []) (.bl b))/\(b=true->wc q=0):=by
 obtain⟨b,h3,h4⟩:=Et q (XX r);refine⟨(decide ((i:Int)<n)&&decide ((n:Int)<j))&&b,λk=>?_,λz=>h4 (gA.mp z).2⟩
 have h1:=qK (u:=u) (j:=j) ok hi k hp;have h2:=tm (k+1) u F i j n;have h3:=h3 (k+1);rw[kP]
 generalize run aX (k+2)=c at h1 h2 h3 ⊢
 refine gV (vP (iT (bT (b2 rfl rfl (z:=.bl true) ?_)) (rS (aN (dy (as:=[cJ u F i j,.int n]) (cA rfl (cA rfl rfl)) rfl rfl h2) λ_=>dy (as:=[ai q,S7 (XX r)]) (cA (b2 rfl rfl (vC hn _)) (cA (dy (as:=[cJ u F i j]) (cA rfl rfl) rfl rfl h1) rfl)) rfl rfl h3)))) rfl
 show some (PV.bl (!(u==("past":Str))))=_;rw[hu];rfl
theorem Eu(hp:S8 r):∃b,(∀k,aL (run aX (k+3) "stands_lent" [cJ u F i j,.int n] []) (.bl b))/\(b=true->wc q=1):=by
 obtain⟨w,f1,f2,f3,f4⟩:=aaN [] q;have h1:=λk=>qK (u:=u) (j:=j) ok hi k hp
 cases hq:Mz q with
 | none =>
  rw[hq]at f2;refine⟨false,λk=>?_,λz=>nomatch z⟩
  rw[iP];exact gV (rS (aN (a:=false) (b:=false) (b2 (b2 (b2 rfl rfl (vC hn _)) rfl f1) rfl f2) (λz=>nomatch z))) rfl
 | some s =>
  rw[hq]at f2 f4;obtain⟨b,hb⟩:=Wy [] s.x (XX r);refine⟨true&&b,λk=>?_,λ_=>f4 rfl⟩
  have h1:=h1 k;rw[iP]
  generalize run aX (k+2)=c at h1 ⊢
  exact gV (rS (aN (a:=true) (b2 (b2 (b2 rfl rfl (vC hn _)) rfl f1) rfl f2) λ_=>b2 (b2 (b2 (b2 rfl rfl (vC hn _)) rfl (f3 s hq)) rfl rfl) (dy (as:=[cJ u F i j]) (cA rfl rfl) rfl rfl h1) hb)) rfl
theorem Ew{s:Sp}(hs:Mx r=some s):∃b,∀k,aL (run aX (k+5) "stands_read" [cJ u F i j,.int n] []) (.bl b):=by
 refine⟨if du q&&(match Mx q with | some s'=>eP (.s s') (.s s) | none=>false)then(jU q).any (EO s.x)else XY s.x (RS q),λk=>?_⟩
 have x1:dt [] (ai r) (.int 1)=some (bA s):=by
  cases r<;>first | (cases hs;rfl) | cases hs
 have hp:=vB (k+3) q;have ho:aL (run aX (k+4) "operands" [ai q] []) (.lst ((jU q).map eU)):=⟨_,_,qJ (k+2) q,rfl⟩;have hz:∀o,aL (run aX (k+4) "names_of_spot" [eU o] []) (.lst ((EM o).map .str)):=λo=>⟨_,_,iQ (k+3) o,rfl⟩
 have h4:aL (run aX (k+4) "names_in" [ai q] []) (.lst ((RS q).map .str)):=⟨_,_,qG k q,vD rfl (vE _)⟩;rw[n5]
 generalize run aX (k+4)=c at hp ho hz h4 ⊢
 obtain⟨S1,hS⟩:∃S1,S1=S0 [some (cJ u F i j),some (.int n),some (ai q),none]:=⟨_,rfl⟩
 obtain⟨S2,Lx⟩:∃S2,S2=S0 [some (cJ u F i j),some (.int n),some (ai q),some (bA s)]:=⟨_,rfl⟩
 have a1:Ev (fq (op2 dt Qr (rd 1)) (b9 2)) ⟨dE 4 [cJ u F i j,.int n],[]⟩ .nx S1:=by
  rw[hS];exact aS (b2 rfl rfl (vC hn _)) rfl
 have a2:Ev (fq (op2 dt (op2 dt Qr Ql) (kI 1)) (b9 3)) S1 .nx S2:=by
  rw[hS,Lx];exact aS (b2 (b2 rfl rfl (vC hi _)) rfl x1) rfl
 have p1:Ev (jM (bnd Qc (bD 0 1 (c "puts_number")))) S2 (du q) S2:=by
  rw[Lx];exact tB (dy (as:=[ai q]) (cA rfl rfl) rfl rfl hp)
 have t3:Ev (op2 (wN false) (op2 dt (rd 3) (kI 0)) (bnd Qc (bD 0 1 (c "names_in")))) S2 (.bl (XY s.x (RS q))) S2:=by
  rw[Lx];exact b2 (b2 rfl rfl rfl) (dy (as:=[ai q]) (cA rfl rfl) rfl rfl h4) (Cg _ _ _)
 cases hq:du q with
 | false =>
  rw[hq]at p1;exact gV (sq a1 (sq a2 (sq (iF (iF p1 rfl) rfl) (rS t3)))) rfl
 | true =>
  rw[hq]at p1;obtain⟨s',x2,x3⟩:∃s',dt [] (ai q) (.int 1)=some (bA s')/\Mx q=some s':=by
   cases q<;>first | exact⟨_,rfl,rfl⟩ | cases hq
  rw[x3];show aL _ (.bl (if true&&eP (.s s') (.s s)then _ else _))
  have p2:Ev (toB (op2 gM Qn (rd 3))) S2 (eP (.s s') (.s s)) S2:=by
   rw[Lx];exact bT (b2 (b2 rfl rfl x2) rfl (IE _ (.s s') (.s s)))
  cases he:eP (.s s') (.s s)with
  | false =>
   rw[he]at p2;exact gV (sq a1 (sq a2 (sq (iF (iT p1 p2) rfl) (rS t3)))) rfl
  | true =>
   rw[he]at p2;refine gV (sq a1 (sq a2 (vP (iT (iT p1 p2) (rS (s1:=S2) ?_))))) rfl;rw[Lx];refine bV (cA (cM (l:=jU q) (e:=eU) (G:=λo=>.bl (EO s.x o)) (sV (dy (as:=[ai q]) (cA rfl rfl) rfl rfl ho) rfl) (by cases q<;>simp[jU]) λo _=>L2.U.e1 rfl (b2 (b2 rfl rfl rfl) (dy (as:=[eU o]) (cA rfl rfl) rfl rfl (hz o)) (NK _ _ o))) rfl) ?_
   have:=IF [] ((jU q).map (EO s.x));rw[ku]at this;rw[List.any_map]at this;exact this
end
inductive Ru where
 | again | gk | mY | back | eQ
def dA:Ru->Str
 | .again=>"again"
 | .gk=>"known"
 | .mY=>"over"
 | .back=>"back"
 | .eQ=>"unread"
def tu(R:Ru)(F:Fd)(i j:Nat)(r r':Rw):Bool:=match R with
 | .again=>S5 F i j r r'
 | .gk=>S6 F i j r r'
 | .mY=>RW i j r r'
 | .back=>XU F i j r r'
 | .eQ=>urR F i j r
theorem cF{fns:List (Str×Nat)}{c:CT}{ff:Gx PV}{ts:Gx (List PV)}{s s1 s2:bJ}{x:Str}{n:Nat}{as:List PV}{q:PV}(h:Ev ff s (.fn x) s1)(hx:fns.lookup x=some n)(ha:Ev ts s1 as s2)(hl:as.length=n)(hn:(s2.h.isEmpty || au as)=true)(hc:aL (c x as []) q):Ev (iN fns c ff ts) s q s2:=by
 obtain⟨p,h',h1,h2⟩:=hc;refine eB h (eB (a:=(x,n)) (s1:=s1) ?_ (eB ha ?_))
 ·show(((fns.lookup x).map λn=>(x,n)).map _)=_
  rw[hx];rfl
 ·unfold kG;rw[if_pos ⟨hl,hn⟩,h1];show(nU h' p).map _=_;rw[h2];rfl
theorem IJ(k:Nat){F:Fd}(ok:jV F){i j:Nat}{r r':Rw}(hi:F.rw[i]?=some r)(hj:F.rw[j]?=some r')(R:Ru):aL (run aX (k+6) "is_of_form" [cJ (dA R) F i j] []) (.bl (tu R F i j r r')):=by
 have d1:=(ok.at hi).1;have g1:=AQ (u:="again") (i:=i) (j:=j) ok.toFdOk (k+1) r r' d1.dm;have g2:=AS (u:="known") (i:=i) (j:=j) ok.toFdOk k r r' d1.dm;have g3:=Eo (u:="over") (i:=i) (j:=j) ok.toFdOk (k+2) r r';have g4:=En (u:="back") (i:=i) (j:=j) ok.toFdOk (k+1) r r' d1.dm;have g5:=yb (u:="unread") (i:=i) (j:=j) ok.toFdOk (k+2) r r' (by
  rintro s (⟨o,rfl⟩ | ⟨g,a,b,rfl⟩)
  ·exact d1.1.1
  ·exact d1.1)
 rw[qr]
 generalize run aX (k+5)=c at g1 g2 g3 g4 g5 ⊢
 have l1:i<F.rw.length:=(b6.mp hi).1;have l2:j<F.rw.length:=(b6.mp hj).1;have t1:∀u,Ek Qe (S0 [some (cJ u F i j)]) false:=λu=>by
  have:=Ww (fa:=toB (op2 Pl Ql Q1)) (fb:=toB (op2 Pl Qw Q1)) (s:=S0 [some (cJ u F i j)]) (s1:=S0 [some (cJ u F i j)]) (bT (b2 rfl (bV (cA rfl rfl) rfl) rfl)) λ_=>bT (b2 rfl (bV (cA rfl rfl) rfl) rfl)
  rwa [show(decide (((F.rw.map ai).length:Int)<=i) || decide (((F.rw.map ai).length:Int)<=j))=false by simp;lia]at this
 have a1:∀u:Str,Ek Q7 (S0 [some (cJ u F i j)]) [cJ u F i j,ai r,ai r']:=λu=>cA rfl (cA (b2 rfl rfl (vC hi _)) (cA (b2 rfl rfl (vC hj _)) rfl))
 cases R with
 | again=>exact gV (sq (iF (t1 _) rfl) (rS (cF (x:="is_again") (by kernel_rfl) (by kernel_rfl) (a1 _) rfl rfl g1))) rfl
 | gk=>exact gV (sq (iF (t1 _) rfl) (rS (cF (x:="is_known") (by kernel_rfl) (by kernel_rfl) (a1 _) rfl rfl g2))) rfl
 | mY=>exact gV (sq (iF (t1 _) rfl) (rS (cF (x:="is_over") (by kernel_rfl) (by kernel_rfl) (a1 _) rfl rfl g3))) rfl
 | back=>exact gV (sq (iF (t1 _) rfl) (rS (cF (x:="is_back") (by kernel_rfl) (by kernel_rfl) (a1 _) rfl rfl g4))) rfl
 | eQ=>exact gV (sq (iF (t1 _) rfl) (rS (cF (x:="is_unread") (by kernel_rfl) (by kernel_rfl) (a1 _) rfl rfl g5))) rfl
def bZ(Fs:List Fd):PV:=.aw (Fs.map dz)
def kT(u:Str)(at_ i j:Int):PV:=.aw [.str u,.int at_,.int i,.int j]
def fN(Fs:List Fd):Prop:=∀F∈Fs,jV F
theorem tx{Fs:List Fd}(h:fN Fs):noRef (bZ Fs)=true:=by
 show noRef (.nd .aw (Fs.map dz))=true;rw[noRef];induction Fs with
 | nil=>rfl
 | cons F Fs ih=>rw[bz,au,Cd (h F bQ).res,ih λG hG=>h G (bF _ hG)];rfl
theorem pA{cls flds:List Str}{f:Str}{fv fo:Gx PV}{s s1 s2 s3:bJ}{v o:PV}(hv:Ev fv s v s1)(ho:Ev fo s1 o s2)(h:QB cls flds f o v s2=some s3):Ev (u7 cls flds f fv fo) s .nx s3:=eB hv (eB ho (by show(QB cls flds f o v s2).map _=_;rw[h];rfl))
abbrev zC(P Q:PV)(ns:List Str)(vs:List PV):bJ:=⟨[some (.ref 0),some P,some Q],[⟨.ins "Case" ns,vs⟩]⟩
theorem AV{c:CT}{ts:Gx (List PV)}{s s1:bJ}{Fs:List Fd}{F:Fd}{at_:Nat}{u:Str}{i j:Int}(ok:jV F)(hF:Fs[at_]?=some F)(ha:Ev ts s [bZ Fs,kT u at_ i j] s1)(hn:(s1.h.isEmpty || au [bZ Fs,kT u at_ i j])=true):Ev (SQ "Case" 3 (Ip aX c "Case") ts) s (cJ u F i j) s1:=by
 have ix:∀h,dt h (bZ Fs) (.int at_)=some (dz F):=λh=>atI_nat (by rw[bK,hF];rfl)
 rw[Mr];obtain⟨P,hP⟩:∃P,P=bZ Fs:=⟨_,rfl⟩
 rw[<-hP]at ha ix hn;have e1:Ev (Iy c) ⟨dE 3 [.ref 0,P,kT u at_ i j],[⟨.ins "Case" [],[]⟩]⟩ .nx (zC P (kT u at_ i j) ["rule","function","rows","i","j"] [.str u,dz F,.aw (F.rw.map ai),.int i,.int j]) :=
  sq (s1:=zC P (kT u at_ i j) ["rule"] [.str u]) (pA (b2 rfl rfl rfl) rfl (by kernel_rfl)) <|
  sq (s1:=zC P (kT u at_ i j) ["rule","function"] [.str u,dz F]) (pA (b2 rfl (b2 rfl rfl rfl) (ix _)) rfl (by kernel_rfl)) <|
  sq (s1:=zC P (kT u at_ i j) ["rule","function","rows"] [.str u,dz F,.aw (F.rw.map ai)]) (pA (s1:=zC P (kT u at_ i j) ["rule","function"] [.str u,dz F]) (b2 (s1:=zC P (kT u at_ i j) ["rule","function"] [.str u,dz F]) (x:=dz F) (by kernel_rfl) rfl rfl) rfl (by kernel_rfl)) <|
  sq (s1:=zC P (kT u at_ i j) ["rule","function","rows","i"] [.str u,dz F,.aw (F.rw.map ai),.int i]) (pA (b2 rfl rfl rfl) rfl (by kernel_rfl)) <|
  pA (b2 rfl rfl rfl) rfl (by kernel_rfl)
 refine eB ha ?_;rw[if_pos ⟨rfl,hn⟩,aaE e1];show(m5 _ 4 (.ref 0)).map _=_;have e2:m5 [⟨.ins "Case" ["rule","function","rows","i","j"],[.str u,dz F,.aw (F.rw.map ai),.int i,.int j]⟩] 4 (.ref 0)=some (cJ u F i j):=by
  unfold m5;rw[if_neg (by simp[noRef])]
  show(bW (m5 _ 3) [.str u,dz F,.aw (F.rw.map ai),.int i,.int j]).map _=_;rw[Ci _ (by simp[au,noRef,Cd ok.res,qH])]
  rfl
 rw[e2];rfl
theorem Ex{len:Nat}{P:Nat->Bool->Prop}(h:∀n,n<len->∃b,P n b):∃st:Nat->Bool,∀n,n<len->P n (st n):=by
 refine⟨λn=>if hn:n<len then(h n hn).choose else false,λn hn=>?_⟩
 have:=(h n hn).choose_spec;simpa[hn]using this
abbrev Tk:=Str×Nat
def mq(t:Tk):PV:=.aw [.str t.1,.int t.2]
def ER(len:Nat)(st:Str->Nat->Bool)(a:Str):List Tk:=((List.range len).filter (st a)).map λn=>(a,n)
def vR(len:Nat)(st:Str->Nat->Bool)(as:List Str):List Tk:=as.flatMap (ER len st)
def vS:Ru->List Str
 | .mY=>["named","way"]
 | .eQ=>["read"]
 | _=>["changed","lent","named","way"]
def Ey(a:Str):Str:=((iH).lookup a).getD ""
theorem Wz(l:List Tk):bW DP (l.map mq)=some (l.map λt=>(t.1,[(t.2:Int)])):=by
 induction l with
 | nil=>rfl
 | cons t l ih=>rw[bz,bW,ih];rfl
theorem IK(len:Nat)(st:Str->Nat->Bool){as:List Str}(h:as.Nodup):(vR len st as).Nodup:=by
 unfold vR;refine List.pairwise_flatMap.mpr ⟨λa _=>?_,?_⟩
 ·unfold ER;rw[t5];refine((List.nodup_range (n:=len)).filter (st a)).imp λ{x y} hxy e=>hxy ?_
  exact(o7 e).2
 ·refine h.imp λ{a b} hab x hx y hy e=>hab ?_
  unfold ER at hx hy;obtain⟨n,_,rfl⟩:=di.mp hx;obtain⟨m,_,rfl⟩:=di.mp hy;exact(o7 e).1
theorem NM{p q s:Nat->Bool}:∀l:List Nat,(∀n∈l,¬(p n=true/\q n=true)/\¬(p n=true/\s n=true)/\¬(q n=true/\s n=true))->(l.filter p).length+(l.filter q).length+(l.filter s).length<=l.length
 | [],_=>az _
 | x::l,h=>by
  have ih:=NM l λn hn=>h n (bF _ hn)
  have hx:=h x bQ;simp only[List.filter_cons,dh];cases hp:p x<;>cases hq:q x<;>cases hs:s x<;>simp[hp,hq,hs]at hx ⊢ <;> lia
theorem tD(len:Nat)(p:Nat->Bool):((List.range len).filter p).length<=len:=bh (List.length_filter_le _ _) (by simp)
structure WA (R:Ru) (F:Fd) (i j:Nat) (st:Str->Nat->Bool):Prop where
 tell:∀a∈vS R,∀n,n<F.rw.length->∀k,aL (run aX (k+5) (Ey a) [cJ (dA R) F i j,.int n] []) (.bl (st a n))
 few:(vR F.rw.length st (vS R)).length<64
theorem Cj{F:Fd}{i j:Nat}{r r':Rw}{R:Ru}(hd:Ep F r)(h:tu R F i j r r'=true)(hR:R≠.eQ):AU r/\Dm F (Jq r).x:=by
 have put:∀s o,r=.put s o->(hdS s=true\/∃s',o=.s s')->AU r/\Dm F (Jq r).x:=by
  rintro s o rfl h
  refine⟨h,?_⟩;show Dm F (if hdS s then s else _).x
  cases hz:hdS s with
  | true=>exact hd.1.1
  | false =>
   rw[hz]at h;rcases h with h | ⟨s',rfl⟩
   ·cases h
   ·exact hd.2.1
 have ld:RV F r=true->AU r/\Dm F (Jq r).x:=λh=>by
  cases r with
  | put s o =>
   refine put s o rfl ?_;unfold RV at h;cases o with
   | n x=>simp[tf]at h
   | s s'=>exact .inr ⟨s',rfl⟩
  | _=>cases h
 have sd:Wv F r=true->AU r/\Dm F (Jq r).x:=λh=>by
  cases r with
  | put s o=>exact put s o rfl (.inl (gA.mp h).1)
  | _=>cases h
 cases R with
 | again=>simp only[tu,S5,aE]at h;exact ld h.2.1
 | gk=>simp only[tu,S6,aE]at h;exact sd h.2.1
 | back=>simp only[tu,XU,aE]at h;exact ld h.2.1
 | eQ=>exact absurd rfl hR
 | mY =>
  simp only[tu,RW,aE]at h;cases r with
  | put s o =>
   refine put s o rfl (.inl ?_);obtain⟨_,_,_,h⟩:=h;cases h2:Mx r' with
   | none=>rw[h2]at h;cases h
   | some s'=>rw[h2]at h;exact(gA.mp h).1
  | set s g a b =>
   obtain⟨_,_,_,h⟩:=h;cases h2:Mx r' with
   | none=>rw[h2]at h;cases h
   | some s'=>rw[h2]at h;exact⟨(gA.mp h).1,hd.1⟩
  | _=>simp[du]at h
theorem qM{F:Fd}{i j:Nat}{r r':Rw}{R:Ru}(h:tu R F i j r r'=true)(hR:R=.again\/R=.gk\/R=.back):S8 r:=by
 have ld:RV F r=true->S8 r:=λh=>by
  cases r with
  | put s o=>exact⟨s,o,rfl⟩
  | _=>cases h
 have sd:Wv F r=true->S8 r:=λh=>by
  cases r with
  | put s o=>exact⟨s,o,rfl⟩
  | _=>cases h
 rcases hR with rfl | rfl | rfl
 ·simp only[tu,S5,aE]at h;exact ld h.2.1
 ·simp only[tu,S6,aE]at h;exact sd h.2.1
 ·simp only[tu,XU,aE]at h;exact ld h.2.1
theorem WB{F:Fd}(ok:jV F){i j:Nat}{r r':Rw}(hi:F.rw[i]?=some r)(R:Ru)(h:tu R F i j r r'=true):∃st,WA R F i j st:=by
 obtain⟨rw,S9⟩:∃f:Nat->Rw,∀n,n<F.rw.length->F.rw[n]?=some (f n):=⟨λn=>F.rw.getD n (.go 0),λn hn=>by simp[hn]⟩
 have hd:=(ok.at hi).1;obtain⟨w,hw⟩:=Ex (len:=F.rw.length) λn hn=>II (u:=dA R) (i:=i) (j:=j) ok (S9 n hn)
 have dY:=ok.len;have aaO:∀st:Str->Nat->Bool,(vR F.rw.length st ["named","way"]).length<64:=λst=>by
  have a:=tD F.rw.length (st "named");have b:=tD F.rw.length (st "way");simp only[vR,ER,tZ,yX,cq,aJ,oZ]
  lia
 have RX:(R=.again\/R=.gk\/R=.back)->∃st,WA R F i j st:=λhR=>by
  have hu:(dA R==("past":Str))=false:=by rcases hR with rfl | rfl | rfl<;>decide
  have SU:vS R=[("changed":Str),("lent":Str),("named":Str),("way":Str)]:=by rcases hR with rfl | rfl | rfl<;>rfl
  obtain⟨h1,h2⟩:=Cj hd h (by rcases hR with rfl | rfl | rfl<;>(intro e;cases e))
  have hp:=qM h hR;obtain⟨m,hm⟩:=Ex (len:=F.rw.length) λn hn=>qL (u:=dA R) (j:=j) ok hi (S9 n hn) h1 h2
  obtain⟨c,hc⟩:=Ex (len:=F.rw.length) λn hn=>vF (u:=dA R) (j:=j) ok hi (S9 n hn) hu hp
  obtain⟨l,hl⟩:=Ex (len:=F.rw.length) λn hn=>Eu (u:=dA R) (j:=j) ok hi (S9 n hn) hp
  refine⟨λa=>if a="changed" then c else if a="lent" then l else if a="named" then m else w,?_,?_⟩
  ·rw[SU];intro a ha n hn k;simp only[aF,aQ,aU]at ha;rcases ha with rfl | rfl | rfl | rfl
   ·exact(hc n hn).1 (k+2)
   ·exact(hl n hn).1 (k+2)
   ·exact hm n hn k
   ·exact(hw n hn).1 (k+3)
  ·rw[SU];have t:=NM (p:=c) (q:=l) (s:=w) (List.range F.rw.length) λn hn=>by
    have hn:=dR.mp hn;have x1:=(hc n hn).2;have x2:=(hl n hn).2;have x3:=(hw n hn).2;refine⟨λ⟨a,b⟩=>?_,λ⟨a,b⟩=>?_,λ⟨a,b⟩=>?_⟩
    ·have:=x1 a;have:=x2 b;lia
    ·have:=x1 a;have:=x3 b;lia
    ·have:=x2 a;have:=x3 b;lia
   have a:=tD F.rw.length m;rw[gC]at t;simp only[vR,ER,tZ,yX,cq,aJ,oZ];show((List.range F.rw.length).filter c).length+(((List.range F.rw.length).filter l).length+(((List.range F.rw.length).filter m).length+(((List.range F.rw.length).filter w).length+0)))<64
   lia
 cases R with
 | again=>exact RX (.inl rfl)
 | gk=>exact RX (.inr (.inl rfl))
 | back=>exact RX (.inr (.inr rfl))
 | mY =>
  obtain⟨h1,h2⟩:=Cj hd h (by intro e;cases e)
  obtain⟨m,hm⟩:=Ex (len:=F.rw.length) λn hn=>qL (u:=dA .mY) (j:=j) ok hi (S9 n hn) h1 h2
  refine⟨λa=>if a="named" then m else w,?_,aaO _⟩
  intro a ha n hn k;simp only[vS,aF,aQ,aU]at ha;rcases ha with rfl | rfl
  ·exact hm n hn k
  ·exact(hw n hn).1 (k+3)
 | eQ =>
  have⟨s,hs⟩:∃s,Mx r=some s:=by
   simp only[tu,urR,aE]at h;cases r with
   | put s o=>exact⟨s,rfl⟩
   | set s g a b=>exact⟨s,rfl⟩
   | _=>simp[du]at h
  obtain⟨m,hm⟩:=Ex (len:=F.rw.length) λn hn=>Ew (u:=dA .eQ) (j:=j) ok hi (S9 n hn) hs
  refine⟨λ_=>m,?_,?_⟩
  ·intro a ha n hn k;simp only[vS,aF,aQ,aU]at ha;subst ha;exact hm n hn k
  ·have a:=tD F.rw.length m;simp only[vS,vR,ER,tZ,yX,cq,aJ,oZ]
   lia
theorem cN{link:List (Option Nat)}{fi:Gx BD}{bd:Bd}{s s1:bJ}{α:Type}{l:List α}{e G:α->PV}{p:α->Bool}(hi:Ev fi s (.sq (l.map e)) s1)(hl:l.length<=4000000)(hb:∀a∈l,bd (cf link s1.ρ) (e a) s1.h=some (if p a then some (G a)else none,s1.h)):Ev (iM false link fi bd) s (.lst ((l.filter p).map G)) s1:=eB hi (by
 have:∀l:List α,(∀a∈l,bd (cf link s1.ρ) (e a) s1.h=some (if p a then some (G a)else none,s1.h))->lD (bd (cf link s1.ρ)) (l.map e) s1.h=some ((l.filter p).map G,s1.h):=by
  intro l;induction l with
  | nil=>intro _;rfl
  | cons a l ih =>
   intro H;show(bd (cf link s1.ρ) (e a) s1.h).bind _=_;rw[H a bQ];show(lD (bd (cf link s1.ρ)) (l.map e) s1.h).map _=_;rw[ih λb hb=>H b (bF _ hb),List.filter_cons]
   cases p a<;>rfl
 show(if(l.map e).length<=ib then lD _ (l.map e) s1.h else none).bind _=_
 rw[if_pos (show(l.map e).length<=ib by rw[aJ];exact hl),this l hb]
 rfl)
theorem qN{ts:Gx (List PV)}{s s1:bJ}{n:Nat}(h:Ev ts s [.int n] s1)(hn:n<=4000000):Ev (Jm (u3 wU ts)) s (.sq ((List.range n).map λm:Nat=>.int (m:Int))) s1:=by
 refine sG (eB h ?_);have e:wU [.int n]=some ((List.range n).map λm:Nat=>.int (m:Int)):=by
  show(if Dw 0 n=true then some (mZ 0 ((n:Int)).toNat)else none)=_
  rw[if_pos (by unfold Dw;exact eK (by lia))]
  unfold mZ;simp
 show(wU [.int n]).map _=_;rw[e];rfl
theorem xT{f:Gx PV}{ts:Gx (List PV)}{s:bJ}{ρ:List (Option PV)}{h:List ak}{n:Nat}{ps qs:List PV}(hf:Ev f s (.ref n) ⟨ρ,h⟩)(ht:Ek ts ⟨ρ,h⟩ [.lst qs])(hc:h[n]?=some ⟨.lst,ps⟩)(hl:ps.length+qs.length<=4000000):Ev (qT "list" zS f ts) s .bL ⟨ρ,h.set n ⟨.lst,ps++qs⟩⟩:=by
 refine eB hf (eB (a:=()) (s1:=⟨ρ,h⟩) ?_ (eB ht ?_))
 ·show(((cm h (.ref n)).bind _).map _)=_;have:cm h (.ref n)=some (.lst,ps):=by
   show((h[n]?).bind _)=_;rw[hc];rfl
  rw[this];rfl
 ·show((jP h (.ref n)).bind _)=_;have:jP h (.ref n)=some (n,⟨.lst,ps⟩):=by
   show((h[n]?).bind _)=_;rw[hc];rfl
  rw[this];show(((if ps.length+qs.length<=ib then some (ps++qs)else none).map _).map _)=_
  rw[if_pos (show ps.length+qs.length<=ib from hl)]
  rfl
theorem IL(h:List ak){L:List PV}(hL:∀p∈L,∃t,p=mq t):gM h (.lst L) (.lst [])=some (.bl L.isEmpty):=by
 have:∀L:List PV,(∀p∈L,∃t,p=mq t)->∃ts,bW (toT h 999) L=some ts/\ts.isEmpty=L.isEmpty:=by
  intro L;induction L with
  | nil=>intro _;exact⟨[],rfl,rfl⟩
  | cons p L ih =>
   intro H;obtain⟨t,rfl⟩:=H p bQ;obtain⟨ts,h1,_⟩:=ih λq hq=>H q (bF _ hq)
   exact⟨.aw [.str t.1,.int t.2]::ts,by rw[bW,h1];rfl,rfl⟩
 obtain⟨ts,h1,h2⟩:=this L hL;have e:toT h dU (.lst L)=some (.lst ts):=by
  show(bW (toT h 999) L).bind _=_;rw[h1];rfl
 show(Dh h (.lst L) (.lst [])).map _=_;unfold Dh;rw[e];show some (PV.bl (eqT (.lst ts) (.lst [])))=_;rw[<-h2];cases ts<;>rfl
structure IM (R:Ru) (F:Fd) (i j:Nat) (r r':Rw) (L:List PV):Prop where
 form:L=[]->tu R F i j r r'=true
 el:∀p∈L,∃t,p=mq t
 tell:∀k (Fs:List Fd) (at_:Nat),Fs[at_]?=some F->aL (run aX (k+7) "against" [bZ Fs,kT (dA R) at_ i j] []) (.lst L)
theorem NN:∀{L:List PV},(∀p∈L,∃t,p=mq t)->au L=true
 | [],_=>rfl
 | p::L,h=>by
  obtain⟨t,rfl⟩:=h p bQ;rw[au,NN λq hq=>h q (bF _ hq)]
  rfl
abbrev S1(l:List (Option PV))(t:List PV):bJ:=⟨l,[⟨.lst,t⟩]⟩
theorem Ck{c:CT}{R:Ru}{F:Fd}{i j:Nat}{st:Str->Nat->Bool}(ok:jV F)(a b:Option PV):∀(as:List Str) (acc:List Tk) (o4 o5:Option PV),(∀x∈as,x∈vS R/\∀n,n<F.rw.length->aL (c (Ey x) [cJ (dA R) F i j,.int n] []) (.bl (st x n)))->acc.length+30*as.length<=1000 ->
   ∃o4' o5',dD (b9 4) (js c) (as.map .str) (S1 [a,b,some (cJ (dA R) F i j),some (.ref 0),o4,o5] (acc.map mq))=some (.ok .nx,S1 [a,b,some (cJ (dA R) F i j),some (.ref 0),o4',o5'] ((acc++vR F.rw.length st as).map mq))
 | [],acc,o4,o5,_,_=>⟨o4,o5,by simp[vR];rfl⟩
 | x::as,acc,o4,o5,h,hl=>by
  obtain⟨hx,hg⟩:=h x bQ;have dY:=ok.len;have hfl:=tD F.rw.length (st x);obtain⟨o4',o5',ih⟩:=Ck (R:=R) (st:=st) ok a b as (acc++ER F.rw.length st x) (some (.str x)) (some (.fn (Ey x))) (λy hy=>h y (bF _ hy)) (by simp only[ER,cq,aJ];simp at hl;lia)
  refine⟨o4',o5',?_⟩;rw[show acc++vR F.rw.length st (x::as)=(acc++ER F.rw.length st x)++vR F.rw.length st as by simp[vR]]
  have lk:(iH.lookup x).map PV.fn=some (.fn (Ey x))/\xS.lookup (Ey x)=some 2:=by
   cases R<;>simp only[vS,aF,aQ,aU]at hx
   case mY=>rcases hx with rfl | rfl<;>exact⟨by kernel_rfl,by kernel_rfl⟩
   case eQ=>subst hx;exact⟨by kernel_rfl,by kernel_rfl⟩
   all_goals (rcases hx with rfl | rfl | rfl | rfl<;>exact⟨by kernel_rfl,by kernel_rfl⟩)
  refine fC (s1:=S1 [a,b,some (cJ (dA R) F i j),some (.ref 0),some (.str x),o5] (acc.map mq)) (s2:=S1 [a,b,some (cJ (dA R) F i j),some (.ref 0),some (.str x),some (.fn (Ey x))] ((acc++ER F.rw.length st x).map mq)) rfl ?_ ih;unfold js;refine sq (s1:=S1 [a,b,some (cJ (dA R) F i j),some (.ref 0),some (.str x),some (.fn (Ey x))] (acc.map mq)) (aS (p:=.fn (Ey x)) (s1:=S1 [a,b,some (cJ (dA R) F i j),some (.ref 0),some (.str x),o5] (acc.map mq)) (eB (a:=.str x) (s1:=S1 [a,b,some (cJ (dA R) F i j),some (.ref 0),some (.str x),o5] (acc.map mq)) rfl ?_) rfl) ?_
  ·show(((iH.lookup x).map PV.fn).map _)=_;rw[lk.1];rfl
  have cp:Ek (iM false [none,none,some 2,some 4,some 5] Q4 (rh (b9 1) (jM (iN xS c (rd 4) Qv)) Qi)) (S1 [a,b,some (cJ (dA R) F i j),some (.ref 0),some (.str x),some (.fn (Ey x))] (acc.map mq)) (.lst (((List.range F.rw.length).filter (st x)).map λn=>mq (x,n))):=by
   refine cN (e:=λm:Nat=>.int (m:Int)) (qN (n:=F.rw.length) (cA (bV (cA rfl rfl) ?_) rfl) (by lia)) (by simp;lia) λn hn=>?_
   ·show some (PV.int (((F.rw.map ai).length:Nat):Int))=_;rw[aJ]
   have hn:=dR.mp hn;have t:=tB (cF (s:=⟨[none,some (.int n),some (cJ (dA R) F i j),some (.str x),some (.fn (Ey x))],[⟨.lst,acc.map mq⟩]⟩) (s1:=⟨[none,some (.int n),some (cJ (dA R) F i j),some (.str x),some (.fn (Ey x))],[⟨.lst,acc.map mq⟩]⟩) (s2:=⟨[none,some (.int n),some (cJ (dA R) F i j),some (.str x),some (.fn (Ey x))],[⟨.lst,acc.map mq⟩]⟩) (fns:=xS) (c:=c) (ff:=rd 4) (ts:=aj (rd 2) Q0) (as:=[cJ (dA R) F i j,.int n]) rfl lk.2 (cA rfl (cA rfl rfl)) rfl (by simp[au,noRef,Cf ok]) (hg n hn))
   cases hz:st x n with
   | true=>rw[hz]at t;exact e2T rfl t (tU (cA rfl (cA rfl rfl)) (by simp))
   | false=>rw[hz]at t;exact e2F rfl t
  have:=xT (f:=rd 3) (ts:=aj (iM false [none,none,some 2,some 4,some 5] Q4 (rh (b9 1) (jM (iN xS c (rd 4) Qv)) Qi)) (aP [])) (n:=0) (s:=S1 [a,b,some (cJ (dA R) F i j),some (.ref 0),some (.str x),some (.fn (Ey x))] (acc.map mq)) rfl (cA cp rfl) rfl (by simp only[aJ];simp at hl;lia)
  rw[show(acc++ER F.rw.length st x).map mq=acc.map mq++((List.range F.rw.length).filter (st x)).map λn=>mq (x,n) by simp[ER,Function.comp_def]]
  exact dS this
theorem Ez{F:Fd}(ok:jV F){i j:Nat}{r r':Rw}(hi:F.rw[i]?=some r)(hj:F.rw[j]?=some r')(R:Ru):∃L,IM R F i j r r' L:=by
 cases hf:tu R F i j r r' with
 | false =>
  refine⟨[mq ("form",i)],λz=>(nomatch z),λp hp=>⟨_,cH.mp hp⟩,λk Fs at_ hF=>?_⟩
  have hm:=IJ k ok hi hj R;rw[hf]at hm;rw[nF]
  generalize run aX (k+6)=c at hm ⊢
  exact gV (sq (aS (AV ok hF (cA rfl (cA rfl rfl)) rfl) rfl) (vP (iT (nB (tB (dy (as:=[cJ (dA R) F i j]) (cA rfl rfl) rfl rfl hm))) (rS (lS (cA (tU (cA rfl (cA rfl rfl)) (by simp)) rfl) (by simp)))))) rfl
 | true =>
  obtain⟨st,hs⟩:=WB ok hi R hf;have nd:(vS R).Nodup:=by cases R<;>decide
  refine⟨DQ ((vR F.rw.length st (vS R)).map mq),λ_=>hf,λp hp=>?_,λk Fs at_ hF=>?_⟩
  ·obtain⟨t,_,rfl⟩:=di.mp ((yN _ yn).mem_iff.mp hp);exact⟨t,rfl⟩
  have hm:=IJ k ok hi hj R;have ht:=λx hx n hn=>hs.tell x hx n hn (k+1)
  rw[hf]at hm;rw[nF]
  generalize run aX (k+6)=c at hm ht ⊢
  obtain⟨o4,o5,hl⟩:=Ck (c:=c) (R:=R) (i:=i) (j:=j) (st:=st) ok (some (bZ Fs)) (some (kT (dA R) at_ i j)) (vS R) [] none none (λx hx=>⟨hx,ht x hx⟩) (by cases R<;>simp[vS])
  have src:Ek (lE (rj (λk=>List.lookup k lX) (g7 "rule" (rd 2)))) (S1 [some (bZ Fs),some (kT (dA R) at_ i j),some (cJ (dA R) F i j),some (.ref 0),none,none] []) (.sq ((vS R).map .str)):=by
   generalize bZ Fs=P
   cases R<;>kernel_rfl
  have so:Ek (DR (rd 3)) (S1 [some (bZ Fs),some (kT (dA R) at_ i j),some (cJ (dA R) F i j),some (.ref 0),o4,o5] (([]++vR F.rw.length st (vS R)).map mq)) (.lst (DQ ((vR F.rw.length st (vS R)).map mq))):=by
   refine eB (a:=.ref 0) rfl ?_;have e:vi ((vR F.rw.length st (vS R)).map mq)=some (DQ ((vR F.rw.length st (vS R)).map mq)):=by
    unfold vi;rw[Wz];show(if _ then _ else _)=_
    refine if_pos ⟨?_,by rw[aJ];exact hs.few⟩
    show List.Pairwise (· ≠ ·) _;rw[t5];refine(IK F.rw.length st nd).imp λ{x y} hxy e=>hxy ?_
    have:=o7 e;have h2:=List.cons.inj this.2;exact Prod.ext this.1 (by lia)
   show(((some ((vR F.rw.length st (vS R)).map mq)).bind vi).map PV.lst).map _=_;rw[ik,e];rfl
  exact gV (sq (aS (AV ok hF (cA rfl (cA rfl rfl)) rfl) rfl) (sq (iF (nB (tB (dy (as:=[cJ (dA R) F i j]) (cA rfl rfl) rfl rfl hm))) rfl) (sq (aS (p:=.ref 0) (s1:=S1 [some (bZ Fs),some (kT (dA R) at_ i j),some (cJ (dA R) F i j),none,none,none] []) rfl rfl) (sq (fS src hl) (rS so))))) (NN λp hp=>by
   obtain⟨t,_,rfl⟩:=di.mp ((yN _ yn).mem_iff.mp hp);exact⟨t,rfl⟩)
theorem AW(ps:List PV)(q:Nat):iU ps none (some (q:Int))=ps.take q:=by
 unfold iU;rw[HT.og,HT.wm,List.drop_zero,Nat.sub_zero];by_cases h:q<=ps.length
 ·rw[y0 h]
 ·rw[Nat.min_eq_right (by lia),mx (by lia),mx (by lia)]
theorem qO(ps:List PV)(q:Nat):iU ps (some (q:Int)) none=ps.drop q:=by
 unfold iU;rw[HT.og,HT.wm];by_cases h:q<=ps.length
 ·rw[y0 h,mx (by simp)]
 ·rw[Nat.min_eq_right (by lia),List.drop_of_length_le (by lia),List.drop_of_length_le (by lia),List.take_nil]
theorem cE{fa:Gx PV}{fl fh:Gx (Option Int)}{s s1 s2 s3:bJ}{p q:PV}{l h:Option Int}(h1:Ev fa s p s1)(h2:Ev fl s1 l s2)(h3:Ev fh s2 h s3)(h4:Bu s3.h l h p=some q):Ev (cutE fa fl fh) s q s3:=eB h1 (eB h2 (eB h3 (by show(Bu s3.h l h p).map _=_;rw[h4];rfl)))
theorem pI{fv fo fi:Gx PV}{s s1 s2 s3 s4:bJ}{v o i:PV}(hv:Ev fv s v s1)(ho:Ev fo s1 o s2)(hi:Ev fi s2 i s3)(h:DE o i v s3=some s4):Ev (G7 fv fo fi) s .nx s4:=eB hv (eB ho (eB hi (by show(DE o i v s3).map _=_;rw[h];rfl)))
theorem RY{ρ:List (Option PV)}{ps:List PV}{n:Nat}{v:PV}(hn:n<ps.length):DE (.ref 0) (.int n) v (S1 ρ ps)=some (S1 ρ (ps.set n v)):=by
 show((EH ps.length n).map λj=>(⟨ρ,[⟨.lst,ps⟩].set 0 ⟨.lst,ps.set j v⟩⟩:bJ))=_
 rw[show EH ps.length n=some n by unfold EH;rw[if_pos (by lia),if_pos (by lia)];rfl]
 rfl
def AX(R:Ru)(i j:Nat)(r r':Rw):Nat×Rw:=match R with
 | .again=>(j,match r,r' with | .put s _,.put s' _=>.put s' (.s s) | _,_=>.go 0)
 | .gk=>(j,match r,r' with | .put _ o,.put s' _=>.put s' o | _,_=>.go 0)
 | .back=>(j,.go ((j:Int)+1))
 | _=>(i,.go ((i:Int)+1))
def Ta(R:Ru):Str:=((jG).lookup (dA R)).getD ""
def Fd.put(F:Fd)(n:Nat)(q:Rw):Fd:={F with rw:=F.rw.set n q}
section
variable {F:Fd} {i j:Nat} {r r':Rw} {R:Ru}
theorem RZ(k:Nat)(hi:F.rw[i]?=some r)(hj:F.rw[j]?=some r')(hf:tu R F i j r r'=true):aL (run aX (k+1) (Ta R) [cJ (dA R) F i j] []) (.lst [.aw [.int (AX R i j r r').1,ai (AX R i j r r').2]]):=by
 cases R with
 | again =>
  obtain⟨s,o,rfl⟩:=qM hf (.inl rfl);simp only[tu,S5,aE]at hf;cases r' with
  | put s' o' =>
   rw[show Ta .again="turn_again" by kernel_rfl,qu]
   exact gV (rS (lS (cA (tU (cA rfl (cA (tU (cA rfl (cA (b2 (b2 rfl rfl (vC hj _)) rfl rfl) (cA (b2 (b2 rfl rfl (vC hi _)) rfl rfl) rfl))) (by simp)) rfl)) (by simp)) rfl) (by simp))) (by simp[noRef,au,j0])
  | _=>simp[ya]at hf
 | gk =>
  obtain⟨s,o,rfl⟩:=qM hf (.inr (.inl rfl));simp only[tu,S6,aE]at hf;cases r' with
  | put s' o' =>
   rw[show Ta .gk="turn_known" by kernel_rfl,qw]
   exact gV (rS (lS (cA (tU (cA rfl (cA (tU (cA rfl (cA (b2 (b2 rfl rfl (vC hj _)) rfl rfl) (cA (b2 (b2 rfl rfl (vC hi _)) rfl rfl) rfl))) (by simp)) rfl)) (by simp)) rfl) (by simp))) (by simp[noRef,au,j0])
  | _=>simp[ya]at hf
 | mY=>exact⟨_,[],by kernel_rfl,rfl⟩
 | back=>exact⟨_,[],by kernel_rfl,rfl⟩
 | eQ=>exact⟨_,[],by kernel_rfl,rfl⟩
theorem WC(hi:F.rw[i]?=some r)(hj:F.rw[j]?=some r'):(AX R i j r r').1<F.rw.length:=by
 have a:=(b6.mp hi).1;have b:=(b6.mp hj).1;cases R<;>assumption
theorem yd(ok:jV F)(hi:F.rw[i]?=some r)(hj:F.rw[j]?=some r')(ag:IM R F i j r r' [])(k:Nat){Fs:List Fd}{at_:Nat}(hF:Fs[at_]?=some F)(hP:fN Fs)(hl:Fs.length<=1000):aL (run aX (k+8) "turned" [bZ Fs,kT (dA R) at_ i j] []) (bZ (Fs.set at_ (F.put (AX R i j r r').1 (AX R i j r r').2))):=by
 have hf:=ag.form rfl;have ha:=ag.tell k Fs at_ hF;have ht:=RZ (k+6) hi hj hf;have hn:=WC (R:=R) hi hj;have lk:(jG.lookup (dA R)).map PV.fn=some (.fn (Ta R))/\xS.lookup (Ta R)=some 1:=by cases R<;>exact⟨by kernel_rfl,by kernel_rfl⟩
 have nrr:=Cf (u:=dA R) (i:=i) (j:=j) ok;obtain⟨⟨n,q⟩,hnq⟩:∃z,z=AX R i j r r':=⟨_,rfl⟩
 rw[<-hnq]at ht hn ⊢;have lka:=hF;have Lz:=(b6.mp hF).1;have z6:noRef (bZ (Fs.set at_ (F.put n q)))=true:=by
  have h0:∀G∈Fs.set at_ (F.put n q),noRef G.res=true:=λG hG=>by
   rcases yv hG with h | rfl
   ·exact(hP G h).res
   ·exact ok.res
  show noRef (.nd .aw ((Fs.set at_ (F.put n q)).map dz))=true;rw[noRef]
  revert h0
  generalize Fs.set at_ (F.put n q)=l
  intro h0;induction l with
  | nil=>rfl
  | cons G l ih=>rw[bz,au,Cd (h0 G bQ),ih λH hH=>h0 H (bF _ hH)];rfl
 have gh:bZ (Fs.set at_ (F.put n q))=.aw ((Fs.map dz).take at_++[dz (F.put n q)]++(Fs.map dz).drop (at_+1)):=by
  unfold bZ;rw[List.map_set,List.set_eq_take_append_cons_drop,if_pos (by rw[aJ];exact Lz)]
  simp
 rw[Ay]
 generalize run aX (k+7)=c at ha ht ⊢
 have cs:=AV (c:=c) (u:=dA R) (i:=i) (j:=j) ok hF (ts:=aj (rd 0) Q0) (s:=S0 [some (bZ Fs),some (kT (dA R) at_ i j),some (.lst []),none,none,none,none,none]) (s1:=S0 [some (bZ Fs),some (kT (dA R) at_ i j),some (.lst []),none,none,none,none,none]) (cA rfl (cA rfl rfl)) rfl;rw[gh]at z6 ⊢;have e1:Bu [⟨.lst,(F.rw.map ai).set n (ai q)⟩] none (some (at_:Int)) (bZ Fs)=some (.aw ((Fs.map dz).take at_)):=by
  show some (PV.aw (iU (Fs.map dz) none (some (at_:Int))))=_;rw[AW]
 have e2:Bu [⟨.lst,(F.rw.map ai).set n (ai q)⟩] (some ((at_:Int)+1)) none (bZ Fs)=some (.aw ((Fs.map dz).drop (at_+1))):=by
  show some (PV.aw (iU (Fs.map dz) (some (((at_+1:Nat)):Int)) none))=_;rw[qO]
 have e3:dz (F.put n q)=.aw ([.str F.nm,.aw (F.ps.map iW),F.res,.aw (F.ls.map iW)]++[.aw ((F.rw.map ai).set n (ai q))]):=by
  unfold dz Fd.put;rw[List.map_set];rfl
 generalize bZ Fs=P at ha cs e1 e2 ⊢
 refine gV (Iv:=[some P,some (kT (dA R) at_ i j),some (.lst []),some (cJ (dA R) F i j),some (.ref 0),some (.int n),some (ai q),some (dz (F.put n q))]) (h':=[⟨.lst,(F.rw.map ai).set n (ai q)⟩]) (sq (aS (dy (as:=[P,kT (dA R) at_ i j]) (cA rfl (cA rfl rfl)) rfl rfl ha) rfl) (sq (iF (bT (b2 rfl (lS (ps:=[]) rfl (by simp)) rfl)) rfl) (sq (aS cs rfl) (sq (s1:=S1 [some P,some (kT (dA R) at_ i j),some (.lst []),some (cJ (dA R) F i j),some (.ref 0),none,none,none] (F.rw.map ai)) (aS (p:=.ref 0) rfl rfl) (sq (s1:=S1 [some P,some (kT (dA R) at_ i j),some (.lst []),some (cJ (dA R) F i j),some (.ref 0),some (.int n),some (ai q),none] ((F.rw.map ai).set n (ai q))) ?_ (sq (s1:=S1 [some P,some (kT (dA R) at_ i j),some (.lst []),some (cJ (dA R) F i j),some (.ref 0),some (.int n),some (ai q),some (dz (F.put n q))] ((F.rw.map ai).set n (ai q))) ?_ (rS ?_))))))) z6
 ·refine fS (s1:=S1 [some P,some (kT (dA R) at_ i j),some (.lst []),some (cJ (dA R) F i j),some (.ref 0),none,none,none] (F.rw.map ai)) (sV (cF (x:=Ta R) (s1:=S1 [some P,some (kT (dA R) at_ i j),some (.lst []),some (cJ (dA R) F i j),some (.ref 0),none,none,none] (F.rw.map ai)) (as:=[cJ (dA R) F i j]) (eB (a:=.str (dA R)) (s1:=S1 [some P,some (kT (dA R) at_ i j),some (.lst []),some (cJ (dA R) F i j),some (.ref 0),none,none,none] (F.rw.map ai)) (by kernel_rfl) ?_) lk.2 (cA rfl rfl) rfl (by simp[au,nrr]) ht) rfl) (fC (s1:=S1 [some P,some (kT (dA R) at_ i j),some (.lst []),some (cJ (dA R) F i j),some (.ref 0),some (.int n),some (ai q),none] (F.rw.map ai)) rfl (pI rfl rfl rfl (RY (by rw[aJ];exact hn))) rfl)
  show(((jG.lookup (dA R)).map PV.fn).map _)=_;rw[lk.1];rfl
 ·refine aS (p:=dz (F.put n q)) (s1:=S1 [some P,some (kT (dA R) at_ i j),some (.lst []),some (cJ (dA R) F i j),some (.ref 0),some (.int n),some (ai q),none] ((F.rw.map ai).set n (ai q))) (b2 (s1:=S1 [some P,some (kT (dA R) at_ i j),some (.lst []),some (cJ (dA R) F i j),some (.ref 0),some (.int n),some (ai q),none] ((F.rw.map ai).set n (ai q))) (cE (s1:=S1 [some P,some (kT (dA R) at_ i j),some (.lst []),some (cJ (dA R) F i j),some (.ref 0),some (.int n),some (ai q),none] ((F.rw.map ai).set n (ai q))) (p:=dz F) (q:=.aw [.str F.nm,.aw (F.ps.map iW),F.res,.aw (F.ls.map iW)]) (by kernel_rfl) rfl rfl rfl) (tU (cA (bV (cA rfl rfl) rfl) rfl) (by simp)) ?_) rfl
  rw[e3];exact aT (by simp)
 ·refine b2 (b2 (cE rfl rfl rfl e1) (tU (cA rfl rfl) (by simp)) (aT ?_)) (cE rfl rfl rfl e2) (aT ?_)
  ·simp;lia
  ·simp;lia
end
theorem Cm(o o':Op)(h:eP o' o=true):tf o'=tf o:=by
 cases o with
 | n i=>cases o' with
  | n j=>rfl
  | s s=>cases h
 | s s=>cases o' with
  | n j=>cases h
  | s s' =>
   obtain⟨x,t,a⟩:=s;obtain⟨x',t',a'⟩:=s';simp only[eP,Ce,AO,eqT,rf,aE,Bool.and_true]at h;obtain⟨_,h2,_,h4⟩:=h;rw[beq_iff_eq]at h2;subst h2;cases a<;>cases a'<;>first | rfl | simp[tat,eqT]at h4
def mz:Rw->Nat
 | .put _ o=>if tf o then 3 else 2
 | .set _ _ _ _=>2
 | _=>0
def R0(F:Fd):Nat:=(F.rw.map mz).sum
theorem Cn:∀(l:List Nat) (n a b:Nat),l[n]?=some a->b<a->(l.set n b).sum<l.sum
 | [],_,_,_,h,_=>by cases h
 | x::l,0,a,b,h,hb=>by
  simp at h;subst h;simp
  lia
 | x::l,n+1,a,b,h,hb=>by
  have:=Cn l n a b (by simpa using h) hb
  simp
  lia
section
variable {F:Fd} {i j:Nat} {r r':Rw} {R:Ru} (ok:jV F) (hi:F.rw[i]?=some r) (hj:F.rw[j]?=some r') (hf:tu R F i j r r'=true) (pi:du r=true) (pj:du r'=true)
include ok hi hj hf pi pj
theorem WD:Ep F (AX R i j r r').2/\∃q,F.rw[(AX R i j r r').1]?=some q/\mz (AX R i j r r').2<mz q:=by
 have d1:=(ok.at hi).1;have d2:=(ok.at hj).1;have ps:∀q,du q=true->0<mz q:=λq h=>by
  cases q with
  | put s o=>simp only[mz];split<;>lia
  | set=>exact uw _
  | _=>cases h
 cases R with
 | mY=>exact⟨trivial,r,hi,ps r pi⟩
 | eQ=>exact⟨trivial,r,hi,ps r pi⟩
 | back=>exact⟨trivial,r',hj,ps r' pj⟩
 | again =>
  obtain⟨s,o,rfl⟩:=qM hf (.inl rfl);simp only[tu,S5,RV,aE]at hf;obtain⟨_,⟨h1,h2⟩,h3,h4⟩:=hf;cases r' with
  | put s' o' =>
   refine⟨⟨d2.1,d1.1⟩,_,hj,?_⟩;have e:tf o'=true:=(Cm o o' h4).trans h2;have e2:tf (.s s)=false:=by
    show hdS s=false;unfold hdS;cases ht:s.t with
    | false=>rfl
    | true=>rw[d1.1.2 ht]at h1;cases h1
   show(if tf (.s s)then 3 else 2)<(if tf o' then 3 else 2)
   rw[e,e2];decide
  | _=>cases h3
 | gk =>
  obtain⟨s,o,rfl⟩:=qM hf (.inr (.inl rfl));simp only[tu,S6,Wv,aE]at hf;obtain⟨_,⟨h1,h2⟩,h3,h4⟩:=hf;cases r' with
  | put s' o' =>
   refine⟨⟨d2.1,d1.2⟩,_,hj,?_⟩;have e:tf o'=true:=(Cm (.s s) o' h4).trans h1;have e2:tf o=false:=by
    cases o with
    | n x=>rfl
    | s s2 =>
     show hdS s2=false;unfold hdS;cases ht:s2.t with
     | false=>rfl
     | true =>
      have z:EN F s2.x=true:=h2;rw[d1.2.2 ht]at z;cases z
   show(if tf o then 3 else 2)<(if tf o' then 3 else 2)
   rw[e,e2];decide
  | _=>cases h3
theorem R6:jV (F.put (AX R i j r r').1 (AX R i j r r').2)/\R0 (F.put (AX R i j r r').1 (AX R i j r r').2)<R0 F:=by
 obtain⟨h1,q,h2,h3⟩:=WD ok hi hj hf pi pj;refine⟨⟨⟨ok.few,ok.res⟩,ok.tre,by show(F.rw.set _ _).length<=30;rw[ip];exact ok.len,λx hx=>?_⟩,?_⟩
 ·rcases yv hx with h | rfl
  ·exact ok.rows x h
  ·exact h1
 ·show((F.rw.set _ _).map mz).sum<(F.rw.map mz).sum;rw[List.map_set];exact Cn _ _ (mz q) _ (by rw[bK,h2];rfl) h3
end
def fy(F:Fd)(n:Nat):Rw:=F.rw.getD n (.go 0)
def kY(F:Fd):List Nat:=(List.range F.rw.length).filter λn=>du (fy F n)
def ES:List Ru:=[.again,.gk,.mY,.back,.eQ]
abbrev tF:=Ru×Nat×Nat
def IP(i:Nat)(l:List Nat):List tF:=l.flatMap λj=>if i<=j then ES.map λR=>(R,i,j)else []
def IQ(F:Fd):List tF:=(kY F).flatMap λi=>IP i (kY F)
def cK(at_:Nat)(p:tF):PV:=kT (dA p.1) at_ p.2.1 p.2.2
theorem rw_at{F:Fd}{n:Nat}(h:n<F.rw.length):F.rw[n]?=some (fy F n):=by unfold fy;simp[h]
theorem MA(F:Fd):jl 0 (F.rw.map ai)=(List.range F.rw.length).map λn:Nat=>.aw [.int (n:Int),ai (fy F n)]:=by
 refine tY λi=>?_
 rw[jE,bK,bK];by_cases h:i<F.rw.length
 ·rw[rw_at h,oG h,kq];rfl
 ·rw[gz (by lia),gz (by rw[gC];lia)];rfl
theorem eV{fa:Gx PV}{s s1:bJ}{p:PV}{ps:List PV}(h:Ev fa s p s1)(hp:p6 p=some ps):Ev (Jm (BC fa)) s (.sq (jl 0 ps)) s1:=sG (eB h (by show((p6 p).map _).map _=_;rw[hp];rfl))
theorem WE(h:List ak)(r:Rw):∃w,dt h (ai r) (.int 0)=some (.str w)/\wN false h (.str w) (.aw [.str "put",.str "set"])=some (.bl (du r)):=by
 cases r with
 | fx b x s=>cases b<;>exact⟨_,rfl,by kernel_rfl⟩
 | _=>exact⟨_,rfl,by kernel_rfl⟩
theorem IS(at_:Nat):∀l:List tF,au (l.map (cK at_))=true
 | []=>rfl
 | _::l=>IS at_ l
theorem Co(i:Nat):∀l:List Nat,(IP i l).length<=5*l.length
 | []=>az _
 | j::l=>by
  have:=Co i l;have h5:(if i<=j then ES.map λR=>(R,i,j)else []).length<=5:=by split<;>simp[ES]
  unfold IP at this ⊢;rw[tZ,cq,dh]
  lia
abbrev Q6(F:Fd)(at_:Nat)(x4 x5:Option PV)(acc:List tF):bJ:=S1 [some (.aw (F.rw.map ai)),some (.int at_),some (.lst ((kY F).map λn:Nat=>.int (n:Int))),some (.ref 0),x4,x5] (acc.map (cK at_))
theorem IT(c:CT)(F:Fd)(at_ i:Nat):∀(l:List Nat) (acc:List tF) (x5:Option PV),acc.length+5*l.length<=1000000->∃EA,dD (b9 5) (ma c) (l.map λn:Nat=>.int (n:Int)) (Q6 F at_ (some (.int i)) x5 acc)=some (.ok .nx,Q6 F at_ (some (.int i)) EA (acc++IP i l))
 | [],acc,x5,_=>⟨x5,by simp[IP];rfl⟩
 | j::l,acc,x5,hl=>by
  simp only[dh]at hl;have t1:Ek (toB (op2 Pj (rd 4) (rd 5))) (Q6 F at_ (some (.int i)) (some (.int j)) acc) (decide ((i:Int)<=j)):=bT (b2 rfl rfl rfl);by_cases VR:i<=j
  ·obtain⟨EA,ih⟩:=IT c F at_ i l (acc++ES.map λR=>(R,i,j)) (some (.int j)) (by simp[ES];lia)
   refine⟨EA,fC (s1:=Q6 F at_ (some (.int i)) (some (.int j)) acc) (s2:=Q6 F at_ (some (.int i)) (some (.int j)) (acc++ES.map λR=>(R,i,j))) rfl ?_ ?_⟩
   ·rw[eK (by lia)]at t1
    refine iT t1 (dS (p:=.bL) ?_);rw[show(Q6 F at_ (some (.int i)) (some (.int j)) (acc++ES.map λR=>(R,i,j)))=S1 [some (.aw (F.rw.map ai)),some (.int at_),some (.lst ((kY F).map λn:Nat=>.int (n:Int))),some (.ref 0),some (.int i),some (.int j)] (acc.map (cK at_)++ES.map λR=>cK at_ (R,i,j)) by simp[Q6]]
    refine xT (n:=0) (ρ:=[some (.aw (F.rw.map ai)),some (.int at_),some (.lst ((kY F).map λn:Nat=>.int (n:Int))),some (.ref 0),some (.int i),some (.int j)]) (h:=[⟨.lst,acc.map (cK at_)⟩]) (ps:=acc.map (cK at_)) rfl (cA (cM (l:=ES) (e:=λR=>.str (dA R)) (G:=λR=>cK at_ (R,i,j)) (sV rfl rfl) (by simp[ES]) λR _=>L2.U.e1 rfl (tU (cA rfl (cA rfl (cA rfl (cA rfl rfl)))) (by simp))) rfl) rfl ?_
    simp[ES];lia
   ·rw[ih];simp[IP,VR]
  ·obtain⟨EA,ih⟩:=IT c F at_ i l acc (some (.int j)) (by lia)
   refine⟨EA,fC (s1:=Q6 F at_ (some (.int i)) (some (.int j)) acc) (s2:=Q6 F at_ (some (.int i)) (some (.int j)) acc) rfl ?_ ?_⟩
   ·rw[mF (by lia)]at t1
    exact iF t1 rfl
   ·rw[ih];simp[IP,VR]
theorem IU(c:CT)(F:Fd)(at_:Nat)(hp:(kY F).length<=30):∀(l:List Nat) (acc:List tF) (x4 x5:Option PV),acc.length+200*l.length<=100000->∃WG EA,dD (b9 4) (me c) (l.map λn:Nat=>.int (n:Int)) (Q6 F at_ x4 x5 acc)=some (.ok .nx,Q6 F at_ WG EA (acc++l.flatMap λi=>IP i (kY F)))
 | [],acc,x4,x5,_=>⟨x4,x5,by simp;rfl⟩
 | i::l,acc,x4,x5,hl=>by
  simp only[dh]at hl;have:=Co i (kY F);obtain⟨y5,h1⟩:=IT c F at_ i (kY F) acc x5 (by lia)
  obtain⟨WG,EA,ih⟩:=IU c F at_ hp l (acc++IP i (kY F)) (some (.int i)) y5 (by rw[cq];lia)
  refine⟨WG,EA,fC (s1:=Q6 F at_ (some (.int i)) x5 acc) (s2:=Q6 F at_ (some (.int i)) y5 (acc++IP i (kY F))) rfl (fS (sV rfl rfl) h1) ?_⟩;rw[ih];simp
theorem MB{F:Fd}(ok:jV F):(kY F).length<=30:=bh (tD _ _) ok.len
theorem IV(k:Nat){F:Fd}(ok:jV F)(at_:Nat):aL (run aX (k+1) "papers_to_try" [.aw (F.rw.map ai),.int at_] []) (.lst ((IQ F).map (cK at_))):=by
 have hl:=ok.len;have hp:=MB ok;rw[mh]
 generalize run aX k=c
 obtain⟨x4,x5,h⟩:=IU c F at_ hp (kY F) [] none none (by simp;lia)
 refine⟨.ref 0,_,lW (sq (s1:=S0 [some (.aw (F.rw.map ai)),some (.int at_),some (.lst ((kY F).map λn:Nat=>.int (n:Int))),none,none,none]) (aS (p:=.lst ((kY F).map λn:Nat=>.int (n:Int))) (s1:=S0 [some (.aw (F.rw.map ai)),some (.int at_),none,none,none,none]) (cN (l:=List.range F.rw.length) (e:=λn:Nat=>.aw [.int (n:Int),ai (fy F n)]) (p:=λn=>du (fy F n)) ?_ (by rw[gC];lia) λn hn=>?_) rfl) (sq (s1:=Q6 F at_ none none []) (aS (p:=.ref 0) (s1:=S1 [some (.aw (F.rw.map ai)),some (.int at_),some (.lst ((kY F).map λn:Nat=>.int (n:Int))),none,none,none] []) rfl rfl) (sq (fS (sV rfl rfl) h) (rS rfl)))),?_⟩
 ·rw[<-MA];exact eV rfl rfl
 ·obtain⟨w,h1,h2⟩:=WE [] (fy F n);have t:Ek (toB (op2 (wN false) (op2 dt (rd 2) (kI 0)) Qh)) (S0 [none,some (.int n),some (ai (fy F n))]) (du (fy F n)):=bT (b2 (b2 rfl rfl h1) (tU (cA rfl (cA rfl rfl)) (by simp)) h2)
  cases hz:du (fy F n)with
  | true=>rw[hz]at t;exact e2T rfl t rfl
  | false=>rw[hz]at t;exact e2F rfl t
 ·exact vD rfl (IS at_ _)
structure AY (F:Fd) (p:tF):Prop where
 li:p.2.1<F.rw.length
 lj:p.2.2<F.rw.length
 pi:du (fy F p.2.1)=true
 pj:du (fy F p.2.2)=true
 ag:IM p.1 F p.2.1 p.2.2 (fy F p.2.1) (fy F p.2.2) []
def Tb(F:Fd)(p:tF):Prop:=∃L,L≠[]/\IM p.1 F p.2.1 p.2.2 (fy F p.2.1) (fy F p.2.2) L
theorem Cp{F:Fd}{n:Nat}:n∈kY F↔n<F.rw.length/\du (fy F n)=true:=by unfold kY;rw[uh,dR]
theorem vG{F:Fd}{p:tF}:p∈IQ F↔p.2.1∈kY F/\p.2.2∈kY F/\p.2.1<=p.2.2:=by
 unfold IQ IP;constructor
 ·intro h;obtain⟨i,hi,h⟩:=mD.mp h;obtain⟨j,hj,h⟩:=mD.mp h;split at h
  ·obtain⟨R,_,rfl⟩:=di.mp h;exact⟨hi,hj,‹_›⟩
  ·cases h
 ·rintro⟨h1,h2,h3⟩
  obtain⟨R,i,j⟩:=p;refine mD.mpr ⟨i,h1,mD.mpr ⟨j,h2,?_⟩⟩;rw[if_pos h3];exact di.mpr ⟨R,by cases R<;>simp[ES],rfl⟩
theorem MC{F:Fd}(ok:jV F){p:tF}(hp:p∈IQ F):AY F p\/Tb F p:=by
 obtain⟨h1,h2,_⟩:=vG.mp hp;obtain⟨a1,a2⟩:=Cp.mp h1;obtain⟨b1,b2⟩:=Cp.mp h2;obtain⟨L,hL⟩:=Ez ok (rw_at a1) (rw_at b1) p.1;by_cases e:L=[]
 ·subst e;exact .inl ⟨a1,b1,a2,b2,hL⟩
 ·exact .inr ⟨L,e,hL⟩
def ET(F:Fd)(p:tF):Fd:=F.put (AX p.1 p.2.1 p.2.2 (fy F p.2.1) (fy F p.2.2)).1 (AX p.1 p.2.1 p.2.2 (fy F p.2.1) (fy F p.2.2)).2
theorem NO{F:Fd}(ok:jV F){p:tF}(g:AY F p):jV (ET F p)/\R0 (ET F p)<R0 F:=R6 ok (rw_at g.li) (rw_at g.lj) (g.ag.form rfl) g.pi g.pj
theorem MD{Fs:List Fd}(h:fN Fs)(a:Nat)(p:tF):au [bZ Fs,cK a p]=true:=by simp[au,tx h];rfl
theorem IW{Fs:List Fd}(h:fN Fs){F:Fd}(hF:jV F)(a:Nat):fN (Fs.set a F):=λG hG=>by
 rcases yv hG with h1 | rfl
 ·exact h G h1
 ·exact hF
theorem Cq{k:Nat}{F:Fd}{p:tF}{L:List PV}(ag:IM p.1 F p.2.1 p.2.2 (fy F p.2.1) (fy F p.2.2) L){Fs:List Fd}{a:Nat}(hF:Fs[a]?=some F):Ek (toB (op2 gM (bnd (aj (rd 0) Qc) (bD 0 2 (run aX (k+7) "against"))) Qj)) (S0 [some (bZ Fs),some (.int a),some (cK a p)]) L.isEmpty:=by
 have h:=ag.tell k Fs a hF;have e:=IL [] ag.el
 generalize run aX (k+7)=c at h ⊢
 exact bT (b2 (dy (as:=[bZ Fs,cK a p]) (cA rfl (cA rfl rfl)) rfl rfl h) (lS (ps:=[]) rfl (by simp)) e)
theorem Cr{F:Fd}:∀l:List tF,(∀p∈l,AY F p\/Tb F p) ->
  (∃p∈l,AY F p/\∀k (Fs:List Fd) (a:Nat) x,Fs[a]?=some F->dD (b9 2) (gg (run aX (k+7))) (l.map (cK a)) (S0 [some (bZ Fs),some (.int a),x])=some (.ok (.rt (cK a p)),S0 [some (bZ Fs),some (.int a),some (cK a p)])) \/
  ((∀p∈l,Tb F p)/\∀k (Fs:List Fd) (a:Nat) x,Fs[a]?=some F->∃x',dD (b9 2) (gg (run aX (k+7))) (l.map (cK a)) (S0 [some (bZ Fs),some (.int a),x])=some (.ok .nx,S0 [some (bZ Fs),some (.int a),x']))
 | [],_=>.inr ⟨λ_ h=>(nomatch h),λ_ _ _ x _=>⟨x,rfl⟩⟩
 | p::l,h=>by
  rcases h p bQ with g | b
  ·refine .inl ⟨p,bQ,g,λk Fs a x hF=>?_⟩
   exact fR (s1:=S0 [some (bZ Fs),some (.int a),some (cK a p)]) rfl (iT (Cq (k:=k) g.ag hF) (rS rfl))
  ·obtain⟨L,hL,ag⟩:=b;have st:∀k (Fs:List Fd) (a:Nat),Fs[a]?=some F->Ek (gg (run aX (k+7))) (S0 [some (bZ Fs),some (.int a),some (cK a p)]) .nx:=λk Fs a hF=>by
    have:=Cq (k:=k) ag hF;rw[show L.isEmpty=false by cases L with | nil=>exact absurd rfl hL | cons=>rfl]at this
    exact iF this rfl
   rcases Cr l λq hq=>h q (bF _ hq)with⟨q,hq,g,H⟩ | ⟨B,H⟩
   ·exact .inl ⟨q,bF _ hq,g,λk Fs a x hF=>fC (s1:=S0 [some (bZ Fs),some (.int a),some (cK a p)]) rfl (st k Fs a hF) (H k Fs a _ hF)⟩
   ·refine .inr ⟨λq hq=>?_,λk Fs a x hF=>?_⟩
    ·rcases aF.mp hq with rfl | hq
     ·exact⟨L,hL,ag⟩
     ·exact B q hq
    ·obtain⟨x',e⟩:=H k Fs a (some (cK a p)) hF;exact⟨x',fC (s1:=S0 [some (bZ Fs),some (.int a),some (cK a p)]) rfl (st k Fs a hF) e⟩
theorem AZ{F:Fd}(ok:jV F):(∃p∈IQ F,AY F p/\∀k (Fs:List Fd) (a:Nat),Fs[a]?=some F->aL (run aX (k+8) "good_paper" [bZ Fs,.int a] []) (cK a p))\/((∀p∈IQ F,Tb F p)/\∀k (Fs:List Fd) (a:Nat),Fs[a]?=some F->aL (run aX (k+8) "good_paper" [bZ Fs,.int a] []) .bL):=by
 have src:∀k (Fs:List Fd) (a:Nat),Fs[a]?=some F->Ek (lE (bnd (aj (op2 dt (op2 dt (rd 0) (rd 1)) (kI 4)) Q0) (bD 0 2 (run aX (k+7) "papers_to_try")))) (S0 [some (bZ Fs),some (.int a),none]) (.sq ((IQ F).map (cK a))):=λk Fs a hF=>by
  have h:=IV (k+6) ok a
  generalize run aX (k+7)=c at h ⊢
  exact sV (dy (as:=[.aw (F.rw.map ai),.int a]) (cA (b2 (b2 rfl rfl (atI_nat (by rw[bK,hF];rfl))) rfl rfl) (cA rfl rfl)) rfl rfl h) rfl
 rcases Cr (IQ F) λp hp=>MC ok hp with⟨p,hp,g,H⟩ | ⟨B,H⟩
 ·refine .inl ⟨p,hp,g,λk Fs a hF=>?_⟩
  rw[jt];exact gV (vP (fS (src k Fs a hF) (H k Fs a _ hF))) rfl
 ·refine .inr ⟨B,λk Fs a hF=>?_⟩
  obtain⟨x',e⟩:=H k Fs a none hF;rw[jt];exact gV (sq (fS (src k Fs a hF) e) (rS rfl)) rfl
theorem xA{f:Gx PV}{ts:Gx (List PV)}{s:bJ}{ρ:List (Option PV)}{h:List ak}{n:Nat}{ps:List PV}{q:PV}(hf:Ev f s (.ref n) ⟨ρ,h⟩)(ht:Ek ts ⟨ρ,h⟩ [q])(hc:h[n]?=some ⟨.lst,ps⟩)(hl:ps.length<4000000):Ev (qT "list" (gU (fm kF)) f ts) s .bL ⟨ρ,h.set n ⟨.lst,ps++[q]⟩⟩:=by
 refine eB hf (eB (a:=()) (s1:=⟨ρ,h⟩) ?_ (eB ht ?_))
 ·show(((cm h (.ref n)).bind _).map _)=_;have:cm h (.ref n)=some (.lst,ps):=by
   show((h[n]?).bind _)=_;rw[hc];rfl
  rw[this];rfl
 ·show((jP h (.ref n)).bind _)=_;have:jP h (.ref n)=some (n,⟨.lst,ps⟩):=by
   show((h[n]?).bind _)=_;rw[hc];rfl
  rw[this];show(((if ps.length<ib then some (ps++[q])else none).map _).map _)=_
  rw[if_pos (show ps.length<ib from hl)]
  rfl
abbrev Pq:=Nat×tF
def tH(q:Pq):PV:=cK q.1 q.2
inductive Ch:List Fd->List Pq->List Fd->Prop
 | nil {Gs:List Fd}:Ch Gs [] Gs
 | cons {Gs mr:List Fd} {F:Fd} {a:Nat} {p:tF} {ps:List Pq} (hF:Gs[a]?=some F) (hp:p∈IQ F) (g:AY F p) (h:Ch (Gs.set a (ET F p)) ps mr):Ch Gs ((a,p)::ps) mr
theorem Ch.append{A B C:List Fd}{ps qs:List Pq}(h:Ch A ps B)(h2:Ch B qs C):Ch A (ps++qs) C:=by
 induction h with
 | nil=>exact h2
 | cons hF hp g _ ih=>exact .cons hF hp g (ih h2)
def jv(F:Fd):Prop:=∀p∈IQ F,Tb F p
theorem wT{gc:Gx Bool}{body:Gx dn}{s s1 s2:bJ}{n:Nat}{r:Option (Rs dn×bJ)}(hc:Ev gc s true s1)(hb:Ev body s1 .nx s2)(h:gJ gc body n s2=r):gJ gc body (n+1) s=r:=eB hc (by rw[if_pos rfl];exact eB hb h)
theorem wF{gc:Gx Bool}{body:Gx dn}{s s1:bJ}{n:Nat}(hc:Ev gc s false s1):gJ gc body (n+1) s=some (.ok .nx,s1):=eB hc rfl
abbrev Q5(P:Option PV)(Gs:List Fd)(x3 x4:Option PV)(acc:List Pq):bJ:=S1 [P,some (bZ Gs),some (.ref 0),x3,x4] (acc.map tH)
theorem tw(k a:Nat)(P:Option PV):∀(m ve:Nat) (F:Fd) (Gs:List Fd) (acc:List Pq) (v:PV),R0 F<=m->m<ve->Gs[a]?=some F->fN Gs->Gs.length<=1000->acc.length+m<=1000000->aL (run aX (k+9) "good_paper" [bZ Gs,.int a] []) v ->
  ∃ps mr F',Ch Gs ps mr/\fN mr/\mr.length=Gs.length/\(∀b,b≠a->mr[b]?=Gs[b]?)/\mr[a]?=some F'/\jv F'/\ps.length<=m/\(∀q∈ps,q.1=a)/\gJ (toB (op2 GD (rd 4) (aP .bL))) (Az (run aX (k+9))) ve (Q5 P Gs (some (.int a)) (some v) acc)=some (.ok .nx,Q5 P mr (some (.int a)) (some .bL) (acc++ps))
 | m,0,_,_,_,_,_,h,_,_,_,_,_=>absurd h (uf _)
 | m,ve+1,F,Gs,acc,v,hm,hf,hF,hP,hl,ha,hv=>by
  have ok:=hP F (fO hF);rcases AZ ok with⟨p,hp,g,H⟩ | ⟨B,H⟩
  ·have e:v=cK a p:=by
    obtain⟨x,h1,h2,h3⟩:=hv;obtain⟨y,h4,h5,h6⟩:=H (k+1) Gs a hF;rw[h2]at h5;cases h5;rw[h3]at h6;exact bB h6
   subst e;obtain⟨n1,n2⟩:=NO ok g;have XD:(Gs.set a (ET F p))[a]?=some (ET F p):=by
    rw[j4 (b6.mp hF).1]
   have hP2:=IW hP n1 a;have tn:=yd ok (rw_at g.li) (rw_at g.lj) g.ag (k+1) hF hP hl;have WH:∃v2,aL (run aX (k+9) "good_paper" [bZ (Gs.set a (ET F p)),.int a] []) v2:=by
    rcases AZ n1 with⟨p2,_,_,H2⟩ | ⟨_,H2⟩
    ·exact⟨_,H2 (k+1) _ a XD⟩
    ·exact⟨_,H2 (k+1) _ a XD⟩
   obtain⟨v2,WH⟩:=WH;cases m with
   | zero=>lia
   | succ m =>
    obtain⟨ps,mr,F',c1,c2,c3,c4,c5,c6,c7,c8,c9⟩:=tw k a P m ve (ET F p) (Gs.set a (ET F p)) (acc++[(a,p)]) v2 (by lia) (by lia) XD hP2 (by rw[ip];exact hl) (by simp;lia) WH
    refine⟨(a,p)::ps,mr,F',.cons hF hp g c1,c2,by rw[c3,ip],λb hb=>by rw[c4 b hb,gB (cx hb)],c5,c6,by simp;lia,?_,?_⟩
    ·intro q hq;rcases aF.mp hq with rfl | hq
     ·rfl
     ·exact c8 q hq
    ·rw[show acc++(a,p)::ps=(acc++[(a,p)])++ps by simp]
     have hn:=MD hP a p;have SE:au [bZ (Gs.set a (ET F p)),.int a]=true:=by simp[au,tx hP2,noRef]
     generalize run aX (k+9)=c at tn WH c9 ⊢
     refine wT (s1:=Q5 P Gs (some (.int a)) (some (cK a p)) acc) (bT (b2 rfl rfl rfl)) ?_ c9;refine sq (s1:=Q5 P Gs (some (.int a)) (some (cK a p)) (acc++[(a,p)])) (dS (p:=.bL) ?_) (sq (s1:=Q5 P (Gs.set a (ET F p)) (some (.int a)) (some (cK a p)) (acc++[(a,p)])) (aS (dy (as:=[bZ Gs,cK a p]) (cA rfl (cA rfl rfl)) rfl (by rw[hn,Bool.or_true]) tn) rfl) (aS (dy (as:=[bZ (Gs.set a (ET F p)),.int a]) (cA rfl (cA rfl rfl)) rfl (by rw[SE,Bool.or_true]) WH) rfl))
     rw[show Q5 P Gs (some (.int a)) (some (cK a p)) (acc++[(a,p)])=S1 [P,some (bZ Gs),some (.ref 0),some (.int a),some (cK a p)] (acc.map tH++[cK a p]) by simp[Q5,tH]]
     exact xA (n:=0) (ρ:=[P,some (bZ Gs),some (.ref 0),some (.int a),some (cK a p)]) (h:=[⟨.lst,acc.map tH⟩]) (ps:=acc.map tH) rfl (cA rfl rfl) rfl (by rw[aJ];lia)
  ·have e:v=.bL:=by
    obtain⟨x,h1,h2,h3⟩:=hv;obtain⟨y,h4,h5,h6⟩:=H (k+1) Gs a hF;rw[h2]at h5;cases h5;rw[h3]at h6;exact bB h6
   subst e;exact⟨[],Gs,F,.nil,hP,rfl,λ_ _=>rfl,hF,B,eL _,λ_ h=>(nomatch h),by rw[fg];exact wF (bT (b2 rfl rfl rfl))⟩
theorem R7{F:Fd}(ok:jV F):R0 F<=90:=by
 have:∀l:List Rw,(l.map mz).sum<=3*l.length:=by
  intro l;induction l with
  | nil=>exact az _
  | cons r l ih =>
   have:mz r<=3:=by
    cases r with
    | put s o=>simp only[mz];split<;>lia
    | _=>simp[mz]
   simp
   lia
 have h:=this F.rw;have:=ok.len;unfold R0
 lia
theorem IX(k:Nat)(P:Option PV):∀(n a:Nat) (Gs:List Fd) (acc:List Pq) (x3 x4:Option PV),a+n=Gs.length->fN Gs->Gs.length<=1000->acc.length+90*n<=900000->(∀b,b<a->∃F,Gs[b]?=some F/\jv F) ->
  ∃ps mr R8 WG,Ch Gs ps mr/\fN mr/\mr.length=Gs.length/\(∀F∈mr,jv F)/\(∀q∈ps,q.1<Gs.length)/\ps.length<=90*n/\dD (b9 3) (AA (run aX (k+9))) ((List.range' a n).map λm:Nat=>.int (m:Int)) (Q5 P Gs x3 x4 acc)=some (.ok .nx,Q5 P mr R8 WG (acc++ps))
 | 0,a,Gs,acc,x3,x4,h,hP,hl,hk,hb=>⟨[],Gs,x3,x4,.nil,hP,rfl,λF hF=>by
   obtain⟨i,hi,rfl⟩:=oH hF;obtain⟨F',e,B⟩:=hb i (by lia)
   rw[b8 hi]at e;cases e;exact B,λ_ h=>(nomatch h),eL _,by rw[fg];rfl⟩
 | n+1,a,Gs,acc,x3,x4,h,hP,hl,hk,hb=>by
  obtain⟨F,hF⟩:∃F,Gs[a]?=some F:=⟨Gs[a]'(by lia),b8 _⟩
  have ok:=hP F (fO hF);obtain⟨v,hv⟩:∃v,aL (run aX (k+9) "good_paper" [bZ Gs,.int a] []) v:=by
   rcases AZ ok with⟨p2,_,_,H2⟩ | ⟨_,H2⟩
   ·exact⟨_,H2 (k+1) _ a hF⟩
   ·exact⟨_,H2 (k+1) _ a hF⟩
  obtain⟨ps,mr,F',c1,c2,c3,c4,c5,c6,c7,c8,c9⟩:=tw k a P 90 8000000 F Gs acc v (R7 ok) (by lia) hF hP hl (by lia) hv
  obtain⟨qs,Hs,y3,y4,d1,d2,d3,d4,d5,d6,d7⟩:=IX k P n (a+1) mr (acc++ps) (some (.int a)) (some .bL) (by lia) c2 (by lia) (by rw[cq];lia) (λb iC=>by
   by_cases e:b=a
   ·subst e;exact⟨F',c5,c6⟩
   ·rw[c4 b e];exact hb b (by lia))
  refine⟨ps++qs,Hs,y3,y4,c1.append d1,d2,by lia,d4,λq hq=>?_,by rw[cq];lia,?_⟩
  ·rcases fQ.mp hq with h | h
   ·rw[c8 q h];lia
   ·have:=d5 q h;lia
  ·rw[List.range'_succ,bz,<-oP];have SE:au [bZ Gs,.int a]=true:=by simp[au,tx hP,noRef]
   refine fC (s1:=Q5 P Gs (some (.int a)) x4 acc) (s2:=Q5 P mr (some (.int a)) (some .bL) (acc++ps)) rfl ?_ d7
   generalize run aX (k+9)=c at hv c9 ⊢
   exact sq (s1:=Q5 P Gs (some (.int a)) (some v) acc) (aS (dy (as:=[bZ Gs,.int a]) (cA rfl (cA rfl rfl)) rfl (by rw[SE,Bool.or_true]) hv) rfl) c9
theorem IY:∀l:List Pq,au (l.map tH)=true
 | []=>rfl
 | _::l=>IY l
theorem ye(k:Nat){Fs:List Fd}(hP:fN Fs)(hl:Fs.length<=1000):∃ps Gs,Ch Fs ps Gs/\fN Gs/\Gs.length=Fs.length/\(∀F∈Gs,jv F)/\(∀q∈ps,q.1<Fs.length)/\ps.length<=90*Fs.length/\aL (run aX (k+10) "turner" [bZ Fs] []) (.aw [bZ Gs,.lst (ps.map tH)]):=by
 obtain⟨ps,Gs,x3,x4,c1,c2,c3,c4,c5,c6,c7⟩:=IX k (some (bZ Fs)) Fs.length 0 Fs [] none none (by lia) hP hl (by simp;lia) (λb hb=>absurd hb (uf _))
 refine⟨ps,Gs,c1,c2,c3,c4,c5,c6,?_⟩;rw[AB];rw[<-List.range_eq_range']at c7
 generalize run aX (k+9)=c at c7 ⊢
 have hg:=tx c2;refine⟨.aw [bZ Gs,.ref 0],[⟨.lst,ps.map tH⟩],lW (Iv:=[some (bZ Fs),some (bZ Gs),some (.ref 0),x3,x4]) (sq (s1:=S0 [some (bZ Fs),some (bZ Fs),none,none,none]) (aS rfl rfl) (sq (s1:=Q5 (some (bZ Fs)) Fs none none []) (aS (p:=.ref 0) (s1:=S1 [some (bZ Fs),some (bZ Fs),none,none,none] []) rfl rfl) (sq (fS (qN (n:=Fs.length) (cA (bV (cA rfl rfl) ?_) rfl) (by lia)) c7) (rS (tU (cA rfl (cA rfl rfl)) (by simp)))))),?_⟩
 ·show some (PV.int (((Fs.map dz).length:Nat):Int))=_;rw[aJ]
 ·unfold nU;rw[if_neg (by simp)]
  unfold m5;rw[if_neg (by simp[noRef,au])]
  have e1:m5 [⟨.lst,ps.map tH⟩] 3 (bZ Gs)=some (bZ Gs):=by unfold m5;rw[if_pos hg]
  have e2:m5 [⟨.lst,ps.map tH⟩] 3 (.ref 0)=some (.lst (ps.map tH)):=by
   unfold m5;rw[if_neg (by simp[noRef])]
   show(bW (m5 _ 2) (ps.map tH)).map _=_;rw[Ci _ (IY ps)];rfl
  show(bW (m5 _ 3) [bZ Gs,.ref 0]).map _=_;simp only[bW,e1,e2,ik,oX]
theorem vH{α β:Type}{f:α->Option β}:∀{l:List α},(∀a∈l,∃b,f a=some b)->∃bs,bW f l=some bs
 | [],_=>⟨[],rfl⟩
 | a::l,h=>by
  obtain⟨b,h1⟩:=h a bQ;obtain⟨bs,h2⟩:=vH λc hc=>h c (bF _ hc)
  exact⟨b::bs,by rw[bW,h1,h2];rfl⟩
theorem jw{n:Nat}{ps:List PV}(h:∀p∈ps,dF n p):dF (n+1) (.aw ps):=λH=>by
 obtain⟨ts,e⟩:=vH (f:=toT H n) (l:=ps) λp hp=>h p hp H
 exact⟨.aw ts,by show(bW (toT H n) ps).bind _=_;rw[e];rfl⟩
theorem R9{n:Nat}{ps:List PV}(h:∀p∈ps,dF n p):dF (n+1) (.lst ps):=λH=>by
 obtain⟨ts,e⟩:=vH (f:=toT H n) (l:=ps) λp hp=>h p hp H
 exact⟨.lst ts,by show(bW (toT H n) ps).bind _=_;rw[e];rfl⟩
theorem A0{n:Nat}{x:Str}:dF (n+1) (.str x):=λ_=>⟨_,rfl⟩
theorem A1{n:Nat}{x:Int}:dF (n+1) (.int x):=λ_=>⟨_,rfl⟩
theorem NP{n:Nat}(s:Sp):dF (n+5) (bA s):=λ_=>by
 obtain⟨x,t,a⟩:=s;cases a<;>exact⟨_,rfl⟩
theorem WI{n:Nat}(o:Op):dF (n+5) (eU o):=by
 cases o with
 | n i=>exact A1
 | s s=>exact NP s
theorem WJ{n:Nat}(r:Rw):dF (n+6) (ai r):=by
 cases r with
 | call x f a=>exact λ_=>⟨_,rfl⟩
 | _ =>
  refine jw λp hp=>?_
  simp only[aF,aQ,aU]at hp;rcases hp with rfl | rfl | rfl | rfl | rfl<;>first | exact A0 | exact A1 | exact NP _ | exact WI _
theorem NQ{n:Nat}(q:Ky):dF (n+8) (iW q):=by
 refine jw λp hp=>?_
 simp only[aF,aQ,aU]at hp;rcases hp with rfl | rfl
 ·exact A0
 ·intro h
  generalize q.2=d
  cases d with
  | bg b=>cases b<;>exact⟨_,rfl⟩
  | ho w b=>cases b<;>exact⟨_,rfl⟩
theorem WK{n:Nat}{F:Fd}(ok:jV F):dF (n+11) (dz F):=by
 refine jw λp hp=>?_
 simp only[aF,aQ,aU]at hp;rcases hp with rfl | rfl | rfl | rfl | rfl
 ·exact A0
 ·exact jw λp hp=>by obtain⟨q,_,rfl⟩:=di.mp hp;exact NQ q
 ·exact ok.tre n
 ·exact jw λp hp=>by obtain⟨q,_,rfl⟩:=di.mp hp;exact NQ q
 ·exact jw λp hp=>by obtain⟨q,_,rfl⟩:=di.mp hp;exact WJ q
theorem NR{n:Nat}{Fs:List Fd}(h:fN Fs):dF (n+12) (bZ Fs):=jw λp hp=>by
 obtain⟨q,hq,rfl⟩:=di.mp hp;exact WK (h q hq)
theorem eq_self{p:PV}(h:dF dU p)(H:List ak):gM H p p=some (.bl true)/\Di H p p=some (.bl false):=by
 obtain⟨t,e⟩:=h H;have:Dh H p p=some true:=by unfold Dh;rw[e];show some (eqT t t)=_;rw[lu]
 exact⟨by show(Dh H p p).map _=_;rw[this];rfl,by show(Dh H p p).map _=_;rw[this];rfl⟩
theorem IZ{F:Fd}{p:tF}(g:AY F p)(b:Tb F p):False:=by
 obtain⟨L,hL,ag⟩:=b;obtain⟨x,h1,h2,h3⟩:=g.ag.tell 0 [F] 0 rfl;obtain⟨y,h4,h5,h6⟩:=ag.tell 0 [F] 0 rfl;rw[h2]at h5;cases h5;rw[h3]at h6;cases h6;exact hL rfl
theorem Ch.stuck{Gs mr:List Fd}{ps:List Pq}(h:Ch Gs ps mr)(b:∀F∈Gs,jv F):ps=[]/\mr=Gs:=by
 cases h with
 | nil=>exact⟨rfl,rfl⟩
 | cons hF hp g _=>exact(IZ g (b _ (fO hF) _ hp)).elim
theorem A2(k:Nat)(q:Pq):aL (run aX (k+2) "_law_is_paper" [tH q] []) (.bl true):=by
 obtain⟨a,R,i,j⟩:=q;cases R<;>exact⟨_,[],by kernel_rfl,rfl⟩
abbrev Q8(Gs:List Fd)(a:Nat)(F:Fd)(x5 x6 x7:Option PV):bJ:=S0 [some (bZ Gs),some (.int a),some (dz F),some (.aw (F.rw.map ai)),some (.lst ((kY F).map λn:Nat=>.int (n:Int))),x5,x6,x7]
section
variable {Gs:List Fd} {a:Nat} {F:Fd} (hF:Gs[a]?=some F) (B:jv F) (k:Nat)
include hF B
theorem I0{p:tF}(hp:p∈IQ F):∃L:List PV,L.isEmpty=false/\aL (run aX (k+7) "against" [bZ Gs,cK a p] []) (.lst L)/\gM [] (.lst L) (.lst [])=some (.bl false):=by
 obtain⟨L,hL,ag⟩:=B p hp;have e:L.isEmpty=false:=by cases L with | nil=>exact absurd rfl hL | cons=>rfl
 exact⟨L,e,ag.tell k Gs a hF,by rw[<-e];exact IL [] ag.el⟩
theorem WL{i j:Nat}(hi:i∈kY F)(hj:j∈kY F):∀(l:List Ru) (x7:Option PV),∃EB,dD (b9 7) (qz (run aX (k+7))) (l.map λR=>.str (dA R)) (Q8 Gs a F (some (.int i)) (some (.int j)) x7)=some (.ok .nx,Q8 Gs a F (some (.int i)) (some (.int j)) EB)
 | [],x7=>⟨x7,rfl⟩
 | R::l,x7=>by
  obtain⟨EB,ih⟩:=WL hi hj l (some (.str (dA R)));refine⟨EB,fC (s1:=Q8 Gs a F (some (.int i)) (some (.int j)) (some (.str (dA R)))) rfl ?_ ih⟩;have t:Ek (toB (op2 Zf (rd 6) (rd 5))) (Q8 Gs a F (some (.int i)) (some (.int j)) (some (.str (dA R)))) (decide ((i:Int)<j)):=bT (b2 rfl rfl rfl);by_cases h:i<j
  ·obtain⟨L,_,h1,h2⟩:=I0 hF B k (p:=(R,i,j)) (vG.mpr ⟨hi,hj,by show i<=j;lia⟩)
   rw[eK (by lia)]at t
   generalize run aX (k+7)=c at h1 ⊢
   exact iF (iT t (bT (b2 (dy (as:=[bZ Gs,cK a (R,i,j)]) (cA rfl (cA (tU (cA rfl (cA rfl (cA rfl (cA rfl rfl)))) (by simp)) rfl)) rfl rfl h1) (lS (ps:=[]) rfl (by simp)) h2))) rfl
  ·rw[mF (by lia)]at t
   exact iF (iF t rfl) rfl
theorem WM{i:Nat}(hi:i∈kY F):∀(l:List Nat) (x6 x7:Option PV),(∀j∈l,j∈kY F)->∃Sb EB,dD (b9 6) (qA (run aX (k+7))) (l.map λn:Nat=>.int (n:Int)) (Q8 Gs a F (some (.int i)) x6 x7)=some (.ok .nx,Q8 Gs a F (some (.int i)) Sb EB)
 | [],x6,x7,_=>⟨x6,x7,rfl⟩
 | j::l,x6,x7,h=>by
  obtain⟨y7,h1⟩:=WL hF B k hi (h j bQ) [.again,.gk,.mY,.back] x7;obtain⟨Sb,EB,ih⟩:=WM hi l (some (.int j)) y7 λq hq=>h q (bF _ hq)
  exact⟨Sb,EB,fC (s1:=Q8 Gs a F (some (.int i)) (some (.int j)) x7) rfl (fS (sV (lS (cA rfl (cA rfl (cA rfl (cA rfl rfl)))) (by simp)) rfl) h1) ih⟩
theorem WN:∀(l:List Nat) (x5 x6 x7:Option PV),(∀j∈l,j∈kY F)->∃EA Sb EB,dD (b9 5) (qB (run aX (k+7))) (l.map λn:Nat=>.int (n:Int)) (Q8 Gs a F x5 x6 x7)=some (.ok .nx,Q8 Gs a F EA Sb EB)
 | [],x5,x6,x7,_=>⟨x5,x6,x7,rfl⟩
 | i::l,x5,x6,x7,h=>by
  have hi:=h i bQ;obtain⟨y6,y7,h1⟩:=WM hF B k hi (kY F) x6 x7 λ_ h=>h
  obtain⟨EA,Sb,EB,ih⟩:=WN l (some (.int i)) y6 y7 λq hq=>h q (bF _ hq)
  obtain⟨L,_,g1,g2⟩:=I0 hF B k (p:=(.eQ,i,i)) (vG.mpr ⟨hi,hi,az _⟩);refine⟨EA,Sb,EB,fC (s1:=Q8 Gs a F (some (.int i)) x6 x7) (s2:=Q8 Gs a F (some (.int i)) y6 y7) rfl ?_ ih⟩
  generalize run aX (k+7)=c at h1 g1 ⊢
  exact sq (s1:=Q8 Gs a F (some (.int i)) x6 x7) (iF (bT (b2 (dy (as:=[bZ Gs,cK a (.eQ,i,i)]) (cA rfl (cA (tU (cA rfl (cA rfl (cA rfl (cA rfl rfl)))) (by simp)) rfl)) rfl rfl g1) (lS (ps:=[]) rfl (by simp)) g2)) rfl) (fS (sV rfl rfl) h1)
end
theorem WO(k:Nat)(Gs:List Fd)(hP:fN Gs):∀(l:List Fd) (a:Nat) (x:List (Option PV)),x.length=7->(∀n F,l[n]?=some F->Gs[a+n]?=some F/\jv F)->∃x':List (Option PV),dD (q9 2 (je (b9 1) (je (b9 2) wG))) (qC (run aX (k+7))) (jl a (l.map dz)) (S0 (some (bZ Gs)::x))=some (.ok .nx,S0 (some (bZ Gs)::x'))
 | [],a,x,_,_=>⟨x,rfl⟩
 | F::l,a,x,hx,h=>by
  obtain⟨x1,x2,x3,x4,x5,x6,x7,rfl⟩:∃x1 x2 x3 x4 x5 x6 x7,x=[x1,x2,x3,x4,x5,x6,x7]:=by
   rcases x with _ | ⟨x1,_ | ⟨x2,_ | ⟨x3,_ | ⟨x4,_ | ⟨x5,_ | ⟨x6,_ | ⟨x7,_ | _⟩⟩⟩⟩⟩⟩⟩<;>first | exact⟨_,_,_,_,_,_,_,rfl⟩ | (simp at hx)
  obtain⟨hF,B⟩:=h 0 F rfl;have ok:=hP F (fO hF);have hl:=ok.len;obtain⟨y5,y6,y7,h1⟩:=WN hF B k (kY F) x5 x6 x7 λ_ h=>h
  obtain⟨x',ih⟩:=WO k Gs hP l (a+1) [some (.int a),some (dz F),some (.aw (F.rw.map ai)),some (.lst ((kY F).map λn:Nat=>.int (n:Int))),y5,y6,y7] rfl (λn G hG=>by have:=h (n+1) G (by simpa using hG);rwa [show a+1+n=a+(n+1) by lia])
  refine⟨x',fC (s1:=S0 [some (bZ Gs),some (.int a),some (dz F),x3,x4,x5,x6,x7]) (s2:=Q8 Gs a F y5 y6 y7) rfl ?_ ih⟩;refine sq (s1:=S0 [some (bZ Gs),some (.int a),some (dz F),some (.aw (F.rw.map ai)),x4,x5,x6,x7]) (aS (b2 rfl rfl rfl) rfl) (sq (s1:=Q8 Gs a F x5 x6 x7) (aS (p:=.lst ((kY F).map λn:Nat=>.int (n:Int))) (s1:=S0 [some (bZ Gs),some (.int a),some (dz F),some (.aw (F.rw.map ai)),x4,x5,x6,x7]) (cN (l:=List.range F.rw.length) (e:=λn:Nat=>.int (n:Int)) (p:=λn=>du (fy F n)) (qN (n:=F.rw.length) (cA (bV (cA rfl rfl) ?_) rfl) (by lia)) (by rw[gC];lia) λn hn=>?_) rfl) (fS (sV rfl rfl) h1))
  ·show some (PV.int (((F.rw.map ai).length:Nat):Int))=_;rw[aJ]
  ·have hn:=dR.mp hn;obtain⟨w,e1,e2⟩:=WE [] (fy F n);have t:Ek (toB (op2 (wN false) (op2 dt (op2 dt (rd 2) (rd 1)) (kI 0)) Qh)) (S0 [none,some (.int n),some (.aw (F.rw.map ai))]) (du (fy F n)):=bT (b2 (b2 (b2 rfl rfl (vC (rw_at hn) _)) rfl e1) (tU (cA rfl (cA rfl rfl)) (by simp)) e2)
   cases hz:du (fy F n)with
   | true=>rw[hz]at t;exact e2T rfl t rfl
   | false=>rw[hz]at t;exact e2F rfl t
theorem yf(k:Nat){Gs:List Fd}(hP:fN Gs)(B:∀F∈Gs,jv F):aL (run aX (k+8) "_law_none_left" [bZ Gs] []) (.bl true):=by
 obtain⟨x',h⟩:=WO k Gs hP Gs 0 [none,none,none,none,none,none,none] rfl λn F hF=>⟨by rw[kq];exact hF,B F (fO hF)⟩
 rw[qD];exact gV (sq (fS (eV rfl rfl) h) (rS rfl)) rfl
theorem ME(k n:Nat)(P:PV)(fd:Option PV)(hn:∀h,nM h [P]=some (.int n)):∀{ps:List Pq} {Gs mr:List Fd},Ch Gs ps mr->fN Gs->Gs.length<=1000->(∀q∈ps,q.1<n)->∀x3,∃R8,dD (b9 3) (AI (run aX (k+9))) (ps.map tH) (S0 [some P,fd,some (bZ Gs),x3,none])=some (.ok .nx,S0 [some P,fd,some (bZ mr),R8,none]):=by
 intro ps Gs mr h;induction h with
 | nil=>intro _ _ _ x3;exact⟨x3,rfl⟩
 | @cons Gs mr F a p ps hF hp g h ih =>
  intro hP hl hq x3;have ok:=hP F (fO hF);have tn:=yd ok (rw_at g.li) (rw_at g.lj) g.ag (k+1) hF hP hl;have ha:=g.ag.tell (k+2) Gs a hF;have hi:=A2 (k+7) (a,p);obtain⟨R8,e⟩:=ih (IW hP (NO ok g).1 a) (by rw[ip];exact hl) (λq h=>hq q (bF _ h)) (some (cK a p))
  have dH:=hq (a,p) bQ
  generalize run aX (k+9)=c at tn ha hi e ⊢
  refine⟨R8,fC (s1:=S0 [some P,fd,some (bZ Gs),some (cK a p),none]) (s2:=S0 [some P,fd,some (bZ (Gs.set a (ET F p))),some (cK a p),none]) rfl ?_ e⟩;refine sq (s1:=S0 [some P,fd,some (bZ Gs),some (cK a p),none]) (iF (iF (s1:=S0 [some P,fd,some (bZ Gs),some (cK a p),none]) (nB (b:=true) (tB (dy (as:=[cK a p]) (cA rfl rfl) rfl rfl hi))) (iF (s1:=S0 [some P,fd,some (bZ Gs),some (cK a p),none]) (nB (b:=true) (bT ?_)) (bT (b2 (dy (as:=[bZ Gs,cK a p]) (cA rfl (cA rfl rfl)) rfl rfl ha) (lS (ps:=[]) rfl (by simp)) rfl)))) rfl) (aS (dy (as:=[bZ Gs,cK a p]) (cA rfl (cA rfl rfl)) rfl rfl tn) rfl)
  have:=XW (g:=Pj) (g':=Ph) (fa:=aP (.int 0)) (fb:=op2 dt (rd 3) (kI 1)) (fc:=nP nM Qo) (s:=S0 [some P,fd,some (bZ Gs),some (cK a p),none]) (x:=.int 0) (y:=.int a) (z:=.int n) (a:=decide ((0:Int)<=a)) (b:=decide ((a:Int)<n)) rfl (b2 rfl rfl rfl) rfl (bV (cA rfl rfl) (hn _)) rfl
  rwa [show(decide ((0:Int)<=a)&&decide ((a:Int)<n))=true by simp;lia]at this
theorem Cs(k:Nat){Fs:List Fd}(hP:fN Fs)(hl:Fs.length<=1000):aL (run aX (k+11) "_law_right" [bZ Fs] []) (.bl true):=by
 obtain⟨ps,Gs,c1,c2,c3,c4,c5,c6,c7⟩:=ye k hP hl;obtain⟨qs,Hs,d1,d2,d3,d4,d5,d6,d7⟩:=ye k c2 (by lia)
 obtain⟨e1,e2⟩:=d1.stuck c4;subst e1;rw[e2]at d7;clear e2 d1 d2 d3 d4 d5 d6;have nl:=yf (k+2) c2 c4;obtain⟨x3,lp⟩:=ME (k+1) Fs.length (bZ Fs) (some (.aw [bZ Gs,.lst (ps.map tH)])) (λh=>by show some (PV.int (((Fs.map dz).length:Nat):Int))=_;rw[aJ]) c1 hP hl c5 none
 obtain⟨s1,s2⟩:=eq_self (p:=bZ Gs) (NR (n:=988) c2) [];obtain⟨s3,_⟩:=eq_self (p:=.aw [bZ Gs,.lst []]) (jw (n:=999) λp hp=>by
  simp only[aF,aQ,aU]at hp;rcases hp with rfl | rfl
  ·exact NR (n:=987) c2
  ·exact λ_=>⟨_,rfl⟩) []
 rw[AJ]
 generalize run aX (k+10)=c at c7 d7 nl lp ⊢
 exact gV (sq (s1:=S0 [some (bZ Fs),some (.aw [bZ Gs,.lst (ps.map tH)]),none,none,none]) (aS (dy (as:=[bZ Fs]) (cA rfl rfl) rfl rfl c7) rfl) (sq (s1:=S0 [some (bZ Fs),some (.aw [bZ Gs,.lst (ps.map tH)]),none,none,none]) (iF rfl rfl) (sq (s1:=S0 [some (bZ Fs),some (.aw [bZ Gs,.lst (ps.map tH)]),some (bZ Fs),none,none]) (aS rfl rfl) (sq (fS (sV (b2 rfl rfl rfl) rfl) lp) (sq (s1:=S0 [some (bZ Fs),some (.aw [bZ Gs,.lst (ps.map tH)]),some (bZ Gs),x3,none]) (iF (iF (bT (b2 (b2 rfl rfl rfl) rfl s2)) (iF rfl (nB (b:=true) (tB (dy (as:=[bZ Gs]) (cA rfl rfl) rfl rfl nl))))) rfl) (sq (s1:=S0 [some (bZ Fs),some (.aw [bZ Gs,.lst (ps.map tH)]),some (bZ Gs),x3,some (.aw [bZ Gs,.lst []])]) (aS (dy (as:=[bZ Gs]) (cA rfl rfl) rfl rfl d7) rfl) (rS (aN (a:=true) (b:=true) (b2 rfl (tU (cA rfl (cA (lS (ps:=[]) rfl (by simp)) rfl)) (by simp)) s3) λ_=>rfl)))))))) rfl
theorem de{h:List ak}{i j:Int}(hj:0<j):iS h (.int i) (.int j)=some (.int (i%j)):=if_pos (eK hj)
theorem fH{h:List ak}{i j:Int}(hj:0<j/\j<1073741824):gR h (.int i) (.int j)=some (.int (i/j)):=if_pos (eK hj)
theorem EC{h:List ak}{i j:Int}(hj:(-pT<i/\i<pT)\/(-pT<j/\j<pT)):xN h (.int i) (.int j)=some (.int (i*j)):=if_pos hj
theorem Ct(h:List ak):Ku h (.int 10) (.int 30)=some (.int (10^30)):=by kernel_rfl
theorem pick(L:List PV)(m:Int)(h:0<L.length):∃p∈L,∀H:List ak,dt H (.lst L) (.int (m%(L.length:Int)))=some p:=by
 have hj0:=mG m (show(L.length:Int)≠0 by lia)
 have hj1:=tW m (show(0:Int)<(L.length:Int) by lia)
 obtain⟨j,hj⟩:=Int.eq_ofNat_of_zero_le hj0;have hjl:j<L.length:=by lia
 refine⟨L[j],yV hjl,λH=>?_⟩
 rw[hj];exact atI_nat (b8 hjl)
def cell(ns:List Int)(i:Nat):Int:=ns.getD i 0
theorem vI(k:Nat)(ns:List Int)(i:Nat):aL (run aX (k+1) "_law_cell_at" [dI ns,.int (i:Int)] []) (.int (cell ns i)):=by
 rw[vz];have ln:nM [] [dI ns]=some (.int (ns.length:Int)):=by
  show some (PV.int (((ns.map PV.int).length:Nat):Int))=_;rw[aJ]
 have t:Ek (toB (op2 Ph (rd 1) (nP nM Qo))) (S0 [some (dI ns),some (.int (i:Int))]) (decide ((i:Int)<(ns.length:Int))):=bT (b2 rfl (bV (cA rfl rfl) ln) rfl);by_cases h:i<ns.length
 ·rw[eK (by lia)]at t
  have ix:∀h,dt h (dI ns) (.int (i:Int))=some (.int (cell ns i)):=λ_=>atI_nat (by rw[bK,b8 h];simp[cell,h])
  exact gV (vP (iT t (rS (b2 rfl rfl (ix _))))) rfl
 ·rw[mF (by lia)]at t
  have:cell ns i=0:=by simp[cell,List.getD,gz (oS h)]
  rw[this];exact gV (sq (iF t rfl) (rS rfl)) rfl
def yg:Bg->Prop
 | .st n=>0<n
 | _=>True
theorem WQ(k:Nat)(C:Int):∃b,yg b/\aL (run aX (k+1) "_law_big" [.int C] []) (c0 b):=by
 obtain⟨p,hp,hx⟩:=pick [c0 .rn,c0 .ro,c0 (.st (1+C/4%8)),c0 .nu] C (by simp)
 obtain⟨b,hb,rfl⟩:∃b,yg b/\p=c0 b:=by
  simp only[aF,aQ,aU]at hp;rcases hp with rfl | rfl | rfl | rfl
  ·exact⟨.rn,trivial,rfl⟩
  ·exact⟨.ro,trivial,rfl⟩
  ·exact⟨.st _,by show(0:Int)<1+C/4%8;lia,rfl⟩
  ·exact⟨.nu,trivial,rfl⟩
 refine⟨b,hb,?_⟩;rw[IA];exact gV (Iv:=[some (.int C),some (.lst [c0 .rn,c0 .ro,c0 (.st (1+C/4%8)),c0 .nu])]) (h':=[]) (sq (aS (p:=.lst [c0 .rn,c0 .ro,c0 (.st (1+C/4%8)),c0 .nu]) (s1:=S0 [some (.int C),none]) (by kernel_rfl) rfl) (rS (b2 rfl (b2 rfl rfl (de (by decide))) (hx _)))) (nH (.bg b))
theorem jH(k:Nat)(x:Str)(h:List ak):run aX (k+1) "_law_plain" [.str x] h=some (.ok (bA ⟨x,false,.bL⟩),h):=by kernel_rfl
theorem kU(k:Nat)(x:Str)(t:Bool){b:Bg}(hb:yg b)(c:Int):∃s:Sp,s.x=x/\s.t=t/\aL (run aX (k+1) "_law_spot" [.str x,.bl t,c0 b,.int c] []) (bA s):=by
 cases b with
 | rn=>exact⟨⟨x,t,.idx (c%2)⟩,rfl,rfl,_,[],by kernel_rfl,rfl⟩
 | ro=>exact⟨⟨x,t,.idx (c%2)⟩,rfl,rfl,_,[],by kernel_rfl,rfl⟩
 | nu=>exact⟨⟨x,t,.bL⟩,rfl,rfl,_,[],by kernel_rfl,rfl⟩
 | st n =>
  refine⟨⟨x,t,.num (c%n)⟩,rfl,rfl,?_⟩;rw[Ec];exact gV (sq (iF (bT (b2 (b2 rfl rfl rfl) rfl (by kernel_rfl))) rfl) (vP (iT (bT (b2 (b2 rfl rfl rfl) rfl (by kernel_rfl))) (rS (tU (cA rfl (cA rfl (cA (tU (ps:=[]) rfl (by simp)) (cA (b2 rfl (b2 rfl rfl rfl) (de hb)) rfl)))) (by simp)))))) rfl
def EU(N:Nat->Str)(s:Sp):Prop:=(∃i,i<=7/\s.x=N i)/\(s.t=true->s.x=N 2)
def OpN(N:Nat->Str):Op->Prop
 | .n _=>True
 | .s s=>EU N s
def ox(N:Nat->Str):Rw->Prop
 | .put s o=>EU N s/\OpN N o
 | .set s _ _ _=>EU N s
 | .AL _ _ to=>0<=to/\to<64
 | _=>True
abbrev Ja(N:Nat->Str):List PV:=[.str (N 0),.str (N 1),.str (N 2),.str (N 3),.str (N 4),.str (N 5),.str (N 6),.str (N 7),.str (N 8),.str (N 9),.str (N 10),.str (N 11),.str (N 12)]
abbrev NC(N:Nat->Str):ak:=⟨.lst,Ja N⟩
abbrev Hs(N:Nat->Str)(rest:List ak)(l:List (Option PV)):bJ:=⟨l,NC N::rest⟩
abbrev pl(N:Nat->Str)(i:Nat):Sp:=⟨N i,false,.bL⟩
theorem ia(N:Nat->Str){i:Nat}(h:i<=7):EU N (pl N i):=⟨⟨i,h,rfl⟩,λz=>nomatch z⟩
theorem Cu{N:Nat->Str}{i:Nat}{s:Sp}(h:i<=7)(e:s.x=N i)(e2:s.t=false):EU N s:=⟨⟨i,h,e⟩,λz=>by rw[e2]at z;cases z⟩
theorem vJ{N:Nat->Str}{s:Sp}(e:s.x=N 2):EU N s:=⟨⟨2,by decide,e⟩,λ_=>e⟩
theorem Sd(k:Nat)(N:Nat->Str)(rest:List ak){b:Bg}(hb:yg b)(C K:Int)(hK:0<=K/\K<50):∃r,ox N r/\run aX (k+2) "_law_tame" [.ref 0,c0 b,.int C,.int K] (NC N::rest)=some (.ok (ai r),NC N::rest):=by
 obtain⟨s7,e1,e2,h7⟩:=kU k (N 7) false hb C;have nb:noRef (c0 b)=true:=nH (.bg b);obtain⟨n,hn⟩:∃n,n=C*982451653%10^30:=⟨_,rfl⟩
 obtain⟨L,hL⟩:∃L,L=[Rw.ju (.s (pl N 0)),.ju (.s (pl N 5)),.put (pl N 4) (.n n),.set (pl N 4) "*" (.s (pl N 5)) (.s (pl N 0)),.ju (.s ⟨N 6,true,.bL⟩),.go (K+1),.AL (.s (pl N 0)) (.n n) (K+1),.call "" (N 9) (N 6),.AK (pl N 4) (pl N 5),.put s7 (.n n),.ju (.s (pl N 4)),.ju (.s (pl N 3))]:=⟨_,rfl⟩
 have hLm:L.map ai=[ai (Rw.ju (.s (pl N 0))),ai (.ju (.s (pl N 5))),ai (.put (pl N 4) (.n n)),ai (.set (pl N 4) "*" (.s (pl N 5)) (.s (pl N 0))),ai (.ju (.s ⟨N 6,true,.bL⟩)),ai (.go (K+1)),ai (.AL (.s (pl N 0)) (.n n) (K+1)),ai (.call "" (N 9) (N 6)),ai (.AK (pl N 4) (pl N 5)),ai (.put s7 (.n n)),ai (.ju (.s (pl N 4))),ai (.ju (.s (pl N 3)))]:=by rw[hL];rfl
 obtain⟨p,hp,hx⟩:=pick (L.map ai) (C*48271%2147483647) (by rw[hL];simp)
 obtain⟨r,hr,rfl⟩:=di.mp hp;refine⟨r,?_,?_⟩
 ·rw[hL]at hr;simp only[aF,aQ,aU]at hr;rcases hr with rfl | rfl | rfl | rfl | rfl | rfl | rfl | rfl | rfl | rfl | rfl | rfl
  all_goals first | trivial | exact⟨ia N (by decide),trivial⟩ | exact ia N (by decide) | exact⟨by lia,by lia⟩ | exact⟨Cu (by decide) e1 e2,trivial⟩
 rw[Ed];rw[show((L.map ai).length:Int)=12 by rw[hL];rfl]at hx
 have pn:∀i:Nat,aL (run aX (k+1) "_law_plain" [.str (N i)] []) (bA (pl N i)):=λi=>⟨_,[],jH k (N i) [],rfl⟩
 generalize run aX (k+1)=c at h7 pn ⊢
 have w:∀(i:Nat) (s:bJ),Ev (op2 dt (rd 0) (aP (.int i))) s (.str (N i)) s->Ev (bnd (aj (op2 dt (rd 0) (aP (.int i))) (aP [])) (bD 0 1 (c "_law_plain"))) s (bA (pl N i)) s:=λi s h=>dy (as:=[.str (N i)]) (cA h rfl) rfl (by simp[au,noRef]) (pn i)
 refine lW (Iv:=[some (.ref 0),some (c0 b),some (.int C),some (.int K),some (.int n),some (bA (pl N 0)),some (bA (pl N 4)),some (bA (pl N 5)),some (.lst (L.map ai))]) ?_;refine sq (s1:=Hs N rest [some (.ref 0),some (c0 b),some (.int C),some (.int K),some (.int n),none,none,none,none]) (aS (p:=.int n) (b2 (b2 rfl rfl (EC (.inr (by decide)))) (b2 rfl rfl (Ct _)) (by rw[hn];exact de (by decide))) rfl) ?_
 refine sq (s1:=Hs N rest [some (.ref 0),some (c0 b),some (.int C),some (.int K),some (.int n),some (bA (pl N 0)),none,none,none]) (aS (w 0 _ rfl) rfl) ?_;refine sq (s1:=Hs N rest [some (.ref 0),some (c0 b),some (.int C),some (.int K),some (.int n),some (bA (pl N 0)),some (bA (pl N 4)),none,none]) (aS (w 4 _ rfl) rfl) ?_;refine sq (s1:=Hs N rest [some (.ref 0),some (c0 b),some (.int C),some (.int K),some (.int n),some (bA (pl N 0)),some (bA (pl N 4)),some (bA (pl N 5)),none]) (aS (w 5 _ rfl) rfl) ?_;refine sq (s1:=Hs N rest [some (.ref 0),some (c0 b),some (.int C),some (.int K),some (.int n),some (bA (pl N 0)),some (bA (pl N 4)),some (bA (pl N 5)),some (.lst ((L.map ai).take 5))]) (by rw[hLm];kernel_rfl) ?_
 refine sq (s1:=Hs N rest [some (.ref 0),some (c0 b),some (.int C),some (.int K),some (.int n),some (bA (pl N 0)),some (bA (pl N 4)),some (bA (pl N 5)),some (.lst ((L.map ai).take 9))]) (by rw[hLm];kernel_rfl) ?_
 refine sq (s1:=Hs N rest [some (.ref 0),some (c0 b),some (.int C),some (.int K),some (.int n),some (bA (pl N 0)),some (bA (pl N 4)),some (bA (pl N 5)),some (.lst (L.map ai))]) (aS (p:=.lst (L.map ai)) (b2 (y:=.lst [ai (.put s7 (.n n)),ai (.ju (.s (pl N 4))),ai (.ju (.s (pl N 3)))]) rfl (lS (cA (tU (cA rfl (cA (dy (as:=[.str (N 7),.bl false,c0 b,.int C]) (cA rfl (cA rfl (cA rfl (cA rfl rfl)))) rfl (by simp[au,noRef,nb]) h7) (cA rfl rfl))) (by simp)) (cA (tU (cA rfl (cA rfl rfl)) (by simp)) (cA (tU (cA rfl (cA (w 3 _ rfl) rfl)) (by simp)) rfl))) (by simp)) ?_) rfl) (rS (b2 rfl (b2 (b2 (b2 rfl rfl (EC (.inr (by decide)))) rfl (de (by decide))) rfl (de (by decide))) (hx _)))
 rw[hLm];kernel_rfl
theorem aW{fa fb:Gx PV}{s:bJ}{ρ:List (Option PV)}{h:List ak}{n:Nat}{ps qs:List PV}(ha:Ev fa s (.ref n) ⟨ρ,h⟩)(hb:Ek fb ⟨ρ,h⟩ (.lst qs))(hc:h[n]?=some ⟨.lst,ps⟩)(hl:ps.length+qs.length<=4000000):Ev (LZ 1 fa fb) s (.ref h.length) ⟨ρ,h++[⟨.lst,ps++qs⟩]⟩:=by
 refine eB ha (eB hb (eB (a:=ps++qs) (s1:=⟨ρ,h⟩) ?_ rfl));have e1:fA h (.ref n)=some ps:=by
  have:cm h (.ref n)=some (.lst,ps):=by
   show((h[n]?).bind _)=_;rw[hc];rfl
  unfold fA;rw[this]
 have e2:DZ h (.ref n) (.lst qs)=some (ps++qs):=by
  show((fA h (.ref n)).bind λxs=>(fA h (.lst qs)).bind λys=>_)=_
  rw[e1];exact if_pos (show ps.length+qs.length<=ib from hl)
 show(DZ h (.ref n) (.lst qs)).map _=_;rw[e2];rfl
theorem apE{f:Gx PV}{ts:Gx (List PV)}{s:bJ}{ρ:List (Option PV)}{h:List ak}{n:Nat}{L:List Rw}{r:Rw}(hf:Ev f s (.ref n) ⟨ρ,h⟩)(ht:Ek ts ⟨ρ,h⟩ [ai r])(hc:h[n]?=some ⟨.lst,L.map ai⟩)(hl:L.length<4000000):Ev (gr (qT "list" (gU (fm kF)) f ts)) s .nx ⟨ρ,h.set n ⟨.lst,(L++[r]).map ai⟩⟩:=by
 rw[gE];exact dS (xA hf ht hc (by rw[aJ];exact hl))
theorem oy{h:List ak}{n:Nat}{c d:ak}(e:h[n]?=some c):(h.set n d)[n]?=some d:=j4 (b6.mp e).1
theorem mm(h:List ak)(c:ak):(h++[c])[h.length]?=some c:=by simp
abbrev cL(l:List PV):ak:=⟨.lst,l⟩
theorem jI{a c:ak}{t:List ak}:(a::(t++[c]))[t.length+1]?=some c:=by simp
theorem Se{h:List ak}{n:Nat}{ps:List PV}(e:cm h (.ref n)=some (.lst,ps))(q:PV):dt h (.ref n) q=dt h (.lst ps) q:=by
 show(match cm h (.ref n)with | some (.aw,ps)=>(mX q).bind (qS ps) | some (.lst,ps)=>(mX q).bind (qS ps) | some (.iy t ks,ps)=>(gS t q).bind λk=>iK k ks ps | _=>none)=_
 rw[e];rfl
def jJ(w:Bool):Str:=if w then "sole" else "lent"
abbrev Cv(N:Nat->Str)(b:Bg)(w:Bool)(C M n:Int)(m:Sp)(k:Nat)(t:List ak):bJ:=Hs N t [some (.ref 0),some (c0 b),some (.str (jJ w)),some (.int C),some (.int M),some (.int n),some (bA (pl N 0)),some (bA (pl N 3)),some (bA (pl N 5)),some (bA m),some (.ref (k+1)),some (.str (Wu w))]
def Kp(r t:List ak):Prop:=∀i,i<r.length->t[i]?=r[i]?
theorem Kp.refl(r:List ak):Kp r r:=λ_ _=>rfl
theorem Kp.app{r t:List ak}(h:Kp r t)(hl:r.length<=t.length)(e:List ak):Kp r (t++e):=λi hi=>by rw[j3 (by lia),h i hi]
theorem Kp.set{r t:List ak}(h:Kp r t){m:Nat}(hm:r.length<=m)(c:ak):Kp r (t.set m c):=λi hi=>by rw[gB (by lia),h i hi]
theorem WR{f:Gx PV}{ts:Gx (List PV)}{s:bJ}{N:Nat->Str}{ρ:List (Option PV)}{t:List ak}{n:Nat}{L:List Rw}{r:Rw}(hf:Ev f s (.ref (n+1)) (Hs N t ρ))(ht:Ek ts (Hs N t ρ) [ai r])(hc:t[n]?=some ⟨.lst,L.map ai⟩)(hl:L.length<4000000):Ev (gr (qT "list" (gU (fm kF)) f ts)) s .nx (Hs N (t.set n ⟨.lst,(L++[r]).map ai⟩) ρ):=apE (n:=n+1) (h:=NC N::t) hf ht (by simpa using hc) hl
theorem Sf(k:Nat)(N:Nat->Str)(rest:List ak){b:Bg}(hb:yg b)(w:Bool)(C M:Int)(hM:0<M/\M<60):∃r t,ox N r/\Kp rest t/\run aX (k+2) "_law_wild" [.ref 0,c0 b,.str (jJ w),.int C,.int M] (NC N::rest)=some (.ok (ai r),NC N::t):=by
 obtain⟨m,m1,m2,hm⟩:=kU k (N 1) false hb C;obtain⟨t,t1,t2,ht⟩:=kU k (N 2) true hb C;obtain⟨u,u1,u2,hu⟩:=kU k (N 2) true hb (C/2);obtain⟨n,hn⟩:∃n,n=C*982451653%10^30:=⟨_,rfl⟩
 obtain⟨to,hto⟩:∃to,to=C*16807%2147483587%M:=⟨_,rfl⟩
 have aaS:0<=to/\to<64:=by rw[hto];exact⟨mG _ (by lia),by have:=tW (C*16807%2147483587) hM.1;lia⟩
 have pn:∀i:Nat,aL (run aX (k+1) "_law_plain" [.str (N i)] []) (bA (pl N i)):=λi=>⟨_,[],jH k (N i) [],rfl⟩
 have nb:noRef (c0 b)=true:=nH (.bg b);have e0:=Ee (k+1)
 generalize run aX (k+1)=c at hm ht hu pn e0
 have pw:∀(i:Nat) (s:bJ),Ev (op2 dt (rd 0) (aP (.int i))) s (.str (N i)) s->Ev (bnd (aj (op2 dt (rd 0) (aP (.int i))) (aP [])) (bD 0 1 (c "_law_plain"))) s (bA (pl N i)) s:=λi s h=>dy (as:=[.str (N i)]) (cA h rfl) rfl (by simp[au,noRef]) (pn i)
 obtain⟨L0,XZ⟩:∃L,L=[Rw.set (pl N 5) "+" (.s (pl N 5)) (.s (pl N 0)),.put (pl N 3) (.n n),.ju (.s t),.ju (.s m)]:=⟨_,rfl⟩
 obtain⟨L1,V1⟩:∃L,L=[Rw.put m (.n n),.fx w (N 2) (pl N 7)]:=⟨_,rfl⟩
 obtain⟨L2,Ma⟩:∃L,L=[Rw.fx false (N 6) (pl N 3),.drop (pl N 3),.AL (.s (pl N 0)) (.n n) to]:=⟨_,rfl⟩
 obtain⟨L3,Tc⟩:∃L,L=[Rw.Em (pl N 5) (pl N 3),.fx false (N 6) (pl N 5),.set (pl N 3) "-" (.s (pl N 0)) (.s (pl N 5))]:=⟨_,rfl⟩
 obtain⟨L4,hL4⟩:∃L,L=[Rw.call (N 3) (N 11) (N 5),.call (N 2) (N 12) (N 2)]:=⟨_,rfl⟩
 obtain⟨L5,hL5⟩:∃L,L=(match b with | .st _=>[Rw.ju (.s ⟨N 7,false,.El (N 5)⟩),.put ⟨N 1,false,.El (N 3)⟩ (.n n)] | _=>[]):=⟨_,rfl⟩
 obtain⟨L6,hL6⟩:∃L,L=(if w then [Rw.put u (.n n)]else []):=⟨_,rfl⟩
 have all:∀r∈L0++L1++L2++L3++L4++L5++L6,ox N r:=by
  intro r hr;simp only[fQ]at hr;rcases hr with(((((hr | hr) | hr) | hr) | hr) | hr) | hr
  ·rw[XZ]at hr;simp only[aF,aQ,aU]at hr;rcases hr with rfl | rfl | rfl | rfl<;>first | trivial | exact⟨ia N (by decide),trivial⟩ | exact ia N (by decide)
  ·rw[V1]at hr;simp only[aF,aQ,aU]at hr;rcases hr with rfl | rfl<;>first | trivial | exact⟨Cu (i:=1) (by decide) m1 m2,trivial⟩
  ·rw[Ma]at hr;simp only[aF,aQ,aU]at hr;rcases hr with rfl | rfl | rfl<;>first | trivial | exact aaS
  ·rw[Tc]at hr;simp only[aF,aQ,aU]at hr;rcases hr with rfl | rfl | rfl<;>first | trivial | exact ia N (by decide)
  ·rw[hL4]at hr;simp only[aF,aQ,aU]at hr;rcases hr with rfl | rfl<;>trivial
  ·rw[hL5]at hr;cases b<;>simp only[aF,aQ,aU]at hr
   rcases hr with rfl | rfl<;>first | trivial | exact⟨Cu (i:=1) (by decide) rfl rfl,trivial⟩
  ·rw[hL6]at hr;cases w
   ·cases hr
   ·rw[if_pos rfl]at hr;rw[cH]at hr;subst hr;exact⟨vJ u1,trivial⟩
 have l0:L0.length=4:=by rw[XZ];rfl
 have l1:L1.length=2:=by rw[V1];rfl
 have l2:L2.length=3:=by rw[Ma];rfl
 have l3:L3.length=3:=by rw[Tc];rfl
 have l4:L4.length=2:=by rw[hL4];rfl
 have l5:L5.length<=2:=by rw[hL5];cases b<;>simp
 have l6:L6.length<=1:=by rw[hL6];cases w<;>simp
 obtain⟨L,hL⟩:∃L,L=L0++L1++L2++L3++L4++L5++L6:=⟨_,rfl⟩
 rw[<-hL]at all;have lL:0<L.length:=by rw[hL];simp;lia
 obtain⟨p,hp,hx⟩:=pick (L.map ai) (C*48271%2147483647) (by rw[aJ];exact lL)
 obtain⟨r,hr,rfl⟩:=di.mp hp;have A3:Ms c ⟨dE 12 [.ref 0,c0 b,.str (jJ w),.int C,.int M],NC N::rest⟩=Mt c (Cv N b w C M n m ((((rest++[cL (L0.map ai)])++[cL ((L0.map ai++L1.map ai))])++[cL ((L0.map ai++L1.map ai++L2.map ai))])++[cL ((L0.map ai++L1.map ai++L2.map ai++L3.map ai))]).length (((((rest++[cL (L0.map ai)])++[cL ((L0.map ai++L1.map ai))])++[cL ((L0.map ai++L1.map ai++L2.map ai))])++[cL ((L0.map ai++L1.map ai++L2.map ai++L3.map ai))])++[cL ((L0.map ai++L1.map ai++L2.map ai++L3.map ai++L4.map ai))])):=by
  refine sq (s1:=Hs N rest [some (.ref 0),some (c0 b),some (.str (jJ w)),some (.int C),some (.int M),some (.int n),none,none,none,none,none,none]) (aS (p:=.int n) (b2 (b2 rfl rfl (EC (.inr (by decide)))) (b2 rfl rfl (Ct _)) (by rw[hn];exact de (by decide))) rfl) ?_
  refine sq (s1:=Hs N rest [some (.ref 0),some (c0 b),some (.str (jJ w)),some (.int C),some (.int M),some (.int n),some (bA (pl N 0)),none,none,none,none,none]) (aS (pw 0 _ rfl) rfl) ?_;refine sq (s1:=Hs N rest [some (.ref 0),some (c0 b),some (.str (jJ w)),some (.int C),some (.int M),some (.int n),some (bA (pl N 0)),some (bA (pl N 3)),none,none,none,none]) (aS (pw 3 _ rfl) rfl) ?_;refine sq (s1:=Hs N rest [some (.ref 0),some (c0 b),some (.str (jJ w)),some (.int C),some (.int M),some (.int n),some (bA (pl N 0)),some (bA (pl N 3)),some (bA (pl N 5)),none,none,none]) (aS (pw 5 _ rfl) rfl) ?_;refine sq (s1:=Hs N rest [some (.ref 0),some (c0 b),some (.str (jJ w)),some (.int C),some (.int M),some (.int n),some (bA (pl N 0)),some (bA (pl N 3)),some (bA (pl N 5)),some (bA m),none,none]) (aS (dy (as:=[.str (N 1),.bl false,c0 b,.int C]) (cA rfl (cA rfl (cA rfl (cA rfl rfl)))) rfl (by simp[au,noRef,nb]) hm) rfl) ?_
  refine sq (s1:=Hs N (rest++[cL (L0.map ai)]) [some (.ref 0),some (c0 b),some (.str (jJ w)),some (.int C),some (.int M),some (.int n),some (bA (pl N 0)),some (bA (pl N 3)),some (bA (pl N 5)),some (bA m),some (.ref (rest.length+1)),none]) ?_ ?_
  ·refine aS (p:=.ref (rest.length+1)) (s1:=Hs N (rest++[cL (L0.map ai)]) [some (.ref 0),some (c0 b),some (.str (jJ w)),some (.int C),some (.int M),some (.int n),some (bA (pl N 0)),some (bA (pl N 3)),some (bA (pl N 5)),some (bA m),none,none]) (eB (a:=L0.map ai) (s1:=Hs N rest [some (.ref 0),some (c0 b),some (.str (jJ w)),some (.int C),some (.int M),some (.int n),some (bA (pl N 0)),some (bA (pl N 3)),some (bA (pl N 5)),some (bA m),none,none]) ?_ ?_) rfl
   ·rw[XZ];exact cA (tU (cA rfl (cA rfl (cA rfl (cA rfl (cA rfl rfl))))) (by simp)) (cA (tU (cA rfl (cA rfl (cA rfl rfl))) (by simp)) (cA (tU (cA rfl (cA (dy (as:=[.str (N 2),.bl true,c0 b,.int C]) (cA rfl (cA rfl (cA rfl (cA rfl rfl)))) rfl (by simp[au,noRef,nb]) ht) rfl)) (by simp)) (cA (tU (cA rfl (cA rfl rfl)) (by simp)) rfl)))
   ·rw[XZ];rfl
  refine sq (s1:=Cv N b w C M n m rest.length (rest++[cL (L0.map ai)])) (aS (p:=.str (Wu w)) (s1:=Hs N (rest++[cL (L0.map ai)]) [some (.ref 0),some (c0 b),some (.str (jJ w)),some (.int C),some (.int M),some (.int n),some (bA (pl N 0)),some (bA (pl N 3)),some (bA (pl N 5)),some (bA m),some (.ref (rest.length+1)),none]) (by cases w<;>kernel_rfl) rfl) ?_
  refine sq (s1:=Cv N b w C M n m (rest++[cL (L0.map ai)]).length ((rest++[cL (L0.map ai)])++[cL ((L0.map ai++L1.map ai))])) (aS (aW (n:=rest.length+1) (h:=NC N::(rest++[cL (L0.map ai)])) (ps:=L0.map ai) (qs:=L1.map ai) rfl (by rw[V1];exact lS (cA (tU (cA rfl (cA rfl (cA rfl rfl))) (by simp)) (cA (tU (cA rfl (cA (b2 rfl rfl rfl) (cA (pw 7 _ rfl) rfl))) (by simp)) rfl)) (by simp)) jI (by simp only[aJ,cq];lia)) rfl) ?_
  refine sq (s1:=Cv N b w C M n m ((rest++[cL (L0.map ai)])++[cL ((L0.map ai++L1.map ai))]).length (((rest++[cL (L0.map ai)])++[cL ((L0.map ai++L1.map ai))])++[cL ((L0.map ai++L1.map ai++L2.map ai))])) (aS (aW (n:=(rest++[cL (L0.map ai)]).length+1) (h:=NC N::((rest++[cL (L0.map ai)])++[cL ((L0.map ai++L1.map ai))])) (ps:=(L0.map ai++L1.map ai)) (qs:=L2.map ai) rfl (by rw[Ma,hto];exact lS (cA (tU (cA rfl (cA (b2 rfl rfl rfl) (cA rfl rfl))) (by simp)) (cA (tU (cA rfl (cA rfl rfl)) (by simp)) (cA (tU (cA rfl (cA rfl (cA rfl (cA (b2 (b2 (b2 rfl rfl (EC (.inr (by decide)))) rfl (de (by decide))) rfl (de hM.1)) rfl)))) (by simp)) rfl))) (by simp)) jI (by simp only[aJ,cq];lia)) rfl) ?_
  refine sq (s1:=Cv N b w C M n m (((rest++[cL (L0.map ai)])++[cL ((L0.map ai++L1.map ai))])++[cL ((L0.map ai++L1.map ai++L2.map ai))]).length ((((rest++[cL (L0.map ai)])++[cL ((L0.map ai++L1.map ai))])++[cL ((L0.map ai++L1.map ai++L2.map ai))])++[cL ((L0.map ai++L1.map ai++L2.map ai++L3.map ai))])) (aS (aW (n:=((rest++[cL (L0.map ai)])++[cL ((L0.map ai++L1.map ai))]).length+1) (h:=NC N::(((rest++[cL (L0.map ai)])++[cL ((L0.map ai++L1.map ai))])++[cL ((L0.map ai++L1.map ai++L2.map ai))])) (ps:=(L0.map ai++L1.map ai++L2.map ai)) (qs:=L3.map ai) rfl (by rw[Tc];exact lS (cA (tU (cA rfl (cA rfl (cA rfl rfl))) (by simp)) (cA (tU (cA rfl (cA (b2 rfl rfl rfl) (cA rfl rfl))) (by simp)) (cA (tU (cA rfl (cA rfl (cA rfl (cA rfl (cA rfl rfl))))) (by simp)) rfl))) (by simp)) jI (by simp only[aJ,cq];lia)) rfl) ?_
  refine sq (s1:=Cv N b w C M n m ((((rest++[cL (L0.map ai)])++[cL ((L0.map ai++L1.map ai))])++[cL ((L0.map ai++L1.map ai++L2.map ai))])++[cL ((L0.map ai++L1.map ai++L2.map ai++L3.map ai))]).length (((((rest++[cL (L0.map ai)])++[cL ((L0.map ai++L1.map ai))])++[cL ((L0.map ai++L1.map ai++L2.map ai))])++[cL ((L0.map ai++L1.map ai++L2.map ai++L3.map ai))])++[cL ((L0.map ai++L1.map ai++L2.map ai++L3.map ai++L4.map ai))])) (aS (aW (n:=(((rest++[cL (L0.map ai)])++[cL ((L0.map ai++L1.map ai))])++[cL ((L0.map ai++L1.map ai++L2.map ai))]).length+1) (h:=NC N::((((rest++[cL (L0.map ai)])++[cL ((L0.map ai++L1.map ai))])++[cL ((L0.map ai++L1.map ai++L2.map ai))])++[cL ((L0.map ai++L1.map ai++L2.map ai++L3.map ai))])) (ps:=(L0.map ai++L1.map ai++L2.map ai++L3.map ai)) (qs:=L4.map ai) rfl (by rw[hL4];exact lS (cA (tU (cA rfl (cA (b2 rfl rfl rfl) (cA (b2 rfl rfl rfl) (cA (tU (cA (b2 rfl rfl rfl) rfl) (by simp)) rfl)))) (by simp)) (cA (tU (cA rfl (cA (b2 rfl rfl rfl) (cA (b2 rfl rfl rfl) (cA (tU (cA (b2 rfl rfl rfl) rfl) (by simp)) rfl)))) (by simp)) rfl)) (by simp)) jI (by simp only[aJ,cq];lia)) rfl) rfl
 obtain⟨h4,hh4⟩:∃h,h=((((rest++[cL (L0.map ai)])++[cL ((L0.map ai++L1.map ai))])++[cL ((L0.map ai++L1.map ai++L2.map ai))])++[cL ((L0.map ai++L1.map ai++L2.map ai++L3.map ai))]):=⟨_,rfl⟩
 have k4:rest.length<=h4.length:=by rw[hh4];simp only[cq,dh];lia
 have K5:Kp rest (h4++[cL ((L0.map ai++L1.map ai++L2.map ai++L3.map ai++L4.map ai))]):=by
  refine Kp.app ?_ k4 _;rw[hh4];exact((((Kp.refl rest).app (az _) _).app (by simp only[cq];lia) _).app (by simp only[cq];lia) _).app (by simp only[cq];lia) _
 have Sg:(h4++[cL ((L0.map ai++L1.map ai++L2.map ai++L3.map ai++L4.map ai))])[h4.length]?=some ⟨.lst,(L0++L1++L2++L3++L4).map ai⟩:=by rw[mm];simp
 rw[<-hh4]at A3
 generalize h4++[cL ((L0.map ai++L1.map ai++L2.map ai++L3.map ai++L4.map ai))]=h5 at K5 Sg A3
 generalize h4.length=q at k4 Sg A3
 have s5:∃h6,Kp rest h6/\h6[q]?=some ⟨.lst,(L0++L1++L2++L3++L4++L5).map ai⟩/\Ev (dc (toB (op2 gM (op2 dt (rd 1) (kI 0)) (kS "strip"))) (eu (gr (qT "list" (gU (fm kF)) (rd 10) (aj Q3 (aP [])))) (gr (qT "list" (gU (fm kF)) (rd 10) (aj Q2 (aP []))))) (aP .nx)) (Cv N b w C M n m q h5) .nx (Cv N b w C M n m q h6):=by
  rw[hL5];cases b with
  | st z =>
   have a1:=WR (f:=rd 10) (ts:=aj Q3 (aP [])) (s:=Cv N (.st z) w C M n m q h5) (r:=.ju (.s ⟨N 7,false,.El (N 5)⟩)) rfl (cA (tU (cA rfl (cA (tU (cA (b2 rfl rfl rfl) (cA rfl (cA (tU (ps:=[]) rfl (by simp)) (cA (b2 rfl rfl rfl) rfl)))) (by simp)) rfl)) (by simp)) rfl) Sg (by simp;lia)
   have Td:=oy (d:=⟨.lst,((L0++L1++L2++L3++L4)++[Rw.ju (.s ⟨N 7,false,.El (N 5)⟩)]).map ai⟩) Sg;have a2:=WR (f:=rd 10) (ts:=aj Q2 (aP [])) (s:=Cv N (.st z) w C M n m q (h5.set q ⟨.lst,((L0++L1++L2++L3++L4)++[Rw.ju (.s ⟨N 7,false,.El (N 5)⟩)]).map ai⟩)) (r:=.put ⟨N 1,false,.El (N 3)⟩ (.n n)) rfl (cA (tU (cA rfl (cA (tU (cA (b2 rfl rfl rfl) (cA rfl (cA (tU (ps:=[]) rfl (by simp)) (cA (b2 rfl rfl rfl) rfl)))) (by simp)) (cA rfl rfl))) (by simp)) rfl) Td (by simp;lia)
   refine⟨_,(K5.set k4 _).set k4 _,?_,iT (bT (b2 (b2 rfl rfl rfl) rfl (by kernel_rfl))) (sq a1 a2)⟩
   rw[oy Td];simp
  | nu=>exact⟨h5,K5,by simpa using Sg,iF (bT (b2 (b2 rfl rfl rfl) rfl (by kernel_rfl))) rfl⟩
  | rn=>exact⟨h5,K5,by simpa using Sg,iF (bT (b2 (b2 rfl rfl rfl) rfl (by kernel_rfl))) rfl⟩
  | ro=>exact⟨h5,K5,by simpa using Sg,iF (bT (b2 (b2 rfl rfl rfl) rfl (by kernel_rfl))) rfl⟩
 obtain⟨h6,K6,Td,e5⟩:=s5;have s6:∃h7,Kp rest h7/\h7[q]?=some ⟨.lst,L.map ai⟩/\Ev (dc (toB (op2 gM (rd 2) (kS "sole"))) (gr (qT "list" (gU (fm kF)) (rd 10) (aj (jX .aw (aj (kS "put") (aj (bnd Qb (bD 0 4 (c "_law_spot"))) Qp))) (aP [])))) (aP .nx)) (Cv N b w C M n m q h6) .nx (Cv N b w C M n m q h7):=by
  rw[hL,hL6];cases w with
  | true =>
   have a1:=WR (f:=rd 10) (ts:=aj (jX .aw (aj (kS "put") (aj (bnd Qb (bD 0 4 (c "_law_spot"))) Qp))) (aP [])) (s:=Cv N b true C M n m q h6) (r:=.put u (.n n)) rfl (cA (tU (cA rfl (cA (dy (as:=[.str (N 2),.bl true,c0 b,.int (C/2)]) (cA (b2 rfl rfl rfl) (cA rfl (cA rfl (cA (b2 rfl rfl (fH (by decide))) rfl)))) rfl (by simp[au,noRef,nb]) hu) (cA rfl rfl))) (by simp)) rfl) Td (by simp;lia)
   exact⟨_,K6.set k4 _,oy Td,iT (bT (b2 rfl rfl (by kernel_rfl))) a1⟩
  | false=>exact⟨h6,K6,by simpa using Td,iF (bT (b2 rfl rfl (by kernel_rfl))) rfl⟩
 obtain⟨h7,K7,hc7,e6⟩:=s6;have dr:cm (NC N::h7) (.ref (q+1))=some (.lst,L.map ai):=by
  show((h7[q]?).bind _)=_;rw[hc7];rfl
 refine⟨r,h7,all r hr,K7,?_⟩;rw[e0];refine lW (A3.trans (sq e5 (sq e6 (rS (s1:=Cv N b w C M n m q h7) (b2 rfl (b2 (b2 (b2 rfl rfl (EC (.inr (by decide)))) rfl (de (by decide))) (bV (cA rfl rfl) (z:=.int (L.map ai).length) ?_) (de (by rw[aJ];lia))) ?_)))))
 ·show((SJ (NC N::h7) (.ref (q+1))).map λn=>PV.int n)=_
  unfold SJ;rw[dr];rfl
 ·exact(Se dr _).trans (hx _)
theorem jx{α:Type}(e:α->PV)(L:List α)(m:Int)(h:0<L.length):∃a∈L,∀H:List ak,dt H (.lst (L.map e)) (.int (m%(L.length:Int)))=some (e a):=by
 obtain⟨p,hp,hx⟩:=pick (L.map e) m (by rw[aJ];exact h)
 obtain⟨a,ha,rfl⟩:=di.mp hp;rw[aJ]at hx;exact⟨a,ha,hx⟩
theorem yh(h:List ak)(a b:Int):gM h (.int a) (.int b)=some (.bl (a==b)):=rfl
abbrev ED(N:Nat->Str)(b:Bg)(D n:Int)(u:Str)(S:Sp)(o:Op)(t:Sp)(w:Bool)(x:Option PV)(rest:List ak):bJ:=Hs N rest [some (.ref 0),some (c0 b),some (.int D),some (.int n),some (.str u),some (bA S),some (bA (pl N 3)),some (eU o),some (bA t),some (.str (jJ w)),x]
def vK:List Str:=["again","known","over","back","unread","past"]
theorem MF(k:Nat)(N:Nat->Str)(rest:List ak){b:Bg}(hb:yg b)(D n:Int):∃(u:Str) (w:Bool) (r1 r2:Rw),ox N r1/\ox N r2/\du r1=true/\run aX (k+2) "_law_form" [.ref 0,c0 b,.int D,.int n] (NC N::rest)=some (.ok (.aw [.str u,.str (jJ w),ai r1,ai r2]),NC N::rest):=by
 obtain⟨S,S1,S2,hS⟩:=kU k (N 2) true hb (D/6);obtain⟨q,q1,q2,hq⟩:=kU k (N 2) true hb (D/48);have nb:noRef (c0 b)=true:=nH (.bg b);have pn:∀i:Nat,aL (run aX (k+1) "_law_plain" [.str (N i)] []) (bA (pl N i)):=λi=>⟨_,[],jH k (N i) [],rfl⟩
 have e0:=Ef (k+1)
 generalize run aX (k+1)=c at hS hq pn e0
 have pw:∀(i:Nat) (s:bJ),Ev (op2 dt (rd 0) (aP (.int i))) s (.str (N i)) s->Ev (bnd (aj (op2 dt (rd 0) (aP (.int i))) (aP [])) (bD 0 1 (c "_law_plain"))) s (bA (pl N i)) s:=λi s h=>dy (as:=[.str (N i)]) (cA h rfl) rfl (by simp[au,noRef]) (pn i)
 obtain⟨u,hu,xu⟩:=jx PV.str vK D (by simp[vK])
 obtain⟨o,ho,xo⟩:=jx eU [.n n,.s (pl N 5),.s (pl N 0),.n (n/7)] (D/12) (by simp)
 obtain⟨t,ht,xt⟩:=jx bA [pl N 4,pl N 5,q,S] (D/48) (by simp)
 have o1:OpN N o:=by
  simp only[aF,aQ,aU]at ho;rcases ho with rfl | rfl | rfl | rfl<;>first | trivial | exact ia N (by decide)
 have t1:EU N t:=by
  simp only[aF,aQ,aU]at ht;rcases ht with rfl | rfl | rfl | rfl
  ·exact ia N (by decide)
  ·exact ia N (by decide)
  ·exact vJ q1
  ·exact vJ S1
 have s1:EU N S:=vJ S1;have a1:EU N (pl N 3):=ia N (by decide)
 obtain⟨w,t',X0,pre⟩:∃(w:Bool) (t':Sp),EU N t'/\Mu c ⟨dE 11 [.ref 0,c0 b,.int D,.int n],NC N::rest⟩=Cc c (ED N b D n u S o t' w none rest):=by
  have cd:∃cb,Ek (dc Qf (dc (toB (op2 (wN false) (rd 4) (jX .aw (aj (kS "again") (aj (kS "unread") (aP [])))))) (aP true) (dc Qg Q9 (aP false))) (aP false)) (ED N b D n u S o t true none rest) cb:=by
   have z1:Ek Qf (ED N b D n u S o t true none rest) (D/192%2==1):=bT (b2 (b2 (b2 rfl rfl (fH (by decide))) rfl (de (by decide))) rfl (yh _ _ _))
   have z2:Ek Q9 (ED N b D n u S o t true none rest) (D/384%2==1):=bT (b2 (b2 (b2 rfl rfl (fH (by decide))) rfl (de (by decide))) rfl (yh _ _ _))
   cases hz:(D/192%2==1)with
   | false=>rw[hz]at z1;exact⟨_,iF z1 rfl⟩
   | true =>
    rw[hz]at z1;simp only[vK,aF,aQ,aU]at hu;rcases hu with rfl | rfl | rfl | rfl | rfl | rfl
    ·exact⟨true,iT z1 (by kernel_rfl)⟩
    ·exact⟨false,iT z1 (by kernel_rfl)⟩
    ·exact⟨false,iT z1 (by kernel_rfl)⟩
    ·exact⟨false,iT z1 (by kernel_rfl)⟩
    ·exact⟨true,iT z1 (by kernel_rfl)⟩
    ·exact⟨_,iT z1 (iF (bT (b2 rfl (tU (cA rfl (cA rfl rfl)) (by simp)) (by kernel_rfl))) (iT (bT (b2 rfl rfl (by kernel_rfl))) z2))⟩
  obtain⟨cb,cd⟩:=cd;refine⟨!cb,if cb then pl N 4 else t,by cases cb;exact t1;exact ia N (by decide),?_⟩
  refine sq (s1:=Hs N rest [some (.ref 0),some (c0 b),some (.int D),some (.int n),some (.str u),none,none,none,none,none,none]) (aS (p:=.str u) (b2 (lS (cA rfl (cA rfl (cA rfl (cA rfl (cA rfl (cA rfl rfl)))))) (by simp)) (b2 rfl rfl (de (by decide))) (xu _)) rfl) ?_
  refine sq (s1:=Hs N rest [some (.ref 0),some (c0 b),some (.int D),some (.int n),some (.str u),some (bA S),none,none,none,none,none]) (aS (dy (as:=[.str (N 2),.bl true,c0 b,.int (D/6)]) (cA rfl (cA rfl (cA rfl (cA (b2 rfl rfl (fH (by decide))) rfl)))) rfl (by simp[au,noRef,nb]) hS) rfl) ?_
  refine sq (s1:=Hs N rest [some (.ref 0),some (c0 b),some (.int D),some (.int n),some (.str u),some (bA S),some (bA (pl N 3)),none,none,none,none]) (aS (pw 3 _ rfl) rfl) ?_;refine sq (s1:=Hs N rest [some (.ref 0),some (c0 b),some (.int D),some (.int n),some (.str u),some (bA S),some (bA (pl N 3)),some (eU o),none,none,none]) (aS (b2 (lS (cA rfl (cA (pw 5 _ rfl) (cA (pw 0 _ rfl) (cA (b2 rfl rfl (fH (by decide))) rfl)))) (by simp)) (b2 (b2 rfl rfl (fH (by decide))) rfl (de (by decide))) (xo _)) rfl) ?_
  refine sq (s1:=Hs N rest [some (.ref 0),some (c0 b),some (.int D),some (.int n),some (.str u),some (bA S),some (bA (pl N 3)),some (eU o),some (bA t),none,none]) (aS (b2 (lS (cA (pw 4 _ rfl) (cA (pw 5 _ rfl) (cA (dy (as:=[.str (N 2),.bl true,c0 b,.int (D/48)]) (cA rfl (cA rfl (cA rfl (cA (b2 rfl rfl (fH (by decide))) rfl)))) rfl (by simp[au,noRef,nb]) hq) (cA rfl rfl)))) (by simp)) (b2 (b2 rfl rfl (fH (by decide))) rfl (de (by decide))) (xt _)) rfl) ?_
  refine sq (s1:=ED N b D n u S o t true none rest) (aS rfl rfl) ?_;refine sq (s1:=ED N b D n u S o (if cb then pl N 4 else t) (!cb) none rest) ?_ rfl
  cases cb with
  | true=>exact iT cd (sq (s1:=ED N b D n u S o t false none rest) (aS rfl rfl) (aS (pw 4 _ rfl) rfl))
  | false=>exact iF cd rfl
 have gh:∃r1 r2:Rw,ox N r1/\ox N r2/\du r1=true/\∃x,Cc c (ED N b D n u S o t' w none rest)=some (.ok (.rt (.aw [.str u,.str (jJ w),ai r1,ai r2])),ED N b D n u S o t' w x rest):=by
  obtain⟨g1,X1,x1⟩:=jx ai [.put S o,.set S "+" (.s S) o] (D/384) (by simp)
  obtain⟨g2,g2m,x2⟩:=jx ai [.put S (.n n),.set S "-" o (.s (pl N 3)),.put S (.s S)] (D/768) (by simp)
  obtain⟨g3,X2,x3⟩:=jx ai [.put (pl N 4) (.s S),.put (pl N 3) o] (D/384) (by simp)
  obtain⟨g4,g4m,x4⟩:=jx ai [.put (pl N 4) (.s S),.put t' (.s S)] (D/768) (by simp)
  obtain⟨g5,g5m,x5⟩:=jx ai [.put S (.n n),.put t' (.s S)] (D/768) (by simp)
  have Sh:∀s:bJ,s.ρ[2]?=some (some (.int D))->Ev (op2 iS (op2 gR (rd 2) (kI 384)) (kI 2)) s (.int (D/384%2)) s:=λs h=>b2 (b2 (by show((s.ρ[2]?).bind _).map _=_;rw[h];rfl) rfl (fH (by decide))) rfl (de (by decide))
  have c4:EU N (pl N 4):=ia N (by decide)
  simp only[vK,aF,aQ,aU]at hu;rcases hu with rfl | rfl | rfl | rfl | rfl | rfl
  ·exact⟨.put (pl N 3) (.s S),.put t' (.s S),⟨a1,s1⟩,⟨X0,s1⟩,rfl,none,by kernel_rfl⟩
  ·exact⟨.put S o,.put t' (.s S),⟨s1,o1⟩,⟨X0,s1⟩,rfl,none,by kernel_rfl⟩
  ·refine⟨g1,g2,?_,?_,?_,some (ai g1),?_⟩
   ·simp only[aF,aQ,aU]at X1;rcases X1 with rfl | rfl
    ·exact⟨s1,o1⟩
    ·exact s1
   ·simp only[aF,aQ,aU]at g2m;rcases g2m with rfl | rfl | rfl
    ·exact⟨s1,trivial⟩
    ·exact s1
    ·exact⟨s1,s1⟩
   ·simp only[aF,aQ,aU]at X1;rcases X1 with rfl | rfl<;>rfl
   ·exact sq (iF (bT (b2 rfl rfl (by kernel_rfl))) rfl) (sq (iF (bT (b2 rfl rfl (by kernel_rfl))) rfl) (vP (iT (bT (b2 rfl rfl (by kernel_rfl))) (sq (s1:=ED N b D n "over" S o t' w (some (ai g1)) rest) (aS (b2 (lS (cA (tU (cA rfl (cA rfl (cA rfl rfl))) (by simp)) (cA (tU (cA rfl (cA rfl (cA rfl (cA rfl (cA rfl rfl))))) (by simp)) rfl)) (by simp)) (Sh _ rfl) (x1 _)) rfl) (rS (tU (cA rfl (cA rfl (cA rfl (cA (b2 (lS (cA (tU (cA rfl (cA rfl (cA rfl rfl))) (by simp)) (cA (tU (cA rfl (cA rfl (cA rfl (cA rfl (cA rfl rfl))))) (by simp)) (cA (tU (cA rfl (cA rfl (cA rfl rfl))) (by simp)) rfl))) (by simp)) (b2 (b2 rfl rfl (fH (by decide))) rfl (de (by decide))) (x2 _)) rfl)))) (by simp)))))))
  ·exact⟨.put (pl N 3) (.s S),.put S (.s (pl N 3)),⟨a1,s1⟩,⟨s1,a1⟩,rfl,none,by kernel_rfl⟩
  ·refine⟨g3,.ju (.s S),?_,trivial,?_,none,?_⟩
   ·simp only[aF,aQ,aU]at X2;rcases X2 with rfl | rfl
    ·exact⟨c4,s1⟩
    ·exact⟨a1,o1⟩
   ·simp only[aF,aQ,aU]at X2;rcases X2 with rfl | rfl<;>rfl
   ·exact sq (iF (bT (b2 rfl rfl (by kernel_rfl))) rfl) (sq (iF (bT (b2 rfl rfl (by kernel_rfl))) rfl) (sq (iF (bT (b2 rfl rfl (by kernel_rfl))) rfl) (sq (iF (bT (b2 rfl rfl (by kernel_rfl))) rfl) (vP (iT (bT (b2 rfl rfl (by kernel_rfl))) (rS (tU (cA rfl (cA rfl (cA (b2 (lS (cA (tU (cA rfl (cA (pw 4 _ rfl) (cA rfl rfl))) (by simp)) (cA (tU (cA rfl (cA rfl (cA rfl rfl))) (by simp)) rfl)) (by simp)) (Sh _ rfl) (x3 _)) (cA (tU (cA rfl (cA rfl rfl)) (by simp)) rfl)))) (by simp))))))))
  ·have z:Ek Q9 (ED N b D n "past" S o t' w none rest) (D/384%2==1):=bT (b2 (Sh _ rfl) rfl (yh _ _ _));have A3:∀{g:Gx dn} {R},g (ED N b D n "past" S o t' w none rest)=R->(∀{a1 a2 a3 a4 a5:Gx dn},eu (dc (toB (op2 gM (rd 4) (kS "again"))) a1 (aP .nx)) (eu (dc (toB (op2 gM (rd 4) (kS "known"))) a2 (aP .nx)) (eu (dc (toB (op2 gM (rd 4) (kS "over"))) a3 (aP .nx)) (eu (dc (toB (op2 gM (rd 4) (kS "back"))) a4 (aP .nx)) (eu (dc (toB (op2 gM (rd 4) (kS "unread"))) a5 (aP .nx)) g)))) (ED N b D n "past" S o t' w none rest)=R):=λ{g R} h {a1 a2 a3 a4 a5}=>sq (iF (bT (b2 rfl rfl (by kernel_rfl))) rfl) (sq (iF (bT (b2 rfl rfl (by kernel_rfl))) rfl) (sq (iF (bT (b2 rfl rfl (by kernel_rfl))) rfl) (sq (iF (bT (b2 rfl rfl (by kernel_rfl))) rfl) (sq (iF (bT (b2 rfl rfl (by kernel_rfl))) rfl) h))))
   cases hz:(D/384%2==1)with
   | true =>
    rw[hz]at z;refine⟨.put (pl N 3) (.s S),g4,⟨a1,s1⟩,?_,rfl,none,A3 (vP (iT z (rS (tU (cA rfl (cA rfl (cA (tU (cA rfl (cA rfl (cA rfl rfl))) (by simp)) (cA (b2 (lS (cA (tU (cA rfl (cA (pw 4 _ rfl) (cA rfl rfl))) (by simp)) (cA (tU (cA rfl (cA rfl (cA rfl rfl))) (by simp)) rfl)) (by simp)) (b2 (b2 rfl rfl (fH (by decide))) rfl (de (j:=2) (by decide))) (x4 _)) rfl)))) (by simp)))))⟩
    simp only[aF,aQ,aU]at g4m;rcases g4m with rfl | rfl
    ·exact⟨c4,s1⟩
    ·exact⟨X0,s1⟩
   | false =>
    rw[hz]at z;refine⟨.put S o,g5,⟨s1,o1⟩,?_,rfl,none,A3 (sq (iF z rfl) (rS (tU (cA rfl (cA rfl (cA (tU (cA rfl (cA rfl (cA rfl rfl))) (by simp)) (cA (b2 (lS (cA (tU (cA rfl (cA rfl (cA rfl rfl))) (by simp)) (cA (tU (cA rfl (cA rfl (cA rfl rfl))) (by simp)) rfl)) (by simp)) (b2 (b2 rfl rfl (fH (by decide))) rfl (de (j:=2) (by decide))) (x5 _)) rfl)))) (by simp))))⟩
    simp only[aF,aQ,aU]at g5m;rcases g5m with rfl | rfl
    ·exact⟨s1,trivial⟩
    ·exact⟨X0,s1⟩
 obtain⟨r1,r2,c1,c2,c3,x,e⟩:=gh;refine⟨u,w,r1,r2,c1,c2,c3,?_⟩;rw[e0];exact lW (pre.trans e)
theorem Jb(k:Nat)(N:Nat->Str)(rest:List ak){b:Bg}(hb:yg b)(w:Bool)(C K M:Int)(hK:0<=K/\K<50)(hM:0<M/\M<60):∃r t,ox N r/\Kp rest t/\run aX (k+3) "_law_filler" [.ref 0,c0 b,.str (jJ w),.int C,.int K,.int M] (NC N::rest)=some (.ok (ai r),NC N::t):=by
 have e0:=xZ (k+2);have z:∀c:CT,Ek (toB (op2 gM (op2 iS (rd 3) (kI 8)) (kI 0))) (Hs N rest [some (.ref 0),some (c0 b),some (.str (jJ w)),some (.int C),some (.int K),some (.int M)]) (C%8==0):=λ_=>bT (b2 (b2 rfl rfl (de (by decide))) rfl (yh _ _ _))
 cases hz:(C%8==0)with
 | true =>
  obtain⟨r,t,c1,c2,c3⟩:=Sf k N rest hb w (C/8) M hM;rw[hz]at z;refine⟨r,t,c1,c2,?_⟩;rw[e0]
  generalize run aX (k+2)=c at c3 z
  exact lW (vP (iT (z c) (rS (Mp (as:=[.ref 0,c0 b,.str (jJ w),.int (C/8),.int M]) (cA rfl (cA rfl (cA rfl (cA (b2 rfl rfl (fH (by decide))) (cA rfl rfl))))) rfl rfl c3))))
 | false =>
  obtain⟨r,c1,c3⟩:=Sd k N rest hb (C/8) K hK;rw[hz]at z;refine⟨r,rest,c1,Kp.refl _,?_⟩;rw[e0]
  generalize run aX (k+2)=c at c3 z
  exact lW (sq (iF (z c) rfl) (rS (Mp (as:=[.ref 0,c0 b,.int (C/8),.int K]) (cA rfl (cA rfl (cA (b2 rfl rfl (fH (by decide))) (cA rfl rfl)))) rfl rfl c3)))
abbrev kW(N:Nat->Str)(rest:List ak)(b:Bg)(w:Bool)(C:Int)(x5 x6:Option PV)(L:List Rw):bJ:=Hs N (rest++[cL (L.map ai)]) [some (.ref 0),some (c0 b),some (.str (jJ w)),some (.int C),some (.ref (rest.length+1)),x5,x6]
theorem yi(t:List ak)(c d:ak):(t++[c]).set t.length d=t++[d]:=by simp
theorem Si{N:Nat->Str}{rest:List ak}{b:Bg}{w:Bool}{C:Int}{x5 x6:Option PV}{L:List Rw}{r:Rw}{e:Gx PV}(he:Ek e (kW N rest b w C x5 x6 L) (ai r))(hl:L.length<100):Ev (gr (qT "list" (gU (fm kF)) (rd 4) (aj e (aP [])))) (kW N rest b w C x5 x6 L) .nx (kW N rest b w C x5 x6 (L++[r])):=by
 have:=WR (f:=rd 4) (ts:=aj e (aP [])) (s:=kW N rest b w C x5 x6 L) (N:=N) (ρ:=[some (.ref 0),some (c0 b),some (.str (jJ w)),some (.int C),some (.ref (rest.length+1)),x5,x6]) (t:=rest++[cL (L.map ai)]) (n:=rest.length) rfl (cA he rfl) (mm _ _) (by lia)
 rwa [yi]at this
section
variable {N:Nat->Str} {rest:List ak} {b:Bg} {w:Bool} {C:Int}
theorem yj{s:bJ}{a m:Int}{f:Gx PV}(h3:Ev (rd 3) s (.int C) s)(hf:Ev f s (.int a) s)(hm:-pT<m/\m<pT):Ev (op2 iS (op2 xN (op2 gQ (rd 3) f) (aP (.int m))) (op2 Ku (kI 10) (kI 30))) s (.int ((C+a)*m%10^30)) s:=b2 (b2 (b2 h3 hf rfl) rfl (EC (.inr hm))) (b2 rfl rfl (Ct _)) (de (by decide))
theorem WS(c:CT)(pn:∀i:Nat,aL (c "_law_plain" [.str (N i)] []) (bA (pl N i))){i:Nat}(hi:i<=7)(x6:Option PV)(L:List Rw)(hl:L.length<90):∃M:List Rw,(∀r∈M,ox N r)/\M.length<=2/\Ev (kQ c) (kW N rest b w C (some (.str (N i))) x6 L) .nx (kW N rest b w C (some (.str (N i))) x6 (L++M)):=by
 have WT:(b=.rn\/b=.ro)->∃M:List Rw,(∀r∈M,ox N r)/\M.length<=2/\Ev (kQ c) (kW N rest b w C (some (.str (N i))) x6 L) .nx (kW N rest b w C (some (.str (N i))) x6 (L++M)):=λhb=>by
  refine⟨[.put ⟨N i,false,.idx 0⟩ (.n ((C+1)*39373%10^30)),.put ⟨N i,false,.idx 1⟩ (.n ((C+2)*69621%10^30))],λr hr=>?_,by simp,?_⟩
  ·simp only[aF,aQ,aU]at hr;rcases hr with rfl | rfl<;>exact⟨Cu hi rfl rfl,trivial⟩
  ·rw[show ∀p q:Rw,L++[p,q]=(L++[p])++[q] by intros;simp]
   have t:Ek (toB (op2 gM (op2 dt (rd 1) (kI 0)) (kS "rec"))) (kW N rest b w C (some (.str (N i))) x6 L) true:=by
    rcases hb with rfl | rfl<;>exact bT (b2 (b2 rfl rfl rfl) rfl (by kernel_rfl))
   exact iT t (sq (Si (tU (cA rfl (cA (tU (cA rfl (cA rfl (cA (tU (cA rfl rfl) (by simp)) (cA rfl rfl)))) (by simp)) (cA (yj rfl rfl (by decide)) rfl))) (by simp)) (by lia)) (Si (tU (cA rfl (cA (tU (cA rfl (cA rfl (cA (tU (cA rfl rfl) (by simp)) (cA rfl rfl)))) (by simp)) (cA (yj rfl rfl (by decide)) rfl))) (by simp)) (by simp;lia)))
 have pw:∀s:bJ,Ev (rd 5) s (.str (N i)) s->Ev (bnd Qp (bD 0 1 (c "_law_plain"))) s (bA (pl N i)) s:=λs h=>dy (as:=[.str (N i)]) (cA h rfl) rfl (by simp[au,noRef]) (pn i)
 cases b with
 | rn=>exact WT (.inl rfl)
 | ro=>exact WT (.inr rfl)
 | nu =>
  refine⟨[.put (pl N i) (.n ((C+3)*16807%10^30))],λr hr=>?_,by simp,iF (bT (b2 (b2 rfl rfl rfl) rfl (by kernel_rfl))) (Si (tU (cA (b2 (s1:=kW N rest .nu w C (some (.str (N i))) x6 L) (x:=.lst [.str "put",.str "fill"]) (y:=.int 0) (by kernel_rfl) (by kernel_rfl) rfl) (cA (pw _ rfl) (cA (yj rfl rfl (by decide)) rfl))) (by simp)) (by lia))⟩
  rw[cH]at hr;subst hr;exact⟨ia N hi,trivial⟩
 | st z =>
  refine⟨[.fill (pl N i) (.n ((C+3)*16807%10^30))],λr hr=>?_,by simp,iF (bT (b2 (b2 rfl rfl rfl) rfl (by kernel_rfl))) (Si (tU (cA (b2 (s1:=kW N rest (.st z) w C (some (.str (N i))) x6 L) (x:=.lst [.str "put",.str "fill"]) (y:=.int 1) (by kernel_rfl) (by kernel_rfl) rfl) (cA (pw _ rfl) (cA (yj rfl rfl (by decide)) rfl))) (by simp)) (by lia))⟩
  rw[cH]at hr;subst hr;trivial
theorem MH(k:Nat)(N:Nat->Str)(rest:List ak)(b:Bg)(w:Bool)(C:Int):∃L:List Rw,(∀r∈L,ox N r)/\L.length<=9/\run aX (k+2) "_law_begin" [.ref 0,c0 b,.str (jJ w),.int C] (NC N::rest)=some (.ok (.ref (rest.length+1)),NC N::(rest++[cL (L.map ai)])):=by
 have pn:∀i:Nat,aL (run aX (k+1) "_law_plain" [.str (N i)] []) (bA (pl N i)):=λi=>⟨_,[],jH k (N i) [],rfl⟩
 rw[AF]
 generalize run aX (k+1)=c at pn ⊢
 obtain⟨M1,m1,l1,h1⟩:=WS (rest:=rest) (b:=b) (w:=w) (C:=C) c pn (i:=1) (by decide) none [] (by simp)
 obtain⟨M2,m2,l2,h2⟩:=WS (rest:=rest) (b:=b) (w:=w) (C:=C) c pn (i:=7) (by decide) none ([]++M1) (by simp;lia)
 obtain⟨i,hi,xi⟩:=jx (λi:Nat=>PV.int (i:Int)) [0,5,0,0] C (by simp)
 have i7:i<=7:=by
  simp only[aF,aQ,aU]at hi
  lia
 have pw:∀(f:Gx PV) (i:Nat) (s:bJ),Ev f s (.str (N i)) s->Ev (bnd (aj f (aP [])) (bD 0 1 (c "_law_plain"))) s (bA (pl N i)) s:=λf i s h=>dy (as:=[.str (N i)]) (cA h rfl) rfl (by simp[au,noRef]) (pn i)
 obtain⟨f,hf⟩:∃f:Nat->Int,f=(λi:Nat=>(C+(i:Int))*48271%10^30):=⟨λi:Nat=>(C+(i:Int))*48271%10^30,rfl⟩
 have two:∀(i:Nat) (x6:Option PV) (L:List Rw),i<=5->L.length<50->Ev (qy c) (kW N rest b w C (some (.str (N 7))) (some (.int i)) L) .nx (kW N rest b w C (some (.str (N 7))) (some (.int i)) (L++[.put (pl N i) (.n (f i))])):=λi x6 L hi hl=>Si (tU (cA rfl (cA (pw _ i _ (b2 rfl rfl (by
   rcases i with _ | _ | _ | _ | _ | _ | _<;>first | rfl | lia))) (cA (by rw[hf];exact yj rfl rfl (by decide)) rfl))) (by simp)) (by lia)
 obtain⟨L2,Ma⟩:∃L,L=[]++M1++M2:=⟨_,rfl⟩
 rw[<-Ma]at h2;have l3:L2.length<=4:=by rw[Ma];simp;lia
 refine⟨L2++[.put (pl N 3) (.n (f 3))]++[.put (pl N 4) (.n (f 4))]++[.put (pl N 5) (.n (f 5))]++[.fx false (N 6) (pl N i)]++[.fx w (N 2) (pl N 1)],λr hr=>?_,by simp;lia,?_⟩
 ·rw[Ma]at hr;simp only[fQ,cH,aQ,false_or]at hr;rcases hr with(((((hr | hr) | rfl) | rfl) | rfl) | rfl) | rfl
  ·exact m1 r hr
  ·exact m2 r hr
  all_goals first | trivial | exact⟨ia N (by decide),trivial⟩
 have p5:Ev (gr (qT "list" (gU (fm kF)) (rd 4) (aj (jX .aw (aj (op2 dt (jX .lst (aj (kS "lend") (aj (kS "sole") (aP [])))) (nP Dj (aj (op2 gM (rd 2) (kS "sole")) (aP [])))) (aj (op2 dt (rd 0) (kI 2)) (aj (bnd (aj (op2 dt (rd 0) (kI 1)) (aP [])) (bD 0 1 (c "_law_plain"))) (aP []))))) (aP [])))) (kW N rest b w C (some (.str (N 7))) (some (.int (5:Nat))) (L2++[.put (pl N 3) (.n (f 3))]++[.put (pl N 4) (.n (f 4))]++[.put (pl N 5) (.n (f 5))]++[.fx false (N 6) (pl N i)])) .nx (kW N rest b w C (some (.str (N 7))) (some (.int (5:Nat))) (L2++[.put (pl N 3) (.n (f 3))]++[.put (pl N 4) (.n (f 4))]++[.put (pl N 5) (.n (f 5))]++[.fx false (N 6) (pl N i)]++[.fx w (N 2) (pl N 1)])):=by
  obtain⟨L,hL⟩:∃L,L=L2++[.put (pl N 3) (.n (f 3))]++[.put (pl N 4) (.n (f 4))]++[.put (pl N 5) (.n (f 5))]++[.fx false (N 6) (pl N i)]:=⟨_,rfl⟩
  have hl:L.length<90:=by rw[hL];simp;lia
  rw[<-hL];exact Si (r:=.fx w (N 2) (pl N 1)) (tU (cA (x:=.str (Wu w)) (s1:=kW N rest b w C (some (.str (N 7))) (some (.int (5:Nat))) L) (b2 (s1:=kW N rest b w C (some (.str (N 7))) (some (.int (5:Nat))) L) (x:=.lst [.str "lend",.str "sole"]) (y:=.int (if w then 1 else 0)) (lS (cA rfl (cA rfl rfl)) (by simp)) (by cases w<;>kernel_rfl) (by cases w<;>rfl)) (cA (b2 rfl rfl rfl) (cA (pw _ 1 _ (b2 rfl rfl rfl)) rfl))) (by simp)) (by lia)
 have p1:Ev (wV (lE (jX .lst (aj (op2 dt (rd 0) (kI 1)) (aj (op2 dt (rd 0) (kI 7)) (aP []))))) (b9 5) (kQ c)) (kW N rest b w C none none []) .nx (kW N rest b w C (some (.str (N 7))) none L2):=fS (s1:=kW N rest b w C none none []) (sV (lS (ps:=[.str (N 1),.str (N 7)]) (cA (b2 rfl rfl rfl) (cA (b2 rfl rfl rfl) rfl)) (by simp)) rfl) (fC (s1:=kW N rest b w C (some (.str (N 1))) none []) rfl h1 (fC (s1:=kW N rest b w C (some (.str (N 7))) none ([]++M1)) rfl h2 rfl))
 have p2:Ev (wV (lE (jX .aw (aj (kI 3) (aj (kI 4) (aj (kI 5) (aP [])))))) (b9 6) (qy c)) (kW N rest b w C (some (.str (N 7))) none L2) .nx (kW N rest b w C (some (.str (N 7))) (some (.int (5:Nat))) (L2++[.put (pl N 3) (.n (f 3))]++[.put (pl N 4) (.n (f 4))]++[.put (pl N 5) (.n (f 5))])):=fS (s1:=kW N rest b w C (some (.str (N 7))) none L2) (sV (tU (ps:=[.int (3:Nat),.int (4:Nat),.int (5:Nat)]) (cA rfl (cA rfl (cA rfl rfl))) (by simp)) rfl) (fC (s1:=kW N rest b w C (some (.str (N 7))) (some (.int (3:Nat))) L2) rfl (two 3 none L2 (by decide) (by lia)) (fC (s1:=kW N rest b w C (some (.str (N 7))) (some (.int (4:Nat))) (L2++[.put (pl N 3) (.n (f 3))])) rfl (two 4 none _ (by decide) (by simp;lia)) (fC (s1:=kW N rest b w C (some (.str (N 7))) (some (.int (5:Nat))) (L2++[.put (pl N 3) (.n (f 3))]++[.put (pl N 4) (.n (f 4))])) rfl (two 5 none _ (by decide) (by simp;lia)) rfl)))
 obtain⟨L3,Tc⟩:∃L,L=L2++[.put (pl N 3) (.n (f 3))]++[.put (pl N 4) (.n (f 4))]++[.put (pl N 5) (.n (f 5))]:=⟨_,rfl⟩
 have l4:L3.length<50:=by rw[Tc];simp;lia
 rw[<-Tc]at p2 p5 ⊢;have p4:Ev (gr (qT "list" (gU (fm kF)) (rd 4) (aj (jX .aw (aj (kS "lend") (aj (op2 dt (rd 0) (kI 6)) (aj (bnd (aj (op2 dt (rd 0) (op2 dt (jX .lst (aj (kI 0) (aj (kI 5) (aj (kI 0) (aj (kI 0) (aP [])))))) (op2 iS (rd 3) (kI 4)))) (aP [])) (bD 0 1 (c "_law_plain"))) (aP []))))) (aP [])))) (kW N rest b w C (some (.str (N 7))) (some (.int (5:Nat))) L3) .nx (kW N rest b w C (some (.str (N 7))) (some (.int (5:Nat))) (L3++[.fx false (N 6) (pl N i)])):=Si (r:=.fx false (N 6) (pl N i)) (tU (cA rfl (cA (b2 rfl rfl rfl) (cA (pw _ i _ (b2 rfl (b2 (lS (cA rfl (cA rfl (cA rfl (cA rfl rfl)))) (by simp)) (b2 rfl rfl (de (by decide))) (xi _)) (by
  rcases i with _ | _ | _ | _ | _ | _ | _ | _ | _<;>first | rfl | lia))) rfl))) (by simp)) (by lia)
 exact lW (sq (s1:=kW N rest b w C none none []) (aS (p:=.ref (rest.length+1)) (s1:=Hs N (rest++[cL []]) [some (.ref 0),some (c0 b),some (.str (jJ w)),some (.int C),none,none,none]) rfl rfl) (sq p1 (sq p2 (sq p4 (sq p5 (rS rfl))))))
end
def cp(n:Int):Nat:=97+(n%26).toNat
def lt(n:Int):Str:=⟨#[cp n]⟩
def strOf(l:List Nat):Str:=⟨l.toArray⟩
theorem EE{a b:List Nat}(h:strOf a=strOf b):a=b:=by
 have:a.toArray=b.toArray:=fV Str.cps h;simpa using this
theorem A4(a b:List Nat):strOf a++strOf b=strOf (a++b):=by
 show Str.append _ _=_;unfold Str.append strOf;simp
theorem MI:(Str.ofString "")=strOf []:=by decide +kernel
theorem Cw(l:List Nat):(strOf l).length=l.length:=by
 unfold strOf Str.length;simp
theorem A5:∀m:Fin 26,L2.qS (Str.ofString "abcdefghijklmnopqrstuvwxyz").cps.toList ((m:Nat):Int)=some (97+(m:Nat)):=by decide +kernel
theorem tJ(h:List ak)(n:Int):dt h (.str "abcdefghijklmnopqrstuvwxyz") (.int (n%26))=some (.str (lt n)):=by
 have h0:=mG n (show(26:Int)≠0 by decide)
 have h1:=tW n (show(0:Int)<26 by decide)
 obtain⟨m,hm⟩:=Int.eq_ofNat_of_zero_le h0;have:=A5 ⟨m,by lia⟩
 show(if(Str.ofString "abcdefghijklmnopqrstuvwxyz").length<=ib then(L2.qS (Str.ofString "abcdefghijklmnopqrstuvwxyz").cps.toList (n%26)).map λc=>PV.str ⟨#[c]⟩else none)=_
 rw[if_pos (by decide +kernel),hm,this]
 show some (PV.str ⟨#[97+m]⟩)=some (PV.str ⟨#[cp n]⟩);unfold cp;rw[hm,eZ]
theorem Sj{a b:Int}(h:cp a=cp b):a%26=b%26:=by
 unfold cp at h;have h0:=mG a (show(26:Int)≠0 by decide)
 have h1:=mG b (show(26:Int)≠0 by decide)
 lia
theorem Jc{l:List Nat}(hl:l.length<=100)(n:Int)(h:List ak):gQ h (.str (strOf l)) (.str (lt n))=some (.str (strOf (l++[cp n]))):=by
 have e:gQ h (.str (strOf l)) (.str (lt n))=sizeOk ((strOf l).length+(lt n).length) (.str (strOf l++lt n)):=rfl;rw[e,show lt n=strOf [cp n]from rfl,A4,Cw,Cw]
 exact if_pos (show l.length+1<=ib by have:ib=4000000:=rfl;lia)
abbrev Sk:PV:=.str "abcdefghijklmnopqrstuvwxyz"
def Te(B:List Int)(a q i:Nat):Nat:=cp (B.getD i 0+(q:Int)*(if i=a then 1 else 0))
abbrev nS(C:Int)(h0:List ak)(B:List Int)(a:Nat)(x3 x7 x8:Option PV)(F:List PV):bJ:=⟨[some (.int C),some (.int 13),some Sk,x3,some (.lst (B.map .int)),some (.int a),some (.ref h0.length),x7,x8],h0++[cL F]⟩
theorem nI(c:CT)(C:Int)(h0:List ak)(B:List Int)(a q:Nat)(hq:q<=100)(hB:B.length<=50)(F:List PV):∀(X3 pre:List Nat) (x8:Option PV),List.range B.length=pre++X3->∃yo,dD (b9 8) (AD c) (X3.map λn:Nat=>.int (n:Int)) (nS C h0 B a (some (.int q)) (some (.str (strOf (pre.map (Te B a q))))) x8 F)=some (.ok .nx,nS C h0 B a (some (.int q)) (some (.str (strOf ((List.range B.length).map (Te B a q))))) yo F)
 | [],pre,x8,e=>⟨x8,by rw[e,fg];rfl⟩
 | i::X3,pre,x8,e=>by
  have hi:i<B.length:=dR.mp (by rw[e];simp)
  have hp:pre.length<=B.length:=by
   have:=fV List.length e;rw[gC,cq]at this
   lia
  obtain⟨yo,h⟩:=nI c C h0 B a q hq hB F X3 (pre++[i]) (some (.int i)) (by rw[e];simp)
  rw[gE]at h;refine⟨yo,fC (s1:=nS C h0 B a (some (.int q)) (some (.str (strOf (pre.map (Te B a q))))) (some (.int i)) F) rfl ?_ h⟩;have hb:∀h,dt h (.lst (B.map PV.int)) (.int (i:Int))=some (.int (B.getD i 0)):=λ_=>atI_nat (by rw[bK,List.getD_eq_getElem?_getD,b8 hi];rfl)
  have he:∀h,Dj h [.bl ((i:Int)==(a:Int))]=some (.int (if i=a then 1 else 0)):=λh=>by
   by_cases hh:i=a
   ·rw[if_pos hh,hh,kf];rfl
   ·rw[if_neg hh,show((i:Int)==(a:Int))=false by rw[my];lia];rfl
  have hm:∀h,xN h (.int (q:Int)) (.int (if i=a then 1 else 0))=some (.int ((q:Int)*(if i=a then 1 else 0))):=λh=>EC (.inr (by split<;>decide))
  exact aS (b2 rfl (b2 rfl (b2 (b2 (b2 rfl rfl (hb _)) (b2 rfl (bV (cA (b2 rfl rfl (yh _ _ _)) rfl) (he _)) (hm _)) rfl) rfl (de (by decide))) (tJ _ _)) (Jc (by rw[aJ];lia) _ _)) rfl
def vL(C:Int)(B:List Int)(a q:Nat):List Nat:=(List.range B.length).map (Te B a q)++(if C/49%2==1&&(q:Int)%2==1 then [cp (C/98)]else [])
theorem EF(c:CT)(C:Int)(h0:List ak)(B:List Int)(a q:Nat)(hq:q<=100)(hB:B.length<=50)(F:List PV)(hF:F.length<=100)(x7 x8:Option PV):∃yo,Ev (qx c) (nS C h0 B a (some (.int q)) x7 x8 F) .nx (nS C h0 B a (some (.int q)) (some (.str (strOf (vL C B a q)))) yo (F++[.str (strOf (vL C B a q))])):=by
 obtain⟨yo,h⟩:=nI c C h0 B a q hq hB F (List.range B.length) [] x8 rfl;obtain⟨l,hl⟩:∃l,l=(List.range B.length).map (Te B a q):=⟨_,rfl⟩
 have ll:l.length<=50:=by rw[hl];simp;lia
 rw[<-hl]at h;have z1:Ek (toB (op2 gM (op2 iS (op2 gR (rd 0) (kI 49)) (kI 2)) (kI 1))) (nS C h0 B a (some (.int q)) (some (.str (strOf l))) yo F) (C/49%2==1):=bT (b2 (b2 (b2 rfl rfl (fH (by decide))) rfl (de (by decide))) rfl (yh _ _ _))
 have z2:Ek (toB (op2 gM (op2 iS (rd 3) (kI 2)) (kI 1))) (nS C h0 B a (some (.int q)) (some (.str (strOf l))) yo F) ((q:Int)%2==1):=bT (b2 (b2 rfl rfl (de (by decide))) rfl (yh _ _ _))
 have z3:Ek Qa (nS C h0 B a (some (.int q)) (some (.str (strOf l))) yo F) (C/49%2==1&&(q:Int)%2==1):=by
  cases hz:(C/49%2==1)with
  | true=>rw[hz]at z1;exact iT z1 z2
  | false=>rw[hz]at z1;exact iF z1 rfl
 have z4:Ev (dc Qa (fq (op2 gQ (rd 7) (op2 dt (rd 2) (op2 iS (op2 gR (rd 0) (kI 98)) (kI 26)))) (b9 7)) (aP .nx)) (nS C h0 B a (some (.int q)) (some (.str (strOf l))) yo F) .nx (nS C h0 B a (some (.int q)) (some (.str (strOf (vL C B a q)))) yo F):=by
  unfold vL;rw[<-hl];cases hz:(C/49%2==1&&(q:Int)%2==1)with
  | true=>rw[hz]at z3;exact iT z3 (aS (b2 rfl (b2 rfl (b2 (b2 rfl rfl (fH (by decide))) rfl (de (by decide))) (tJ _ _)) (Jc (by lia) _ _)) rfl)
  | false=>rw[hz]at z3;exact iF z3 (by simp only[ez,cW,fg];rfl)
 refine⟨yo,sq (s1:=nS C h0 B a (some (.int q)) (some (.str (strOf []))) x8 F) (by rw[<-MI];rfl) (sq (fS (qN (n:=B.length) (cA (bV (cA rfl rfl) ?_) rfl) (by lia)) h) (sq z4 (dS (p:=.bL) ?_)))⟩
 ·show some (PV.int (((B.map PV.int).length:Nat):Int))=_;rw[aJ]
 ·have:=xA (f:=rd 6) (ts:=aj (rd 7) (aP [])) (s:=nS C h0 B a (some (.int q)) (some (.str (strOf (vL C B a q)))) yo F) (ρ:=[some (.int C),some (.int 13),some Sk,some (.int q),some (.lst (B.map .int)),some (.int a),some (.ref h0.length),some (.str (strOf (vL C B a q))),yo]) (h:=h0++[cL F]) (n:=h0.length) (ps:=F) (q:=.str (strOf (vL C B a q))) rfl (cA rfl rfl) (mm _ _) (by lia)
  rwa [yi]at this
theorem qP(c:CT)(C:Int)(h0:List ak)(B:List Int)(a:Nat)(hB:B.length<=50):∀(qs:List Nat) (F:List PV) (x3 x7 x8:Option PV),(∀q∈qs,q<=100)->F.length+qs.length<=100->∃R8 EB yo,dD (b9 3) (qx c) (qs.map λn:Nat=>.int (n:Int)) (nS C h0 B a x3 x7 x8 F)=some (.ok .nx,nS C h0 B a R8 EB yo (F++qs.map λq=>.str (strOf (vL C B a q))))
 | [],F,x3,x7,x8,_,_=>⟨x3,x7,x8,by simp;rfl⟩
 | q::qs,F,x3,x7,x8,hq,hz=>by
  rw[dh]at hz;obtain⟨y8,h⟩:=EF c C h0 B a q (hq q bQ) hB F (by lia) x7 x8
  obtain⟨z3,z7,z8,h2⟩:=qP c C h0 B a hB qs (F++[.str (strOf (vL C B a q))]) (some (.int q)) (some (.str (strOf (vL C B a q)))) y8 (λr hr=>hq r (bF _ hr)) (by simp;lia)
  refine⟨z3,z7,z8,?_⟩;rw[bz,bz,show F++PV.str (strOf (vL C B a q))::qs.map (λq=>PV.str (strOf (vL C B a q)))=F++[PV.str (strOf (vL C B a q))]++qs.map (λq=>PV.str (strOf (vL C B a q))) by simp]
  exact fC (s1:=nS C h0 B a (some (.int q)) x7 x8 F) rfl h h2
theorem MJ{C:Int}{B:List Int}{a q q':Nat}(hp:a<B.length)(h1:q<26)(h2:q'<26)(h:strOf (vL C B a q)=strOf (vL C B a q')):q=q':=by
 have h:=EE h;have at_:∀q:Nat,(vL C B a q)[a]?=some (cp (B.getD a 0+(q:Int))):=λq=>by
  unfold vL;rw[j3 (by simp;lia),bK,oG hp]
  simp[Te]
 have e:=fV (λl=>l[a]?) h
 simp only[at_]at e;have:=Sj (bB e)
 lia
theorem Cy(k:Nat)(C:Int)(h0:List ak):∃N:Nat->Str,(∀i j,i<13->j<13->N i=N j->i=j)/\run aX (k+1) "_law_names" [.int C,.int 13] h0=some (.ok (.ref h0.length),h0++[NC N]):=by
 obtain⟨ln,SW⟩:∃ln:Nat,(ln:Int)=1+C%7:=⟨(1+C%7).toNat,by lia⟩
 have ln1:1<=ln/\ln<=7:=by lia
 obtain⟨B,hB⟩:∃B:List Int,B=(List.range ln).map λi:Nat=>(C/7/((i:Int)*i+1)+5*(i:Int))%26:=⟨_,rfl⟩
 have Bl:B.length=ln:=by rw[hB];simp
 obtain⟨a,ha⟩:∃a:Nat,(a:Int)=C/7%(ln:Int):=⟨(C/7%(ln:Int)).toNat,Int.toNat_of_nonneg (mG _ (by lia))⟩
 have hal:a<B.length:=by
  have:=tW (C/7) (show(0:Int)<(ln:Int) by lia)
  lia
 rw[AE]
 generalize run aX k=c
 obtain⟨x3,x7,x8,h⟩:=qP c C h0 B a (by lia) (List.range 13) [] none none none (λq hq=>by have:=dR.mp hq;lia) (by simp)
 refine⟨λq=>strOf (vL C B a q),λi j hi hj e=>MJ hal (by lia) (by lia) e,?_⟩
 refine lW (sq (s1:=⟨[some (.int C),some (.int 13),some Sk,none,none,none,none,none,none],h0⟩) (aS rfl rfl) (sq (s1:=⟨[some (.int C),some (.int 13),some Sk,none,some (.lst (B.map .int)),none,none,none,none],h0⟩) (aS (p:=.lst (B.map .int)) (s1:=⟨[some (.int C),some (.int 13),some Sk,none,none,none,none,none,none],h0⟩) ?_ rfl) (sq (s1:=⟨[some (.int C),some (.int 13),some Sk,none,some (.lst (B.map .int)),some (.int a),none,none,none],h0⟩) (aS (p:=.int a) (b2 (b2 rfl rfl (fH (by decide))) (bV (cA rfl rfl) (z:=.int ln) ?_) (by rw[ha];exact de (by lia))) rfl) (sq (s1:=nS C h0 B a none none none []) (aS (p:=.ref h0.length) (s1:=⟨[some (.int C),some (.int 13),some Sk,none,some (.lst (B.map .int)),some (.int a),none,none,none],h0++[cL []]⟩) rfl rfl) (sq (fS (qN (n:=13) (cA rfl rfl) (by decide)) h) (rS rfl))))))
 ·rw[hB,ku];refine cM (e:=λm:Nat=>.int (m:Int)) (qN (n:=ln) (cA (b2 rfl (b2 rfl rfl (de (by decide))) (by rw[SW];rfl)) rfl) (by lia)) (by rw[gC];lia) λi hi=>?_
  have hi:=dR.mp hi;have i7:(i:Int)<7:=by lia
  have i0:(0:Int)<=(i:Int)*i:=Int.mul_nonneg (by lia) (by lia)
  have i49:(i:Int)*i<=49:=by
   rcases i with _ | _ | _ | _ | _ | _ | _ | _<;>first | lia | decide
  have bg:(pT:Int)=18446744073709551616:=rfl;exact L2.U.e1 rfl (b2 (b2 (b2 (b2 rfl rfl (fH (by decide))) (b2 (b2 rfl rfl (EC (.inl (by lia)))) rfl rfl) (fH (by lia))) (b2 rfl rfl (EC (.inl (by decide)))) rfl) rfl (de (by decide)))
 ·show some (PV.int (((B.map PV.int).length:Nat):Int))=_;rw[aJ,Bl]
def fI(N:Nat->Str)(b:Bg)(w:Bool):List Ky:=[(N 1,.bg b),(N 7,.bg b),(N 2,.ho w b),(N 3,.bg .nu),(N 4,.bg .nu),(N 5,.bg .nu),(N 6,.ho false .nu)]
theorem Sl(k:Nat)(N:Nat->Str)(rest:List ak)(b:Bg)(w:Bool)(C:Int):∃j:Nat,run aX (k+1) "_law_lets" [.ref 0,c0 b,.str (jJ w),.int C] (NC N::rest)=some (.ok (.aw (((fI N b w).drop j++(fI N b w).take j).map iW)),NC N::rest):=by
 obtain⟨j,hj⟩:∃j:Nat,(j:Int)=C%7:=⟨(C%7).toNat,by lia⟩
 have j7:j<7:=by lia
 refine⟨j,?_⟩;rw[Eg]
 generalize run aX k=c
 have e:∀h,Bu h (some (j:Int)) none (.lst ((fI N b w).map iW))=some (.lst (((fI N b w).drop j).map iW))/\Bu h none (some (j:Int)) (.lst ((fI N b w).map iW))=some (.lst (((fI N b w).take j).map iW)):=λh=>by
  constructor
  ·show some (PV.lst (iU ((fI N b w).map iW) (some (j:Int)) none))=_;rw[qO,List.map_drop]
  ·show some (PV.lst (iU ((fI N b w).map iW) none (some (j:Int))))=_;rw[AW,List.map_take]
 have m:∀s:bJ,Ev (rd 3) s (.int C) s->Ev (lA (op2 iS (rd 3) (kI 7))) s (some (j:Int)) s:=λs h=>by
  rw[hj];exact eB (b2 h rfl (de (by decide))) rfl
 rw[gE];refine lW (sq (s1:=Hs N rest [some (.ref 0),some (c0 b),some (.str (jJ w)),some (.int C),some (.lst (((fI N b w).take 5).map iW))]) (by kernel_rfl) (sq (s1:=Hs N rest [some (.ref 0),some (c0 b),some (.str (jJ w)),some (.int C),some (.lst ((fI N b w).map iW))]) (by kernel_rfl) (rS (bV (cA (b2 (z:=.lst (((fI N b w).drop j).map iW++((fI N b w).take j).map iW)) (cE rfl (m _ rfl) rfl (e _).1) (cE rfl rfl (m _ rfl) (e _).2) ?_) rfl) rfl))))
 exact if_pos (show(((fI N b w).drop j).map iW).length+(((fI N b w).take j).map iW).length<=ib by simp[fI];have:ib=4000000:=rfl;lia)
def F1(N:Nat->Str)(C:Int):Fd:=⟨N 9,[(N 1,.ho false .nu)],.bL,[(N 2,.bg .nu)],[.put (pl N 2) (.n (C%10^30)),.ju (.s ⟨N 1,true,.bL⟩),.eO ""]⟩
def F2(N:Nat->Str):Fd:=⟨N 11,[(N 1,.bg .nu)],c0 .nu,[],[.eO (N 1)]⟩
def F3(N:Nat->Str)(b:Bg)(w:Bool):Fd:=⟨N 12,[(N 1,.ho w b)],.aw [.str (jJ w),c0 b,.aw [.str (N 1)]],[],[.eO (N 1)]⟩
def F4(N:Nat->Str):Fd:=⟨N 10,[(N 0,.bg .nu)],.bL,[],[.call "" (N 8) (N 0),.ju (.s (pl N 0)),.eO ""]⟩
theorem Jd(k:Nat)(N:Nat->Str)(rest:List ak)(b:Bg)(w:Bool)(C:Int):run aX (k+2) "_law_called" [.ref 0,.str (jJ w),c0 b,.int C] (NC N::rest)=some (.ok (.aw [dz (F1 N C),dz (F2 N),dz (F3 N b w)]),NC N::rest):=by
 kernel_rfl
theorem Sm(k:Nat)(N:Nat->Str)(rest:List ak):run aX (k+2) "_law_lead" [.ref 0] (NC N::rest)=some (.ok (.aw [dz (F4 N)]),NC N::rest):=by
 kernel_rfl
theorem WU(N:Nat->Str)(C:Int):jV (F1 N C):=by
 refine⟨⟨ig rfl,rfl⟩,λn h=>⟨_,rfl⟩,ig rfl,λr hr=>?_⟩
 simp only[F1,aF,aQ,aU]at hr;rcases hr with rfl | rfl | rfl
 ·refine⟨⟨?_,λz=>nomatch z⟩,trivial⟩
  show ∃d,gx [(N 1,.ho false .nu),(N 2,.bg .nu)] (N 2)=some d
  simp only[gx];split
  ·exact⟨_,rfl⟩
  ·exact⟨_,rfl⟩
 ·trivial
 ·trivial
theorem WV(N:Nat->Str):jV (F2 N):=⟨⟨ig rfl,rfl⟩,λn h=>⟨_,rfl⟩,ig rfl,λr hr=>by rw[cH.mp hr];trivial⟩
theorem WW(N:Nat->Str)(b:Bg)(w:Bool):jV (F3 N b w):=⟨⟨ig rfl,by show noRef (.aw [.str (jJ w),c0 b,.aw [.str (N 1)]])=true;simp[noRef,au,show noRef (c0 b)=true from nH (.bg b)]⟩,λn h=>by cases b<;>exact⟨_,rfl⟩,ig rfl,λr hr=>by rw[cH.mp hr];trivial⟩
theorem WX(N:Nat->Str):jV (F4 N):=⟨⟨ig rfl,rfl⟩,λn h=>⟨_,rfl⟩,ig rfl,λr hr=>by
 simp only[F4,aF,aQ,aU]at hr;rcases hr with rfl | rfl | rfl<;>trivial⟩
theorem tK:∀{l:List Ky} {x:Str} {d:Kn},(l.map (·.1)).Nodup->(x,d)∈l->gx l x=some d
 | [],_,_,_,h=>(nomatch h)
 | r::l,x,d,hn,h=>by
  rw[bz,kh]at hn;rcases aF.mp h with rfl | h
  ·exact if_pos rfl
  ·unfold gx;rw[if_neg ?_]
   ·exact tK hn.2 h
   ·intro e;exact hn.1 (di.mpr ⟨(x,d),h,e.symm⟩)
def F0(N:Nat->Str)(b:Bg)(w:Bool)(j:Nat)(L:List Rw):Fd:=⟨N 8,[(N 0,.bg .nu)],.bL,(fI N b w).drop j++(fI N b w).take j,L⟩
theorem WY{N:Nat->Str}(hN:∀i j,i<=7->j<=7->N i=N j->i=j)(b:Bg)(w:Bool)(j:Nat){L:List Rw}(hL:∀r∈L,ox N r)(hl:L.length<=30):jV (F0 N b w j L):=by
 have pm:(S3 (F0 N b w j L)).Perm ((N 0,.bg .nu)::fI N b w):=by
  show([(N 0,Kn.bg .nu)]++((fI N b w).drop j++(fI N b w).take j)).Perm _;refine List.Perm.cons _ ?_;show((fI N b w).drop j++(fI N b w).take j).Perm _;refine List.perm_append_comm.trans ?_;rw[List.take_append_drop]
 have nd:((S3 (F0 N b w j L)).map (·.1)).Nodup:=by
  refine(pm.map _).nodup_iff.mpr ?_;show(([0,1,7,2,3,4,5,6]:List Nat).map N).Nodup;have:([0,1,7,2,3,4,5,6]:List Nat).Nodup:=by decide
  rw[List.Nodup,t5];refine this.imp_of_mem λ{a b} ha hb h e=>h (hN a b ?_ ?_ e)
  ·simp only[aF,aQ,aU]at ha;lia
  ·simp only[aF,aQ,aU]at hb;lia
 have get:∀{x d},(x,d)∈(N 0,Kn.bg .nu)::fI N b w->gx (S3 (F0 N b w j L)) x=some d:=λh=>tK nd (pm.mem_iff.mpr h)
 have dm:∀i,i<=7->Dm (F0 N b w j L) (N i):=λi hi=>by
  rcases i with _ | _ | _ | _ | _ | _ | _ | _ | _
  ·exact⟨_,get (d:=.bg .nu) (by simp[fI])⟩
  ·exact⟨_,get (d:=.bg b) (by simp[fI])⟩
  ·exact⟨_,get (d:=.ho w b) (by simp[fI])⟩
  ·exact⟨_,get (d:=.bg .nu) (by simp[fI])⟩
  ·exact⟨_,get (d:=.bg .nu) (by simp[fI])⟩
  ·exact⟨_,get (d:=.bg .nu) (by simp[fI])⟩
  ·exact⟨_,get (d:=.ho false .nu) (by simp[fI])⟩
  ·exact⟨_,get (d:=.bg b) (by simp[fI])⟩
  ·lia
 have n2:EN (F0 N b w j L) (N 2)=false:=by
  unfold EN;rw[get (d:=.ho w b) (by simp[fI])]
  rfl
 have sp:∀s,EU N s->IG (F0 N b w j L) s:=λs ⟨⟨i,hi,e⟩,h⟩=>⟨by rw[e];exact dm i hi,λz=>by rw[h z];exact n2⟩
 refine⟨⟨by simp[F0,fI];lia,rfl⟩,λn h=>⟨_,rfl⟩,hl,λr hr=>?_⟩
 have:=hL r hr;cases r with
 | put s o =>
  refine⟨sp s this.1,?_⟩;cases o with
  | n=>trivial
  | s s'=>exact sp s' this.2
 | set s g a c=>exact sp s this
 | AL a c to=>exact this
 | _=>trivial
theorem xA'{f:Gx PV}{ts:Gx (List PV)}{s:bJ}{ρ:List (Option PV)}{h h1:List ak}{n:Nat}{ps0 ps:List PV}{q:PV}(hf:Ev f s (.ref n) ⟨ρ,h⟩)(hc0:h[n]?=some ⟨.lst,ps0⟩)(ht:Ev ts ⟨ρ,h⟩ [q] ⟨ρ,h1⟩)(hc:h1[n]?=some ⟨.lst,ps⟩)(hl:ps.length<4000000):Ev (qT "list" (gU (fm kF)) f ts) s .bL ⟨ρ,h1.set n ⟨.lst,ps++[q]⟩⟩:=by
 refine eB hf (eB (a:=()) (s1:=⟨ρ,h⟩) ?_ (eB ht ?_))
 ·show(((cm h (.ref n)).bind _).map _)=_;have:cm h (.ref n)=some (.lst,ps0):=by
   show((h[n]?).bind _)=_;rw[hc0];rfl
  rw[this];rfl
 ·show((jP h1 (.ref n)).bind _)=_;have:jP h1 (.ref n)=some (n,⟨.lst,ps⟩):=by
   show((h1[n]?).bind _)=_;rw[hc];rfl
  rw[this];show(((if ps.length<ib then some (ps++[q])else none).map _).map _)=_
  rw[if_pos (show ps.length<ib from hl)]
  rfl
theorem WZ{p q:PV}(hp:dF dU p)(hq:dF dU q)(h:List ak):∃b,gM h p q=some (.bl b):=by
 obtain⟨x,e1⟩:=hp h;obtain⟨y,e2⟩:=hq h;refine⟨eqT x y,?_⟩;show(Dh h p q).map _=_;unfold Dh;rw[e1,e2];rfl
theorem yk(ns:List Int)(a b:Nat)(H:List ak):∃es:List Int,es.length<=b-a/\Bu H (some (a:Int)) (some (b:Int)) (dI ns)=some (.lst (es.map .int)):=by
 refine⟨(ns.drop (min a ns.length)).take (min b ns.length-min a ns.length),by rw[oT];lia,?_⟩
 show some (PV.lst (iU (ns.map .int) (some (a:Int)) (some (b:Int))))=_;unfold iU;rw[HT.og,HT.og,aJ,List.map_take,List.map_drop]
theorem vM{h:List ak}{n:Nat}{ps:List PV}(e:h[n]?=some ⟨.lst,ps⟩):nM h [.ref n]=some (.int ps.length):=by
 have:cm h (.ref n)=some (.lst,ps):=by
  show((h[n]?).bind _)=_;rw[e];rfl
 show((SJ h (.ref n)).map λn=>PV.int n)=_
 unfold SJ;rw[this];rfl
structure CD where
 S:PV
 N:Nat->Str
 b:Bg
 C:Int
 u:Str
 w:Bool
 r1:Rw
 r2:Rw
abbrev CD.st(d:CD)(t:List ak)(xs:List (Option PV)):bJ:=Hs d.N t (some d.S::some (.ref 0)::some (c0 d.b)::some (.int d.C)::some (.str d.u)::some (.str (jJ d.w))::some (ai d.r1)::some (ai d.r2)::xs)
structure CD.Ok (d:CD):Prop where
 inj:∀i j,i<=8->j<=8->d.N i=d.N j->i=j
 b:yg d.b
 r1:ox d.N d.r1
 r2:ox d.N d.r2
 ps:du d.r1=true
theorem Sn(k:Nat)(ns:List Int):∃d:CD,d.S=dI ns/\d.Ok/\Mv (run aX (k+4)) ⟨dE 17 [dI ns],[]⟩=sY (run aX (k+4)) (d.st [] [none,none,none,none,none,none,none,none,none]):=by
 obtain⟨N0,inj,hN⟩:=Cy (k+3) (cell ns 0) [];obtain⟨q,hq,xq⟩:=jx (λi:Nat=>PV.int (i:Int)) [9,2] (cell ns 0/5) (by simp)
 obtain⟨N,hNd⟩:∃N:Nat->Str,N=λi=>if i=9 then N0 q else N0 i:=⟨_,rfl⟩
 obtain⟨b,hb,hbg⟩:=WQ (k+3) (cell ns 1);obtain⟨u,w,r1,r2,c1,c2,c3,hf⟩:=MF (k+2) N [] hb (cell ns 2%1536) ((cell ns 2+7)*982451653%10^30);have hc:=λi=>vI (k+3) ns i
 generalize run aX (k+4)=c at hN hbg hf hc
 obtain⟨z,hz⟩:∃z,z=(cell ns 2+7)*982451653%10^30:=⟨_,rfl⟩
 rw[<-hz]at hf;have nr:noRef (dI ns)=true:=tq ns;have pc:∀(i:Nat) (s:bJ),Ev (rd 0) s (dI ns) s->Ev (bnd (aj (rd 0) (aj (aP (.int i)) (aP []))) (bD 0 2 (c "_law_cell_at"))) s (.int (cell ns i)) s:=λi s h=>dy (as:=[dI ns,.int i]) (cA h (cA rfl rfl)) rfl (by simp[au,noRef,nr]) (hc i)
 refine⟨⟨dI ns,N,b,cell ns 2,u,w,r1,r2⟩,rfl,⟨?_,hb,c1,c2,c3⟩,?_⟩
 ·intro i j hi hj e;rw[hNd]at e;simp only at e;rw[if_neg (by lia),if_neg (by lia)]at e
  exact inj i j (by lia) (by lia) e
 have e9:∀ρ,DE (.ref 0) (.int 9) (.str (N0 q)) ⟨ρ,[NC N0]⟩=some ⟨ρ,[NC N]⟩:=λρ=>by rw[hNd];rfl
 refine sq (s1:=⟨[some (dI ns),some (.ref 0),none,none,none,none,none,none,none,none,none,none,none,none,none,none,none],[NC N0]⟩) (aS (p:=.ref 0) (s1:=⟨[some (dI ns),none,none,none,none,none,none,none,none,none,none,none,none,none,none,none,none],[NC N0]⟩) (Mp (s1:=⟨[some (dI ns),none,none,none,none,none,none,none,none,none,none,none,none,none,none,none,none],[]⟩) (as:=[.int (cell ns 0),.int 13]) (cA (pc 0 _ rfl) (cA rfl rfl)) rfl rfl hN) rfl) ?_;refine sq (s1:=⟨[some (dI ns),some (.ref 0),none,none,none,none,none,none,none,none,none,none,none,none,none,none,none],[NC N]⟩) (pI (b2 (z:=.str (N0 q)) rfl (b2 (lS (cA rfl (cA rfl rfl)) (by simp)) (b2 (b2 (pc 0 _ rfl) rfl (fH (by decide))) rfl (de (by decide))) (xq _)) ?_) rfl rfl (e9 _)) ?_
 ·simp only[aF,aQ,aU]at hq;rcases hq with rfl | rfl<;>rfl
 refine sq (s1:=⟨[some (dI ns),some (.ref 0),some (c0 b),none,none,none,none,none,none,none,none,none,none,none,none,none,none],[NC N]⟩) (aS (dy (as:=[.int (cell ns 1)]) (cA (pc 1 _ rfl) rfl) rfl rfl hbg) rfl) ?_;refine sq (s1:=⟨[some (dI ns),some (.ref 0),some (c0 b),some (.int (cell ns 2)),none,none,none,none,none,none,none,none,none,none,none,none,none],[NC N]⟩) (aS (pc 2 _ rfl) rfl) ?_;exact sq (aS (Mp (s1:=⟨[some (dI ns),some (.ref 0),some (c0 b),some (.int (cell ns 2)),none,none,none,none,none,none,none,none,none,none,none,none,none],[NC N]⟩) (as:=[.ref 0,c0 b,.int (cell ns 2%1536),.int z]) (cA rfl (cA rfl (cA (b2 rfl rfl (de (by decide))) (cA (by rw[hz];exact b2 (b2 (b2 rfl rfl rfl) rfl (EC (.inr (by decide)))) (b2 rfl rfl (Ct _)) (de (by decide))) rfl)))) rfl rfl hf) rfl) rfl
theorem Cz{n:Nat}(l:List Int):dF (n+2) (.lst (l.map .int)):=R9 λp hp=>by
 obtain⟨x,_,rfl⟩:=di.mp hp;exact A1
theorem So(k:Nat)(ns:List Int){d:CD}(hS:d.S=dI ns)(ok:d.Ok):∃(L:List Rw) (bs es:List Int),(∀r∈L,ox d.N r)/\L.length<=9/\bs.length<=3/\es.length<=8/\(∀H,Bu H (some 9) (some 17) d.S=some (.lst (es.map .int)))/\sY (run aX (k+4)) (d.st [] [none,none,none,none,none,none,none,none,none])=sZ (run aX (k+4)) (d.st [cL (L.map ai)] [some (.ref 1),some (.lst (bs.map .int)),some (.int ((L.length+bs.length+es.length+7:Nat):Int)),none,none,none,none,none,none]):=by
 obtain⟨S,N,b,C,u,w,r1,r2⟩:=d;cases hS;obtain⟨L,hL,l9,hb⟩:=MH (k+2) N [] b w (cell ns 3);obtain⟨m,hm⟩:∃m:Nat,(m:Int)=cell ns 4%4:=⟨(cell ns 4%4).toNat,by lia⟩
 obtain⟨b0,b1,b2'⟩:=yk ns 5 (5+m) [NC N,cL (L.map ai)];obtain⟨es,e1,e2⟩:=yk ns 9 17 [];have hc:=λi=>vI (k+3) ns i
 generalize run aX (k+4)=c at hb hc
 have nr:noRef (dI ns)=true:=tq ns;have pc:∀(i:Nat) (s:bJ),Ev (rd 0) s (dI ns) s->Ev (bnd (aj (rd 0) (aj (aP (.int i)) (aP []))) (bD 0 2 (c "_law_cell_at"))) s (.int (cell ns i)) s:=λi s h=>dy (as:=[dI ns,.int i]) (cA h (cA rfl rfl)) rfl (by simp[au,noRef,nr]) (hc i)
 obtain⟨d,hd⟩:∃d:CD,d=⟨dI ns,N,b,C,u,w,r1,r2⟩:=⟨_,rfl⟩
 have bt:∃bs:List Int,bs.length<=3/\Ev (dc (dc Qg (toB (op2 gM (rd 9) Qj)) (aP false)) (fq (jX .lst (aj (op2 gQ (op2 xN (bnd (aj (rd 0) (aj (kI 4) (aP []))) (bD 0 2 (c "_law_cell_at"))) (kI 8)) (kI 1)) (aP []))) (b9 9)) (aP .nx)) (CD.st ⟨dI ns,N,b,C,u,w,r1,r2⟩ [cL (L.map ai)] [some (.ref 1),some (.lst (b0.map .int)),none,none,none,none,none,none,none]) .nx (CD.st ⟨dI ns,N,b,C,u,w,r1,r2⟩ [cL (L.map ai)] [some (.ref 1),some (.lst (bs.map .int)),none,none,none,none,none,none,none]):=by
  obtain⟨x,hx⟩:=WZ (Cz (n:=998) b0) (Cz (n:=998) []) [NC N,cL (L.map ai)];have z1:Ek Qg (CD.st ⟨dI ns,N,b,C,u,w,r1,r2⟩ [cL (L.map ai)] [some (.ref 1),some (.lst (b0.map .int)),none,none,none,none,none,none,none]) (u==("past":Str)):=bT (b2 rfl rfl (IB _ _ _));have z2:Ek (toB (op2 gM (rd 9) Qj)) (CD.st ⟨dI ns,N,b,C,u,w,r1,r2⟩ [cL (L.map ai)] [some (.ref 1),some (.lst (b0.map .int)),none,none,none,none,none,none,none]) x:=bT (b2 rfl (lS (ps:=[]) rfl (by simp)) hx)
  cases hu:(u==("past":Str))with
  | false=>rw[hu]at z1;exact⟨b0,by lia,iF (iF z1 rfl) rfl⟩
  | true =>
   rw[hu]at z1;cases x with
   | false=>exact⟨b0,by lia,iF (iT z1 z2) rfl⟩
   | true=>exact⟨[cell ns 4*8+1],by simp,iT (iT z1 z2) (aS (lS (cA (b2 (b2 (pc 4 _ rfl) rfl (EC (.inr (by decide)))) rfl rfl) rfl) (by simp)) rfl)⟩
 obtain⟨bs,l3,bt⟩:=bt;refine⟨L,bs,es,hL,l9,l3,e1,λH=>e2,?_⟩
 refine sq (s1:=CD.st ⟨dI ns,N,b,C,u,w,r1,r2⟩ [cL (L.map ai)] [some (.ref 1),none,none,none,none,none,none,none,none]) (aS (p:=.ref 1) (s1:=CD.st ⟨dI ns,N,b,C,u,w,r1,r2⟩ [cL (L.map ai)] [none,none,none,none,none,none,none,none,none]) (Mp (s1:=CD.st ⟨dI ns,N,b,C,u,w,r1,r2⟩ [] [none,none,none,none,none,none,none,none,none]) (as:=[.ref 0,c0 b,.str (jJ w),.int (cell ns 3)]) (cA rfl (cA rfl (cA rfl (cA (pc 3 _ rfl) rfl)))) rfl rfl hb) rfl) ?_;refine sq (s1:=CD.st ⟨dI ns,N,b,C,u,w,r1,r2⟩ [cL (L.map ai)] [some (.ref 1),some (.lst (b0.map .int)),none,none,none,none,none,none,none]) (aS (cE (l:=some 5) (h:=some ((5+m:Nat):Int)) rfl rfl (eB (a:=.int ((5+m:Nat):Int)) (b2 rfl (b2 (pc 4 _ rfl) rfl (de (by decide))) (by rw[<-hm];rfl)) rfl) b2') rfl) ?_
 refine sq bt ?_;refine sq (s1:=CD.st ⟨dI ns,N,b,C,u,w,r1,r2⟩ [cL (L.map ai)] [some (.ref 1),some (.lst (bs.map .int)),some (.int ((L.length+bs.length+es.length+7:Nat):Int)),none,none,none,none,none,none]) (aS (p:=.int ((L.length+bs.length+es.length+7:Nat):Int)) (b2 (b2 (b2 (bV (cA rfl rfl) (z:=.int L.length) ?_) (bV (cA rfl rfl) (z:=.int bs.length) ?_) rfl) (bV (cA (cE (l:=some 9) (h:=some 17) rfl rfl rfl e2) rfl) (z:=.int es.length) ?_) rfl) rfl rfl) rfl) rfl
 ·rw[vM (h:=[NC N,cL (L.map ai)]) rfl,aJ]
 ·show some (PV.int (((bs.map PV.int).length:Nat):Int))=_;rw[aJ]
 ·show some (PV.int (((es.map PV.int).length:Nat):Int))=_;rw[aJ]
structure Rows (N:Nat->Str) (t:List ak) (L:List Rw):Prop where
 at_:t[0]?=some (cL (L.map ai))
 ok:∀r∈L,ox N r
theorem Je{N:Nat->Str}{L:List Rw}{r:Rw}(h:∀r∈L,ox N r)(hr:ox N r):∀x∈L++[r],ox N x:=λx hx=>by
 rcases fQ.mp hx with h1 | h1
 ·exact h x h1
 ·rw[cH.mp h1];exact hr
theorem Rows.app{N:Nat->Str}{t:List ak}{L:List Rw}{r:Rw}(h:Rows N t L)(hr:ox N r):Rows N (t.set 0 (cL ((L++[r]).map ai))) (L++[r]):=⟨oy h.at_,Je h.ok hr⟩
section
variable (k:Nat) {d:CD} (ok:d.Ok) (B:Option PV) (M:Nat) (hM:0<M/\M<60)
include ok hM
theorem nj:∀(l:List Int) (t:List ak) (L:List Rw) (iR:Option PV) (xs:List (Option PV)),Rows d.N t L->L.length+l.length<50->∃t' L' x',L'.length=L.length+l.length/\Rows d.N t' L'/\dD (b9 11) (Eh (run aX (k+4))) (l.map .int) (d.st t (some (.ref 1)::B::some (.int M)::iR::xs))=some (.ok .nx,d.st t' (some (.ref 1)::B::some (.int M)::x'::xs))
 | [],t,L,iR,xs,h,_=>⟨t,L,iR,rfl,h,rfl⟩
 | C::l,t,L,iR,xs,h,hl=>by
  simp only[dh]at hl;obtain⟨r,t1,c1,c2,c3⟩:=Jb (k+1) d.N t ok.b d.w C L.length M (by lia) (by lia)
  have tl:0<t.length:=(b6.mp h.at_).1;have h1:Rows d.N t1 L:=⟨(c2 0 tl).trans h.at_,h.ok⟩;obtain⟨t',L',x',e1,e2,e3⟩:=nj l (t1.set 0 (cL ((L++[r]).map ai))) (L++[r]) (some (.int C)) xs (h1.app c1) (by simp;lia)
  refine⟨t',L',x',by rw[e1];simp;lia,e2,?_⟩
  generalize run aX (k+4)=c at c3 e3 ⊢
  refine fC (s1:=d.st t (some (.ref 1)::B::some (.int M)::some (.int C)::xs)) (s2:=d.st (t1.set 0 (cL ((L++[r]).map ai))) (some (.ref 1)::B::some (.int M)::some (.int C)::xs)) rfl ?_ e3;rw[gE];refine dS (xA' (f:=rd 8) (n:=1) (h:=NC d.N::t) (h1:=NC d.N::t1) (ps0:=L.map ai) (ps:=L.map ai) (q:=ai r) rfl (by simpa using h.at_) (cA (Mp (s1:=d.st t (some (.ref 1)::B::some (.int M)::some (.int C)::xs)) (as:=[.ref 0,c0 d.b,.str (jJ d.w),.int C,.int L.length,.int M]) (cA rfl (cA rfl (cA rfl (cA rfl (cA (bV (cA rfl rfl) ?_) (cA rfl rfl)))))) rfl rfl c3) rfl) (by simpa using h1.at_) (by rw[aJ];lia))
  rw[vM (h:=NC d.N::t) (ps:=L.map ai) (by simpa using h.at_),aJ]
end
theorem apD{d:CD}{t:List ak}{L:List Rw}{r:Rw}{xs:List (Option PV)}{e:Gx PV}(h:Rows d.N t L)(hr:ox d.N r) (he:Ek e (d.st t (some (.ref 1)::xs)) (ai r)) (hl:L.length<100):Ev (gr (qT "list" (gU (fm kF)) (rd 8) (aj e (aP [])))) (d.st t (some (.ref 1)::xs)) .nx (d.st (t.set 0 (cL ((L++[r]).map ai))) (some (.ref 1)::xs)):=WR (f:=rd 8) (n:=0) rfl (cA he rfl) h.at_ (by lia)
theorem Sq(k:Nat){d:CD}(ok:d.Ok){L:List Rw}(hL:∀r∈L,ox d.N r)(l9:L.length<=9){bs es:List Int}(l3:bs.length<=3)(l8:es.length<=8)(SO:∀H,Bu H (some 9) (some 17) d.S=some (.lst (es.map .int))){M:Nat}(hM:0<M/\M<60):∃(t:List ak) (L':List Rw) (x:Option PV),L'.length=L.length+bs.length+es.length+2/\Rows d.N t L'/\sZ (run aX (k+4)) (d.st [cL (L.map ai)] [some (.ref 1),some (.lst (bs.map .int)),some (.int M),none,none,none,none,none,none])=qE (run aX (k+4)) (d.st t [some (.ref 1),some (.lst (bs.map .int)),some (.int M),x,none,none,none,none,none]):=by
 have h0:Rows d.N [cL (L.map ai)] L:=⟨rfl,hL⟩;have h1:=h0.app ok.r1;obtain⟨t2,L2,x2,e1,e2,e3⟩:=nj k ok (some (.lst (bs.map .int))) M hM bs _ _ none [none,none,none,none,none] h1 (by simp;lia)
 have h3:=e2.app ok.r2;obtain⟨t4,L4,x4,f1,f2,f3⟩:=nj k ok (some (.lst (bs.map .int))) M hM es _ _ x2 [none,none,none,none,none] h3 (by simp;simp at e1;lia)
 refine⟨t4,L4,x4,by simp at e1 f1;lia,f2,?_⟩
 generalize run aX (k+4)=c at e3 f3 ⊢
 exact sq (apD h0 ok.r1 rfl (by lia)) (sq (fS (sV rfl rfl) e3) (sq (apD e2 ok.r2 rfl (by simp at e1;lia)) (sq (fS (sV (cE (l:=some 9) (h:=some 17) rfl rfl rfl (SO _)) rfl) f3) rfl)))
theorem qQ(c:CT){d:CD}(ok:d.Ok){s1:Sp}(h1:∀h,dt h (ai d.r1) (.int 1)=some (bA s1))(x9 qW iR nJ:Option PV)(xs:List (Option PV)):∀(l:List Sp) (t:List ak) (L:List Rw) (n6:Option PV),Rows d.N t L->L.length+l.length<90->∃t' L' x',L.length<=L'.length/\L'.length<=L.length+l.length/\Rows d.N t' L'/\dD (b9 13) (Ei c) (l.map bA) (d.st t (some (.ref 1)::x9::qW::iR::nJ::n6::xs))=some (.ok .nx,d.st t' (some (.ref 1)::x9::qW::iR::nJ::x'::xs))
 | [],t,L,n6,h,_=>⟨t,L,n6,az _,az _,h,rfl⟩
 | s::l,t,L,n6,h,hl=>by
  simp only[dh]at hl;have z1:Ek Qt (d.st t (some (.ref 1)::x9::qW::iR::nJ::some (bA s)::xs)) (!(d.u==("unread":Str))):=bT (b2 rfl rfl rfl);have z2:Ek Qm (d.st t (some (.ref 1)::x9::qW::iR::nJ::some (bA s)::xs)) (!eP (.s s) (.s s1)):=bT (b2 rfl (b2 rfl rfl (h1 _)) (NL _ (.s s) (.s s1)));obtain⟨x,hx⟩:∃x,Ek (dc Qt (aP true) Qm) (d.st t (some (.ref 1)::x9::qW::iR::nJ::some (bA s)::xs)) x:=⟨_,Ww z1 λ_=>z2⟩
  cases x with
  | true =>
   obtain⟨t',L',x',a1,a2,a3,a4⟩:=qQ c ok h1 x9 qW iR nJ xs l _ (L++[.ju (.s s)]) (some (bA s)) (h.app (r:=.ju (.s s)) trivial) (by simp;lia)
   refine⟨t',L',x',by simp at a1;lia,by simp at a2;simp;lia,a3,fC (s1:=d.st t (some (.ref 1)::x9::qW::iR::nJ::some (bA s)::xs)) rfl (iT hx (apD (r:=.ju (.s s)) h trivial (tU (cA rfl (cA rfl rfl)) (by simp)) (by lia))) a4⟩
  | false =>
   obtain⟨t',L',x',a1,a2,a3,a4⟩:=qQ c ok h1 x9 qW iR nJ xs l t L (some (bA s)) h (by lia)
   exact⟨t',L',x',a1,by simp;lia,a3,fC (s1:=d.st t (some (.ref 1)::x9::qW::iR::nJ::some (bA s)::xs)) rfl (iF hx rfl) a4⟩
theorem Sr(k:Nat){d:CD}(ok:d.Ok){t:List ak}{L:List Rw}(h:Rows d.N t L){M:Nat}(hM:M=L.length+5)(hl:L.length<=25)(x9 iR:Option PV):∃(t':List ak) (L':List Rw) (n:Nat) (nJ n6:Option PV),t'[n]?=some (cL (L'.map ai))/\(∀r∈L',ox d.N r)/\L'.length<=30/\qE (run aX (k+4)) (d.st t [some (.ref 1),x9,some (.int M),iR,none,none,none,none,none])=kR (run aX (k+4)) (d.st t' [some (.ref (n+1)),x9,some (.int M),iR,nJ,n6,none,none,none]):=by
 obtain⟨mi,m1,m2,hm⟩:=kU (k+3) (d.N 1) false ok.b (d.C/6);have pn:∀i:Nat,aL (run aX (k+4) "_law_plain" [.str (d.N i)] []) (bA (pl d.N i)):=λi=>⟨_,[],jH (k+3) (d.N i) [],rfl⟩
 generalize run aX (k+4)=c at hm pn ⊢
 have pw:∀(i:Nat) (s:bJ),Ev (op2 dt (rd 1) (aP (.int i))) s (.str (d.N i)) s->Ev (bnd (aj (op2 dt (rd 1) (aP (.int i))) (aP [])) (bD 0 1 (c "_law_plain"))) s (bA (pl d.N i)) s:=λi s h=>dy (as:=[.str (d.N i)]) (cA h rfl) rfl (by simp[au,noRef]) (pn i)
 obtain⟨s1,VA⟩:∃s1,∀h,dt h (ai d.r1) (.int 1)=some (bA s1):=by
  have:=ok.ps;cases hr:d.r1 with
  | put s o=>exact⟨s,λ_=>rfl⟩
  | set s g a b=>exact⟨s,λ_=>rfl⟩
  | _=>rw[hr]at this;cases this
 have nb:noRef (c0 d.b)=true:=nH (.bg d.b);obtain⟨t1,L1,n6,a1,a2,a3,a4⟩:=qQ c ok VA x9 (some (.int M)) iR (some (bA mi)) [none,none,none] [mi,pl d.N 5,pl d.N 3,pl d.N 4] t L none h (by simp;lia)
 simp only[dh,oZ]at a2;obtain⟨G,hG⟩:∃G:List Rw,G=List.replicate (M-1-L1.length) (.go ((M:Int)-1)):=⟨_,rfl⟩
 have Gl:G.length=M-1-L1.length:=by rw[hG];simp
 refine⟨t1++[cL (((L1.map ai)++G.map ai)++[ai (.eO "")])],L1++G++[.eO ""],t1.length,some (bA mi),n6,by rw[mm];simp,?_,by simp;lia,?_⟩
 ·refine Je (λr hr=>?_) trivial
  rcases fQ.mp hr with hr | hr
  ·exact a3.ok r hr
  ·rw[hG]at hr;rw[(List.mem_replicate.mp hr).2];trivial
 have rw1:cm (NC d.N::t1) (.ref 1)=some (.lst,L1.map ai):=by
  show((t1[0]?).bind _)=_;rw[a3.at_];rfl
 refine sq (s1:=d.st t [some (.ref 1),x9,some (.int M),iR,some (bA mi),none,none,none,none]) (aS (dy (as:=[.str (d.N 1),.bl false,c0 d.b,.int (d.C/6)]) (cA (b2 rfl rfl rfl) (cA rfl (cA rfl (cA (b2 rfl rfl (fH (by decide))) rfl)))) rfl (by simp[au,noRef,nb]) hm) rfl) ?_
 refine sq (fS (s1:=d.st t [some (.ref 1),x9,some (.int M),iR,some (bA mi),none,none,none,none]) (sV (lS (cA rfl (cA (pw 5 _ rfl) (cA (pw 3 _ rfl) (cA (pw 4 _ rfl) rfl)))) (by simp)) rfl) a4) ?_
 refine sq (s1:=d.st (t1++[cL (((L1.map ai)++G.map ai)++[ai (.eO "")])]) [some (.ref (t1.length+1)),x9,some (.int M),iR,some (bA mi),n6,none,none,none]) (aS (p:=.ref (t1.length+1)) (s1:=d.st (t1++[cL (((L1.map ai)++G.map ai)++[ai (.eO "")])]) [some (.ref 1),x9,some (.int M),iR,some (bA mi),n6,none,none,none]) (eB (a:=.lst (L1.map ai++G.map ai)) (s1:=d.st t1 [some (.ref 1),x9,some (.int M),iR,some (bA mi),n6,none,none,none]) (b2 rfl (b2 (lS (cA (tU (cA rfl (cA (b2 rfl rfl rfl) rfl)) (by simp)) rfl) (by simp)) (b2 (b2 rfl rfl rfl) (bV (cA rfl rfl) (z:=.int L1.length) ?_) rfl) (z:=.lst (G.map ai)) ?_) ?_) (eB (a:=.lst [ai (.eO "")]) (s1:=d.st t1 [some (.ref 1),x9,some (.int M),iR,some (bA mi),n6,none,none,none]) (lS (cA (tU (cA rfl (cA rfl rfl)) (by simp)) rfl) (by simp)) (eB (a:=(L1.map ai++G.map ai)++[ai (.eO "")]) (s1:=d.st t1 [some (.ref 1),x9,some (.int M),iR,some (bA mi),n6,none,none,none]) ?_ rfl))) rfl) rfl
 ·rw[vM (h:=NC d.N::t1) (ps:=L1.map ai) (by simpa using a3.at_),aJ]
 ·have e:Rl (NC d.N::t1) (.lst [ai (.go ((M:Int)-1))]) ((M:Int)-1-(L1.length:Int))=some (G.map ai):=by
   have e1:((M:Int)-1-(L1.length:Int)).toNat=M-1-L1.length:=by lia
   show(if(-1000<=((M:Int)-1-(L1.length:Int))/\((M:Int)-1-(L1.length:Int))<=1000/\([ai (.go ((M:Int)-1))]:List PV).length<=100)then some (List.replicate ((M:Int)-1-(L1.length:Int)).toNat [ai (.go ((M:Int)-1))]).flatten else none)=_
   rw[if_pos ⟨by lia,by lia,by simp⟩,e1,hG,List.map_replicate]
   congr 1
   generalize M-1-L1.length=q
   induction q with
   | zero=>rfl
   | succ q ih=>rw[i3,kc,ih];rfl
  show(Rl (NC d.N::t1) (.lst [ai (.go ((M:Int)-1))]) ((M:Int)-1-(L1.length:Int))).map PV.lst=_;rw[e];rfl
 ·have e:fA (NC d.N::t1) (.ref 1)=some (L1.map ai):=by unfold fA;rw[rw1]
  show((fA (NC d.N::t1) (.ref 1)).bind λxs=>(fA (NC d.N::t1) (.lst (G.map ai))).bind λys=>sizeOk (xs.length+ys.length) (.lst (xs++ys)))=_
  rw[e];exact if_pos (show(L1.map ai).length+(G.map ai).length<=ib by simp;have:ib=4000000:=rfl;lia)
 ·have:DZ (NC d.N::t1) (.lst (L1.map ai++G.map ai)) (.lst [ai (.eO "")])=some ((L1.map ai++G.map ai)++[ai (.eO "")]):=if_pos (show(L1.map ai++G.map ai).length+1<=ib by simp;have:ib=4000000:=rfl;lia)
  show(DZ (NC d.N::t1) (.lst (L1.map ai++G.map ai)) (.lst [ai (.eO "")])).map _=_;rw[this];rfl
theorem CA{h:List ak}{n:Nat}{ps:List PV}(e:h[n]?=some ⟨.lst,ps⟩):zN h [.ref n]=some (.aw ps):=by
 have:cm h (.ref n)=some (.lst,ps):=by
  show((h[n]?).bind _)=_;rw[e];rfl
 show((fA h (.ref n)).map λqs=>PV.aw qs)=_
 unfold fA;rw[this];rfl
theorem Ss(k:Nat)(ns:List Int){d:CD}(hS:d.S=dI ns)(ok:d.Ok){t:List ak}{n:Nat}{L:List Rw}(ht:t[n]?=some (cL (L.map ai)))(hL:∀r∈L,ox d.N r)(hl:L.length<=30)(x9 qW iR nJ n6:Option PV):∃Fs,fN Fs/\Fs.length<=1000/\∃ρ h,kR (run aX (k+4)) (d.st t [some (.ref (n+1)),x9,qW,iR,nJ,n6,none,none,none])=some (.ok (.rt (bZ Fs)),⟨ρ,h⟩):=by
 obtain⟨S,N,b,C,u,w,r1,r2⟩:=d;cases hS;obtain⟨j,hj⟩:=Sl (k+3) N t b w (cell ns 1/32);have hcl:=Jd (k+2) N t b w C;have hld:=Sm (k+2) N t;have hc:=λi=>vI (k+3) ns i
 generalize run aX (k+4)=c at hj hcl hld hc
 have nr:noRef (dI ns)=true:=tq ns;have pc:∀(i:Nat) (s:bJ),Ev (rd 0) s (dI ns) s->Ev (bnd (aj (rd 0) (aj (aP (.int i)) (aP []))) (bD 0 2 (c "_law_cell_at"))) s (.int (cell ns i)) s:=λi s h=>dy (as:=[dI ns,.int i]) (cA h (cA rfl rfl)) rfl (by simp[au,noRef,nr]) (hc i)
 have f0:jV (F0 N b w j L):=WY (λi j hi hj=>ok.inj i j (by lia) (by lia)) b w j hL hl
 have ht1:(NC N::t)[n+1]?=some (cL (L.map ai)):=by simpa using ht
 obtain⟨z,hz⟩:∃z,z=(cell ns 1/224%2==0):=⟨_,rfl⟩
 obtain⟨q,hq⟩:∃q:Nat,(q:Int)=cell ns 0/10%4:=⟨(cell ns 0/10%4).toNat,by lia⟩
 obtain⟨K,hK⟩:∃K:List Fd,K=[F1 N C,F2 N,F3 N b w]:=⟨_,rfl⟩
 have Kok:∀F∈K,jV F:=by
  rw[hK];intro F hF;simp only[aF,aQ,aU]at hF;rcases hF with rfl | rfl | rfl
  ·exact WU N C
  ·exact WV N
  ·exact WW N b w
 have Kl:K.length=3:=by rw[hK];rfl
 have pre:∀{R},(eu (dc (toB (op2 gM (op2 iS (op2 gR (bnd Qs (bD 0 2 (c "_law_cell_at"))) (kI 224)) (kI 2)) (kI 0))) (nN (op2 gQ Qu (rd 16))) (aP .nx)) (eu (fq (op2 iS (op2 gR (bnd (aj (rd 0) (aj (kI 0) (aP []))) (bD 0 2 (c "_law_cell_at"))) (kI 10)) (kI 4)) (b9 13)) (nN (op2 gQ (op2 gQ (op2 gQ (bnd Q0 (bD 0 1 (c "_law_lead"))) (cutE (rd 16) (aP none) (lA (rd 13)))) Qu) (cutE (rd 16) (lA (rd 13)) (aP none)))))) (CD.st ⟨dI ns,N,b,C,u,w,r1,r2⟩ t [some (.ref (n+1)),x9,qW,iR,nJ,n6,some (.aw (((fI N b w).drop j++(fI N b w).take j).map iW)),some (dz (F0 N b w j L)),some (.aw (K.map dz))])=R->kR c (CD.st ⟨dI ns,N,b,C,u,w,r1,r2⟩ t [some (.ref (n+1)),x9,qW,iR,nJ,n6,none,none,none])=R:=λ{R} hR=>by
  refine sq (s1:=CD.st ⟨dI ns,N,b,C,u,w,r1,r2⟩ t [some (.ref (n+1)),x9,qW,iR,nJ,n6,some (.aw (((fI N b w).drop j++(fI N b w).take j).map iW)),none,none]) (aS (Mp (s1:=CD.st ⟨dI ns,N,b,C,u,w,r1,r2⟩ t [some (.ref (n+1)),x9,qW,iR,nJ,n6,none,none,none]) (as:=[.ref 0,c0 b,.str (jJ w),.int (cell ns 1/32)]) (cA rfl (cA rfl (cA rfl (cA (b2 (pc 1 _ rfl) rfl (fH (by decide))) rfl)))) rfl rfl hj) rfl) ?_
  refine sq (s1:=CD.st ⟨dI ns,N,b,C,u,w,r1,r2⟩ t [some (.ref (n+1)),x9,qW,iR,nJ,n6,some (.aw (((fI N b w).drop j++(fI N b w).take j).map iW)),some (dz (F0 N b w j L)),none]) (aS (p:=dz (F0 N b w j L)) (tU (cA (b2 rfl rfl rfl) (cA (tU (cA (tU (cA (b2 rfl rfl rfl) (cA (tU (cA rfl rfl) (by simp)) rfl)) (by simp)) rfl) (by simp[F0])) (cA rfl (cA rfl (cA (bV (cA rfl rfl) (CA ht1)) rfl))))) (by simp)) rfl) ?_
  exact sq (aS (p:=.aw (K.map dz)) (by rw[hK];exact Mp (s1:=CD.st ⟨dI ns,N,b,C,u,w,r1,r2⟩ t [some (.ref (n+1)),x9,qW,iR,nJ,n6,some (.aw (((fI N b w).drop j++(fI N b w).take j).map iW)),some (dz (F0 N b w j L)),none]) (as:=[.ref 0,.str (jJ w),c0 b,.int C]) (cA rfl (cA rfl (cA rfl (cA rfl rfl)))) rfl rfl hcl) rfl) hR
 have t1:Ek (toB (op2 gM (op2 iS (op2 gR (bnd Qs (bD 0 2 (c "_law_cell_at"))) (kI 224)) (kI 2)) (kI 0))) (CD.st ⟨dI ns,N,b,C,u,w,r1,r2⟩ t [some (.ref (n+1)),x9,qW,iR,nJ,n6,some (.aw (((fI N b w).drop j++(fI N b w).take j).map iW)),some (dz (F0 N b w j L)),some (.aw (K.map dz))]) z:=by
  rw[hz];exact bT (b2 (b2 (b2 (pc 1 _ rfl) rfl (fH (by decide))) rfl (de (by decide))) rfl (yh _ _ _))
 cases z with
 | true =>
  refine⟨F0 N b w j L::K,λF hF=>?_,by simp;lia,_,_,pre (vP (iT t1 (rS (b2 (tU (cA rfl rfl) (by simp)) rfl (aT (by simp;lia))))))⟩
  rcases aF.mp hF with rfl | hF
  ·exact f0
  ·exact Kok F hF
 | false =>
  have cu:∀H,Bu H none (some (q:Int)) (.aw (K.map dz))=some (.aw ((K.take q).map dz))/\Bu H (some (q:Int)) none (.aw (K.map dz))=some (.aw ((K.drop q).map dz)):=λH=>by
   constructor
   ·show some (PV.aw (iU (K.map dz) none (some (q:Int))))=_;rw[AW,List.map_take]
   ·show some (PV.aw (iU (K.map dz) (some (q:Int)) none))=_;rw[qO,List.map_drop]
  refine⟨[F4 N]++K.take q++[F0 N b w j L]++K.drop q,λF hF=>?_,by simp;lia,[some (dI ns),some (.ref 0),some (c0 b),some (.int C),some (.str u),some (.str (jJ w)),some (ai r1),some (ai r2),some (.ref (n+1)),x9,qW,iR,nJ,some (.int q),some (.aw (((fI N b w).drop j++(fI N b w).take j).map iW)),some (dz (F0 N b w j L)),some (.aw (K.map dz))],NC N::t,pre (sq (iF t1 rfl) (sq (s1:=CD.st ⟨dI ns,N,b,C,u,w,r1,r2⟩ t [some (.ref (n+1)),x9,qW,iR,nJ,some (.int q),some (.aw (((fI N b w).drop j++(fI N b w).take j).map iW)),some (dz (F0 N b w j L)),some (.aw (K.map dz))]) (aS (p:=.int q) (s1:=CD.st ⟨dI ns,N,b,C,u,w,r1,r2⟩ t [some (.ref (n+1)),x9,qW,iR,nJ,n6,some (.aw (((fI N b w).drop j++(fI N b w).take j).map iW)),some (dz (F0 N b w j L)),some (.aw (K.map dz))]) (by rw[hq];exact b2 (b2 (pc 0 _ rfl) rfl (fH (by decide))) rfl (de (by decide))) rfl) (rS ?_)))⟩
  ·simp only[fQ,cH]at hF;rcases hF with((rfl | hF) | rfl) | hF
   ·exact WX N
   ·exact Kok F (List.mem_of_mem_take hF)
   ·exact f0
   ·exact Kok F (List.mem_of_mem_drop hF)
  ·show Ev _ _ (PV.aw (([F4 N]++K.take q++[F0 N b w j L]++K.drop q).map dz)) _;rw[show([F4 N]++K.take q++[F0 N b w j L]++K.drop q).map dz=[dz (F4 N)]++(K.take q).map dz++[dz (F0 N b w j L)]++(K.drop q).map dz by simp]
   exact b2 (b2 (b2 (Mp (s1:=CD.st ⟨dI ns,N,b,C,u,w,r1,r2⟩ t [some (.ref (n+1)),x9,qW,iR,nJ,some (.int q),some (.aw (((fI N b w).drop j++(fI N b w).take j).map iW)),some (dz (F0 N b w j L)),some (.aw (K.map dz))]) (as:=[.ref 0]) (cA rfl rfl) rfl rfl hld) (cE rfl rfl rfl (cu _).1) (aT (by simp;lia))) (tU (cA rfl rfl) (by simp)) (aT (by simp;lia))) (cE rfl rfl rfl (cu _).2) (aT (by simp;lia))
theorem MK(k:Nat)(ns:List Int):∃Fs,fN Fs/\Fs.length<=1000/\aL (run aX (k+5) "_law_case" [dI ns] []) (bZ Fs):=by
 obtain⟨d,hS,ok,eA⟩:=Sn k ns;obtain⟨L,bs,es,hL,l9,l3,l8,SO,eB⟩:=So k ns hS ok;obtain⟨t,L',x,LO,hR,eC⟩:=Sq k ok hL l9 l3 l8 SO (M:=L.length+bs.length+es.length+7) (by lia)
 obtain⟨t',L2,n,nJ,n6,a1,a2,a3,eD⟩:=Sr k ok hR (M:=L.length+bs.length+es.length+7) (by lia) (by lia) (some (.lst (bs.map .int))) x
 obtain⟨Fs,hP,hl,ρ,h,eE⟩:=Ss k ns hS ok a1 a2 a3 (some (.lst (bs.map .int))) (some (.int ((L.length+bs.length+es.length+7:Nat):Int))) x nJ n6;refine⟨Fs,hP,hl,?_⟩;have e0:=Ej (k+4);rw[e0];exact⟨bZ Fs,h,lW (((((eA.trans eB).trans eC).trans eD).trans eE)),Aw (tx hP)⟩
def AR(N:Nat->Str):Rw->Prop
 | .put s o=>(s=pl N 1\/s=pl N 2)/\((∃i,o=.n i)\/o=.s (pl N 1)\/o=.s (pl N 2))
 | .ju _=>True
 | .eO _=>True
 | _=>False
def FA(N:Nat->Str)(L:List Rw):Fd:=⟨N 8,[],.bL,[(N 1,.bg .nu),(N 2,.bg .nu)],L⟩
theorem W0(N:Nat->Str){L:List Rw}(hL:∀r∈L,AR N r)(hl:L.length<=30):jV (FA N L):=by
 have sp:∀s,s=pl N 1\/s=pl N 2->IG (FA N L) s:=λs h=>by
  rcases h with rfl | rfl
  ·exact⟨⟨_,if_pos rfl⟩,λz=>nomatch z⟩
  ·refine⟨?_,λz=>nomatch z⟩
   show ∃d,gx [(N 1,.bg .nu),(N 2,.bg .nu)] (N 2)=some d
   simp only[gx];split
   ·exact⟨_,rfl⟩
   ·exact⟨_,rfl⟩
 refine⟨⟨ig rfl,rfl⟩,λn h=>⟨_,rfl⟩,hl,λr hr=>?_⟩
 have:=hL r hr;cases r with
 | put s o =>
  obtain⟨h1,h2⟩:=this;refine⟨sp s h1,?_⟩;rcases h2 with⟨i,rfl⟩ | rfl | rfl
  ·trivial
  ·exact sp _ (.inl rfl)
  ·exact sp _ (.inr rfl)
 | set s g a b=>exact this.elim
 | AL a b t=>exact this.elim
 | _=>trivial
abbrev Su(S:PV)(N:Nat->Str)(C:Int)(x6 x7 x8:Option PV)(L:List Rw):bJ:=⟨[some S,some (.lst (Ja N)),some (.int C),some (bA (pl N 1)),some (bA (pl N 2)),some (.ref 0),x6,x7,x8,none],[cL (L.map ai)]⟩
theorem CB(c:CT)(S:PV)(N:Nat->Str)(C:Int):∀(l:List Nat) (L:List Rw) (x6 x7 x8:Option PV),(∀r∈L,AR N r)->(∀q∈l,q<100)->L.length+l.length<25->∃L' y6 y7 y8,L'.length=L.length+l.length/\(∀r∈L',AR N r)/\dD (b9 6) (AG c) (l.map λn:Nat=>.int (n:Int)) (Su S N C x6 x7 x8 L)=some (.ok .nx,Su S N C y6 y7 y8 L')
 | [],L,x6,x7,x8,h,_,_=>⟨L,x6,x7,x8,rfl,h,rfl⟩
 | q::l,L,x6,x7,x8,h,hq,hl=>by
  simp only[dh]at hl;have q1:=hq q bQ;obtain⟨n,hn⟩:∃n,n=(C+31*(q:Int))*48271%2147483647/8:=⟨_,rfl⟩
  obtain⟨r,hr,xr⟩:=jx ai [.put (pl N 1) (.n n),.put (pl N 2) (.n (n%99)),.put (pl N 1) (.s (pl N 2)),.ju (.s (pl N 1))] n (by simp)
  have ar:AR N r:=by
   simp only[aF,aQ,aU]at hr;rcases hr with rfl | rfl | rfl | rfl
   ·exact⟨.inl rfl,.inl ⟨_,rfl⟩⟩
   ·exact⟨.inr rfl,.inl ⟨_,rfl⟩⟩
   ·exact⟨.inl rfl,.inr (.inr rfl)⟩
   ·trivial
  obtain⟨L',y6,y7,y8,a1,a2,a3⟩:=CB c S N C l (L++[r]) (some (.int q)) (some (.int n)) (some (.lst [ai (.put (pl N 1) (.n n)),ai (.put (pl N 2) (.n (n%99))),ai (.put (pl N 1) (.s (pl N 2))),ai (.ju (.s (pl N 1)))])) (λx hx=>by
   rcases fQ.mp hx with h1 | h1
   ·exact h x h1
   ·rw[cH.mp h1];exact ar) (λx hx=>hq x (bF _ hx)) (by simp;lia)
  refine⟨L',y6,y7,y8,by rw[a1];simp;lia,a2,fC (s1:=Su S N C (some (.int q)) x7 x8 L) (s2:=Su S N C (some (.int q)) (some (.int n)) (some (.lst [ai (.put (pl N 1) (.n n)),ai (.put (pl N 2) (.n (n%99))),ai (.put (pl N 1) (.s (pl N 2))),ai (.ju (.s (pl N 1)))])) (L++[r])) rfl ?_ a3⟩
  refine sq (s1:=Su S N C (some (.int q)) (some (.int n)) x8 L) (aS (p:=.int n) (b2 (b2 (b2 (b2 rfl (b2 rfl rfl (EC (.inl (by decide)))) rfl) rfl (EC (.inr (by decide)))) rfl (de (by decide))) rfl (by rw[hn];exact fH (by decide))) rfl) ?_
  refine sq (s1:=Su S N C (some (.int q)) (some (.int n)) (some (.lst [ai (.put (pl N 1) (.n n)),ai (.put (pl N 2) (.n (n%99))),ai (.put (pl N 1) (.s (pl N 2))),ai (.ju (.s (pl N 1)))])) L) (aS (lS (cA (tU (cA rfl (cA rfl (cA rfl rfl))) (by simp)) (cA (tU (cA rfl (cA rfl (cA (b2 rfl rfl (de (by decide))) rfl))) (by simp)) (cA (tU (cA rfl (cA rfl (cA rfl rfl))) (by simp)) (cA (tU (cA rfl (cA rfl rfl)) (by simp)) rfl)))) (by simp)) rfl) ?_
  exact apE (f:=rd 5) (n:=0) (h:=[cL (L.map ai)]) (L:=L) rfl (cA (b2 rfl (b2 rfl rfl (de (j:=4) (by decide))) (xr _)) rfl) rfl (by lia)
theorem ML(k:Nat)(ns:List Int):∃Fs,fN Fs/\Fs.length<=1000/\aL (run aX (k+2) "_law_alone" [dI ns] []) (bZ Fs):=by
 obtain⟨N,_,hN⟩:=Cy k (cell ns 0) [];have hN':aL (run aX (k+1) "_law_names" [.int (cell ns 0),.int 13] []) (.lst (Ja N)):=⟨_,_,hN,vD rfl rfl⟩;have hc:=λi=>vI k ns i
 have pn:∀i:Nat,aL (run aX (k+1) "_law_plain" [.str (N i)] []) (bA (pl N i)):=λi=>⟨_,[],jH k (N i) [],rfl⟩
 have e0:=AH (k+1)
 generalize run aX (k+1)=c at hN' hc pn e0
 have nr:noRef (dI ns)=true:=tq ns;have pc:∀(i:Nat) (s:bJ),Ev (rd 0) s (dI ns) s->Ev (bnd (aj (rd 0) (aj (aP (.int i)) (aP []))) (bD 0 2 (c "_law_cell_at"))) s (.int (cell ns i)) s:=λi s h=>dy (as:=[dI ns,.int i]) (cA h (cA rfl rfl)) rfl (by simp[au,noRef,nr]) (hc i)
 have pw:∀(i:Nat) (s:bJ),Ev (op2 dt (rd 1) (aP (.int i))) s (.str (N i)) s->Ev (bnd (aj (op2 dt (rd 1) (aP (.int i))) (aP [])) (bD 0 1 (c "_law_plain"))) s (bA (pl N i)) s:=λi s h=>dy (as:=[.str (N i)]) (cA h rfl) rfl (by simp[au,noRef]) (pn i)
 obtain⟨m,hm⟩:∃m:Nat,(m:Int)=1+cell ns 2%5:=⟨(1+cell ns 2%5).toNat,by lia⟩
 obtain⟨L,y6,y7,y8,a1,a2,a3⟩:=CB c (dI ns) N (cell ns 2) (List.range m) [] none none none (λ_ h=>(nomatch h)) (λq hq=>by have:=dR.mp hq;lia) (by simp;lia)
 rw[gC]at a1;have hP:fN [FA N (L++[.put (pl N 2) (.n 7),.eO ""])]:=λF hF=>by
  rw[cH.mp hF];refine W0 N (λr hr=>?_) (by simp;simp at a1;lia)
  rcases fQ.mp hr with h | h
  ·exact a2 r h
  ·simp only[aF,aQ,aU]at h;rcases h with rfl | rfl
   ·exact⟨.inr rfl,.inl ⟨_,rfl⟩⟩
   ·trivial
 refine⟨[FA N (L++[.put (pl N 2) (.n 7),.eO ""])],hP,by simp,?_⟩
 rw[e0];have e9:zN [cL (L.map ai),cL (L.map ai++[ai (.put (pl N 2) (.n 7)),ai (.eO "")])] [.ref 1]=some (.aw ((L++[Rw.put (pl N 2) (.n 7),Rw.eO ""]).map ai)):=by
  rw[CA (n:=1) rfl,gE];rfl
 refine⟨_,_,lW (Iv:=[some (dI ns),some (.lst (Ja N)),some (.int (cell ns 2)),some (bA (pl N 1)),some (bA (pl N 2)),some (.ref 1),y6,y7,y8,some (.aw [iW (N 1,.bg .nu),iW (N 2,.bg .nu)])]) (h':=[cL (L.map ai),cL (L.map ai++[ai (.put (pl N 2) (.n 7)),ai (.eO "")])]) ?_,Aw (tx hP)⟩;refine sq (s1:=⟨[some (dI ns),some (.lst (Ja N)),none,none,none,none,none,none,none,none],[]⟩) (aS (dy (as:=[.int (cell ns 0),.int 13]) (cA (pc 0 _ rfl) (cA rfl rfl)) rfl rfl hN') rfl) ?_;refine sq (s1:=⟨[some (dI ns),some (.lst (Ja N)),some (.int (cell ns 2)),none,none,none,none,none,none,none],[]⟩) (aS (pc 2 _ rfl) rfl) ?_;refine sq (s1:=⟨[some (dI ns),some (.lst (Ja N)),some (.int (cell ns 2)),some (bA (pl N 1)),none,none,none,none,none,none],[]⟩) (aS (pw 1 _ rfl) rfl) ?_;refine sq (s1:=⟨[some (dI ns),some (.lst (Ja N)),some (.int (cell ns 2)),some (bA (pl N 1)),some (bA (pl N 2)),none,none,none,none,none],[]⟩) (aS (pw 2 _ rfl) rfl) ?_;refine sq (s1:=Su (dI ns) N (cell ns 2) none none none []) (aS (p:=.ref 0) (s1:=⟨[some (dI ns),some (.lst (Ja N)),some (.int (cell ns 2)),some (bA (pl N 1)),some (bA (pl N 2)),none,none,none,none,none],[cL []]⟩) rfl rfl) ?_;refine sq (fS (qN (n:=m) (cA (b2 rfl (b2 rfl rfl (de (by decide))) (by rw[hm];rfl)) rfl) (by lia)) a3) ?_
 refine sq (s1:=⟨[some (dI ns),some (.lst (Ja N)),some (.int (cell ns 2)),some (bA (pl N 1)),some (bA (pl N 2)),some (.ref 1),y6,y7,y8,none],[cL (L.map ai),cL (L.map ai++[ai (.put (pl N 2) (.n 7)),ai (.eO "")])]⟩) (aS (aW (n:=0) (h:=[cL (L.map ai)]) (ps:=L.map ai) (qs:=[ai (.put (pl N 2) (.n 7)),ai (.eO "")]) rfl (lS (cA (tU (cA rfl (cA rfl (cA rfl rfl))) (by simp)) (cA (tU (cA rfl (cA rfl rfl)) (by simp)) rfl)) (by simp)) rfl (by simp;simp at a1;lia)) rfl) ?_
 refine sq (s1:=⟨[some (dI ns),some (.lst (Ja N)),some (.int (cell ns 2)),some (bA (pl N 1)),some (bA (pl N 2)),some (.ref 1),y6,y7,y8,some (.aw [iW (N 1,.bg .nu),iW (N 2,.bg .nu)])],[cL (L.map ai),cL (L.map ai++[ai (.put (pl N 2) (.n 7)),ai (.eO "")])]⟩) (aS (tU (cA (tU (cA (b2 rfl rfl rfl) (cA (tU (cA rfl rfl) (by simp)) rfl)) (by simp)) (cA (tU (cA (b2 rfl rfl rfl) (cA (tU (cA rfl rfl) (by simp)) rfl)) (by simp)) rfl)) (by simp)) rfl) ?_
 exact rS (tU (cA (tU (cA (b2 rfl rfl rfl) (cA (tU (ps:=[]) rfl (by simp)) (cA rfl (cA rfl (cA (bV (cA rfl rfl) e9) rfl))))) (by simp)) rfl) (by simp))
theorem Jf(ns:List Int)(h:ns.length<=63):Yes (run aX 20 "law" [dI ns] []):=by
 obtain⟨Fs,p1,p2,p3⟩:=MK 14 ns;obtain⟨Gs,q1,q2,q3⟩:=ML 17 ns;have c1:=Cs 8 p1 p2;have c2:=Cs 8 q1 q2;have e0:=Mw 19;rw[show run aX 20 "law"=_ from e0]
 have p3':aL (run aX 19 "_law_case" [dI ns] []) (bZ Fs):=p3;have q3':aL (run aX 19 "_law_alone" [dI ns] []) (bZ Gs):=q3;have XA:aL (run aX 19 "_law_right" [bZ Fs] []) (.bl true):=c1;have c2':aL (run aX 19 "_law_right" [bZ Gs] []) (.bl true):=c2
 generalize run aX 19=c at p3' q3' XA c2' ⊢
 exact⟨[],lW (rS (aN (a:=true) (b:=true) (dy (as:=[bZ Fs]) (cA (dy (as:=[dI ns]) (cA rfl rfl) rfl rfl p3') rfl) rfl rfl XA) λ_=>dy (as:=[bZ Gs]) (cA (dy (as:=[dI ns]) (cA rfl rfl) rfl rfl q3') rfl) rfl rfl c2'))⟩
end cS
noncomputable section
open PySem PySem.W PyProof.Rows PySem.Calls
theorem PySem.Challenge.cw_lendrule_k73_the_turner_ends_holds : PySem.Challenge.rw_lendrule_k73_the_turner_ends.Holds := by
 exact cS.gh λd h1 h2=>L2.U.Iu (P:=cS.aX) (N:=20) (st:=cS.Wt) (x:="_law_script") (l:=PySem.Challenge.rw_lendrule_k73_the_turner_ends) (by kernel_rfl) (by kernel_rfl) rfl h1 h2 ⟨rfl,by decide,by decide⟩ (by kernel_rfl) (λw h Y=>Y) cS.Jf
end
