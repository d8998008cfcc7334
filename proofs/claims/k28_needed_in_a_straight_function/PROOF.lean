import PyProof.Rows.All
import Wide.All
import Wide.FinOn
import PyProof.EqAt
import PyProof.EqKinds
import PyProof.TupleCall
import PyProof.NeKinds
import PySem.Challenge.RW_lendrule_k28_needed_in_a_straight_functi
import KE.KLam
import KE.KDictList
import KE.KRevIter
import KE.KSortTup
import PyProof.FactsAll.range_2
import PyProof.MeetsDict
import KE.KNestM
import KE.KSortedM
import KE.KFromBytes
import KE.KIsAll
import KE.KDictOf
import KE.KDictSum
import KE.KStateDown
set_option maxHeartbeats 0
set_option Elab.async false
set_option linter.all false
set_option maxRecDepth 100000
noncomputable section
section
open PySem PySem.Spec PyProof.Rows
def Bj:=@List.findIdx?_eq_some_iff_getElem
def nk:=@PyProof.Rows.slot_tuple_getitem
def Ij:=@List.eraseIdx_eq_take_drop_succ
def Ik:=@PyProof.Rows.callWith_builtin1
def nq:=@List.eq_nil_of_length_eq_zero
def Il:=@List.mem_eraseIdx_iff_getElem
def Bk:=@wpAny_typeNameOfWhole_keyiter
def Im:=@PySem.F.slot_dict_setdefault
def Bl:=@F.slot_dict_keyiterator_next
noncomputable def Io:=@F.args_tuple_iterator_next_1
def Ip:=@F.entry_tuple_iterator_next
def ik:=@PyProof.Rows.callWith_type1
def Iq:=@Calls.Name_function_global
def Bm:=@List.getD_eq_getElem?_getD
def vA:=@F.slot_tuple_iterator_next
def Ir:=@Array.perm_iff_toList_perm
def iX:=@List.getElem?_append_right
def Iu:=@wpAny_newFunctionEnv_cells
def iY:=@List.getElem?_eq_none_iff
def nu:=@List.drop_eq_getElem_cons
def lb:=@Array.getElem?_eq_getElem
def Bn:=@F.slot_tuple_getattribute
def cU:=@List.getElem?_append_left
def bu:=@List.getElem?_eq_some_iff
def bQ:=@List.getElem?_eq_getElem
def jK:=@AutoSeq1.wpAny_loadPart'
def Bo:=@wpAny_typeNameOf_keyiter
def Bp:=@PySem.F.args_tuple_add_2
def vD:=@List.getElem?_cons_succ
def vE:=@PySem.F.plainAttrs_list
def Bq:=@PySem.F.plainAttrs_dict
def lg:=@Option.bind_eq_some_iff
def lj:=@wpAny_callSpecial?_slot
def Br:=@PySem.F.entry_tuple_add
def Bt:=@PySem.F.slot_tuple_add
def bg:=@Heap.get?_push_of_some
def gh:=@List.getElem?_set_self
def vF:=@Array.getElem?_eq_none
def vG:=@List.drop_eq_nil_of_le
def vH:=@Heap.get?_update_other
def qf:=@List.take_of_length_le
def vI:=@Option.map_eq_none_iff
def il:=@Option.map_eq_some_iff
def Bu:=@List.range_succ_eq_map
def Bv:=@wpAny_pyIter_rangeiter
def Bw:=@List.length_replicate
def Bx:=@wpAny_notOrdered_dict
def qg:=@Heap.get?_update_self
def bW:=@List.mem_append_right
def By:=@List.length_filter_le
def Bz:=@Array.getElem?_toList
def BA:=@List.take_append_drop
def BB:=@F.slot_range_reversed
def qh:=@List.mem_iff_getElem?
def iZ:=@List.getElem?_eq_none
def dI:=@List.mem_append_left
def BC:=@List.mem_of_mem_drop
def aG:=@List.mem_cons_of_mem
def c9:=@List.getElem?_set_ne
def cZ:=@List.mem_of_getElem?
def BD:=@Obj.data_mapDictKeys
def BE:=@Around.under_plainId
def fI:=@Bool.and_eq_true_iff
def ip:=@Array.length_toList
def eR:=@beq_eq_false_iff_ne
def jL:=@List.filterMap_cons
def BF:=@List.mergeSort_perm
def lq:=@Int.toNat_of_nonneg
def BG:=@List.map_congr_left
def lr:=@List.getElem?_range
def qi:=@Heap.SameBut.update
def BH:=@List.length_reverse
def qj:=@List.getElem_of_mem
def d8:=@PySem.mem_of_lookup
def cO:=@Heap.get?_push_size
def BI:=@Int.emod_lt_of_pos
def i8:=@wpAny_Call_Name_kw
def vJ:=@Obj.data_mapFields
def qk:=@tupleKind_room_in1
def aD:=@List.mem_cons_self
def b6:=@Nat.lt_of_lt_of_le
def ax:=@List.mem_singleton
def aZ:=@List.length_append
def BJ:=@of_decide_eq_false
def nv:=@List.mem_filterMap
def ny:=@Nat.lt_of_le_of_lt
def c5:=@Bool.false_ne_true
def jM:=@Bool.false_eq_true
def BL:=@wpAny_pyIter_tuple
def vK:=@List.find?_append
def i9:=@decide_eq_true_eq
def ql:=@Heap.get?_push_ne
def dA:=@List.append_assoc
def qm:=@List.nodup_append
def dQ:=@List.flatMap_cons
def lu:=@List.map_inj_left
def gB:=@Int.toNat_natCast
def gC:=@wpAny_newObj_type
def lx:=@wpAny_truthy_bool
def qo:=@Bool.not_eq_true'
def d9:=@of_decide_eq_true
def gD:=@List.length_range
def vL:=@List.reverse_cons
def BM:=@Option.isSome_map
def qp:=@wpAny_dictEntries
def BN:=@Nat.lt_succ_of_lt
def bG:=@List.getElem?_map
def eu:=@List.size_toArray
def aO:=@Bool.and_eq_true
def aN:=@List.length_cons
def jN:=@List.lookup_cons
def qr:=@Nat.le_add_right
def nz:=@List.length_take
def qu:=@List.cons_append
def cH:=@Option.bind_some
def fJ:=@List.not_mem_nil
def vM:=@Heap.size_update
def BO:=@noFill_tuple_add
def vO:=@List.filter_cons
def ly:=@beq_self_eq_true
def qw:=@Nat.le_of_not_lt
def dR:=@List.mem_flatMap
def qx:=@Nat.lt_succ_self
def BP:=@List.drop_length
def gE:=@List.all_eq_true
def iq:=@wpAny_call_entry
def vP:=@Around.in1_units
def BQ:=@Option.getD_none
def vQ:=@List.getElem_mem
def qy:=@List.getElem_inj
def vR:=@List.isEmpty_iff
def BR:=@List.cons_ne_nil
def fK:=@List.nil_append
def vT:=@List.length_nil
def aX:=@List.mem_append
def BS:=@size_of_entries
def vU:=@List.of_mem_zip
def vV:=@wpAny_execs_nil
def b7:=@List.mem_filter
def lz:=@wpAny_passesOwn
def cj:=@Option.some.inj
def vW:=@Bool.or_eq_true
def lA:=@List.length_set
def fL:=@List.nodup_cons
def gF:=@Option.map_some
def BU:=@codeAny_builtin
def qz:=@Int.emod_nonneg
def BV:=@List.cons.injEq
def aj:=@List.length_map
def BW:=@List.foldl_cons
def qA:=@List.find?_cons
def BX:=@Nat.not_lt_zero
def cm:=@List.map_append
def dB:=@List.append_nil
def lB:=@decide_eq_false
def vX:=@wpAny_setField
def jO:=@List.nodup_nil
def ez:=@List.mem_range
def fg:=@decide_eq_true
def aF:=@List.mem_cons
def vY:=@Bool.and_true
def nA:=@Prod.mk.injEq
def aI:=@List.map_cons
def fM:=@wpAny_holding
def ja:=@List.any_cons
def gG:=@Nat.lt_irrefl
def gi:=@List.all_cons
def nC:=@Paired.length
def vZ:=@Nat.add_assoc
def eS:=@Nat.zero_add
def jb:=@Nat.le_of_eq
def aY:=@Heap.lt_size
def v3:=@Nat.ne_of_gt
def jP:=@Int.zero_add
def c6:=@List.map_map
def bH:=@Nat.ne_of_lt
def az:=@List.mem_map
def nE:=@List.map_nil
def bK:=@Nat.le_trans
def qB:=@Nat.sub_self
def qC:=@wpAny_typeOf
def nF:=@codeAny_mono
def nG:=@Nat.le_of_lt
def nH:=@Nat.lt_trans
def lD:=@sizeLine_eq
def v9:=@IsRange.new
def wa:=@List.not_lt
def gH:=@wpAny_of_eq
def gI:=@wpAny_field
def aA:=@Nat.le_refl
def fj:=@Nat.zero_le
def lF:=@call_meets
def qD:=@boot_range
def af:=@wpAny_bind
def qE:=@beq_iff_eq
def qF:=@wpAny_rule
def jc:=@wpAny_mono
def au:=@wpAny_pure
def bc:=@eq_of_beq
def fq:=@if_false
def cV:=@congrArg
def fN:=@or_false
def jQ:=@if_true
def dt:=@Ne.symm
end
namespace PSh
end PSh
section
namespace L2
open PySem PySem.Spec PyProof.Rows
abbrev bz:=Sum Int Str
inductive V where
 | bj | bl (b:Bool) | int (i:Int) | str (x:Str) | WM (b:Array UInt8) | flt (b:UInt64) | ref (a:Addr) | ty (n:String)
 deriving DecidableEq
def RelV:V->Value->Prop
 | .bj,u=>u=Value.none
 | .bl b,u=>u=Value.bool b
 | .int i,u=>∃t,u=Value.int i t
 | .str x,u=>∃t,u=Value.str x t
 | .WM b,u=>∃t,u=Value.bytes b t
 | .flt b,u=>∃t,u=Value.float b t
 | .ref a,u=>u=Value.ref a
 | .ty n,u=>u=Value.type n
abbrev Vals:List V->List Value->Prop:=Paired RelV
noncomputable def kV:bz->V
 | .inl i=>.int i
 | .inr x=>.str x
inductive HO where
 /-- a list -/
 | lst (xs:List V)
 /-- a tuple (never aaV) -/
 | ao (xs:List V)
 /-- a dict QN keys are ints and Xg;one QN keys are tuples of ints and Xg (QO empty one is af6) -/
 | dK (kvs:List (bz×V)) | dT (xs:List (List bz×Addr×Value))
 /-- a set of ints: aJ aaW,aJ size -/
 | set (S:Int->Bool) (n:Nat)
 /-- an instance of QO class at C,aJ dict at dx,aJ Sy -/
 | oA (C dx:Addr) (fs:List (Str×V))
 /-- QO dict of QO instance at x -/
 | own (x:Addr)
 /-- QO dict of an WN -/
 | xd (fs:List (Str×V))
 /-- a bound abU,f of x -/
 | met (f x:Addr)
 /-- a range Iv lo,lo+1,.. below hi -/
 | rng (lo hi:Int)
 /-- a Xh af7 is aeD to QO Iv (QO abV;a dict while a loop aeE it): af8,never written while it is so -/
 | oC (o:Obj) (u:HO)
 /-- a code Xi table -/
 | BY (q:Str)
 /-- any other Xh,by what is true of aJ one Iv (a def of aeF own: af9 a S n:=HO.ext λh=>..) -/
 | ext (φ:Heap->Prop)
abbrev Hp:=Addr->Option HO
def Rd(H:Hp)(a:Addr)(u:HO):Prop:=H a=some u\/∃o,H a=some (.oC o u)
noncomputable def du:List Str:=["arrivals","empties","needs","held"]
def gT(K:W.Frag)(H:Hp)(a:Addr)(xs:List V):Prop :=
 Rd H a (.ao xs) \/
  ∃(o:Obj) (b:Array Value) (n:Nat),K.lookup a=some o/\o.cls=.type "tuple"/\o.data=.seq b n/\b.size<=sizeLine/\Vals xs b.toList
noncomputable def kW(K:W.Frag)(H:Hp)(a:Addr)(xs:List V):Prop :=
 Rd H a (.lst xs)\/∃(b:List Value) (n:Nat),K.lookup a=some {cls:=.type "list",data:=.seq b.toArray n}/\b.length<=sizeLine/\Vals xs b
structure FQ (K:W.Frag) (C:Addr):Prop where
 pg:W.plainGet K C Str.empty=true
 hd:W.hasDictIn K C=true
 po:W.plainOver K C=true
 sa:W.findIn K (.ref C) "__setattr__"=some (some (.builtin "object.__setattr__"))
def jd(K:W.Frag)(C:Addr)(f:Str):Prop:=W.findIn K (.ref C) f=some none
section
variable {X:Cx} {CX:HV} {k:Nat} {f C:Addr} {fd:FuncData} {ps:List Str} {sp:Sp} {QP:List V} {ds:List Value} {E:XK} {x m:Str} {p pos qG:Pos} {e o:Expr} {es:List Expr} {ta:TE} {t:TA}
structure Mk (K:W.Frag) (C f:Addr):Prop where
 makes:W.makesIn K C=true
 init:W.findIn K (.ref C) "__init__"=some (some (.ref f))
 fn:W.isFn K (.ref f)=true
 kp:W.keepIn K (.ref C)=true
end
structure dD (N P:List Str) (sc:Scope):Prop where
 kind:sc.kind=.function
 co:sc.isCoroutine=false
 gen:sc.isGenerator=false
 nd:N.Nodup
 pre:N.take P.length=P
 par:∀x∈P,sc.names.lookup x=some .local\/sc.names.lookup x=some .cell
 nofree:∀y∈sc.names,y.2≠.free
noncomputable def g8(s:Stmt):Arguments:=match s with
 | .FunctionDef _ a _ _ _ _ _ _ _ _=>a
 | _=>{posonlyargs:=[],args:=[],vararg:=none,kwonlyargs:=[],kw_defaults:=[],kwarg:=none,defaults:=[]}
def dm(s:Stmt):List Stmt:=match s with
 | .FunctionDef _ _ b _ _ _ _ _ _ _=>b
 | _=>[]
def aw(s:Stmt):Scope:=match s with
 | .FunctionDef _ _ _ _ _ _ sc _ _ _=>sc
 | _=>{kind:=.function,names:=[],isGenerator:=false,isCoroutine:=false}
structure BZ (K:W.Frag) (x qual:Str) (st:Stmt) (f:Addr) (fd:FuncData):Prop where
 ex:∃(oc:Value) (od:Option Addr) (kV doc pm:Value) (an:Option Addr) (cY ct:Value) (yr:Array (Option Value)),
  fd=W.fnOf x qual (g8 st) (dm st) (aw st) .none kV doc pm an cY ct/\K.lookup f=some ⟨oc,od,.func fd,yr⟩/\W.codeIn K cY qual=true
 kp:W.keepIn K (.ref f)=true
section
variable {P:Program} {w:World} {K:W.Frag} {mg:Str->Option Value} {base:Heap}
def Iw{st:Stmt}{g:Value}{h d:Option Addr}{i:Array (Option Value)}{kV a e b ct:Value}(l:K.lookup f=some ⟨g,h,.func (W.fnOf x qual (g8 st) (dm st) (aw st) .none kV a e d b ct),i⟩)
  (c:W.codeIn K b qual=true) (k:W.keepIn K (.ref f)=true):BZ K x qual st f (W.fnOf x qual (g8 st) (dm st) (aw st) .none kV a e d b ct):=⟨⟨g,h,kV,a,e,d,b,ct,i,rfl,l,c⟩,k⟩
end
section
variable {X:Cx} {ae:List (Addr×Obj)} {σ:St} {H:Hp} {s:Shared} {a b:Addr} {k:List bz} {v:V} {r:Value} {A:Around} {E:Value->Shared->Prop} {xs:List (List bz×Addr×Value)}
def eU(K:W.Frag)(H:Hp)(xs:List (List bz×Addr×Value)):Prop:=∀x∈xs,gT K H x.2.1 (x.1.map kV)
end
end L2
namespace L2.U
open PySem PySem.Spec PyProof.Rows
inductive Kd where
 | ao | lst | oA (C:Str) (ns:List Str) | fu (t:Bool) (ks:List (List bz))
inductive PV where
 | bj | bl (b:Bool) | int (i:Int) | str (x:Str) | ref (n:Nat) | fn (x:Str) | nd (k:Kd) (ps:List PV)
noncomputable abbrev PV.ao (ps:List PV):PV:=.nd .ao ps
structure Fz where
 F:Hp
 μ:List Addr
def ClsAt(K:W.Frag)(C:Str)(a:Value):Prop:=W.nsIn K mainGlobals C=some (some a)
def kC(K:W.Frag)(F H:Hp)(a:Addr)(x:Bool):Kd->List V->Prop
 | .ao,b=>x=false/\gT K H a b
 | .lst,b=>if x=true then H a=some (.lst b)else kW K H a b
 | .oA C ns,b=>∃d g fs,ClsAt K C (.ref d)/\FQ K d/\(∀f∈ns,jd K d f)/\H a=some (.oA d g fs)/\fs.map (·.1)=ns/\fs.map (·.2)=b
 | .fu false ks,b=>∃c:List (bz×V),H a=some (.dK c)/\c.map (λy=>[y.1])=ks/\c.map (·.2)=b
 | .fu true ks,b=>∃e,H a=some (.dT e)/\eU K F e/\e.map (·.1)=ks/\Vals b (e.map (·.2.2))
mutual
def bN(K:W.Frag)(F:Fz):PV->V->Prop
 | .bj,v=>v=.bj
 | .bl b,v=>v=.bl b
 | .int i,v=>v=.int i
 | .str x,v=>v=.str x
 | .ref n,v=>∃a,F.μ[n]?=some a/\v=.ref a
 | .fn x,v=>∃a,v=.ref a/\W.nsIn K mainGlobals x=some (some (.ref a))
 | .nd k d,v=>∃a c,v=.ref a/\kC K F.F F.F a false k c/\aB K F d c
def aB(K:W.Frag)(F:Fz):List PV->List V->Prop
 | [],a=>a=[]
 | p::b,a=>∃v r,a=v::r/\bN K F p v/\aB K F b r
end
section
variable {K:W.Frag} {F F':Fz}
def aB.nil:aB K F [] []:=by simp[aB]
def aB.cons(h:bN K F p v)(t:aB K F ps vs):aB K F (p::ps) (v::vs):=by
 simp only[aB];exact⟨v,vs,rfl,h,t⟩
def dn:bN K F .bj v↔v=.bj:=by simp only[bN]
def b8:bN K F (.bl b) v↔v=.bl b:=by simp only[bN]
def aH:bN K F (.int i) v↔v=.int i:=by simp only[bN]
def cL:bN K F (.str i) v↔v=.str i:=by simp only[bN]
def je:bN K F (.nd k ps) v↔∃a vs,v=.ref a/\kC K F.F F.F a false k vs/\aB K F ps vs:=by simp only[bN]
def cq:bN K F (.ao ps) v↔∃a vs,v=.ref a/\gT K F.F a vs/\aB K F ps vs :=
 je.trans ⟨(by rintro⟨a,vs,b,c,d⟩;exact⟨a,vs,b,c.2,d⟩),(by rintro⟨a,vs,b,c,d⟩;exact⟨a,vs,b,⟨rfl,c⟩,d⟩)⟩
end
end L2.U
namespace PySem.W
open PySem PyProof.Rows
end PySem.W
namespace L2.U
open PySem PySem.Spec PyProof.Rows
structure Pg where
 defs:List (Str×Stmt)
 cons:List (Str×PV):=[]
 dk:List Str:=[]
 tabs:List (Str×List (Str×Str)):=[]
 cls:List (Str×Stmt):=[]
 flds:List Str:=[]
 nI:List Str:=[]
 Xj:List (Str×List (Str×Nat)):=[]
def params(st:Stmt):List Str:=(g8 st).args.map λa=>a.arg
def Xk:NameKind->Bool
 | .local=>true
 | .cell=>true
 | _=>false
def cu(st:Stmt):List Str:=params st++((aw st).names.filter λy=>Xk y.2&&!(params st).contains y.1).map λy=>y.1
structure Iy (K:W.Frag) (x:Str) (st:Stmt):Prop where
 ex:∃f fd,W.nsIn K mainGlobals x=some (some (.ref f))/\BZ K x x st f fd/\∀us:List Value,us.length=(params st).length->bindArgs fd ⟨us,[]⟩=pure ((params st).zip us)
 sc:dD (cu st) (params st) (aw st)
def FT(K:W.Frag)(P:Params)(T:Str)(rows:List (Str×Str)):Prop :=
 ∃a b n,W.nsIn K mainGlobals T=some (some (.ref a))/\K.lookup a=some ⟨.type "dict",none,.dict b n,#[]⟩/\W.KeysLit P b.toList/\∀d∈rows,∃f,W.nsIn K a d.1=some (some (.ref f))/\W.nsIn K mainGlobals d.2=some (some (.ref f))
def abW{K:W.Frag}{P:Params}{T:Str}{rows:List (Str×Str)}{a:Addr}{b:Array DictEntry}{n:Nat}(h1:W.nsIn K mainGlobals T=some (some (.ref a)))(h2:K.lookup a=some ⟨.type "dict",none,.dict b n,#[]⟩)(c:W.KeysLit P b.toList)
  (e:∀d∈rows,∃f,W.nsIn K a d.1=some (some (.ref f))/\W.nsIn K mainGlobals d.2=some (some (.ref f))):FT K P T rows:=⟨a,b,n,h1,h2,c,e⟩
noncomputable def QQ:PV->Value->Bool
 | .int i,.int j _=>i==j
 | .str x,.str y _=>x==y
 | .bl a,.bool b=>a==b
 | .bj,.none=>true
 | _,_=>false
def wb:List PV->List Value->Bool
 | [],[]=>true
 | p::r,u::q=>QQ p u&&wb r q
 | _,_=>false
def Sz{K:W.Frag}{p:PV}{u:Value}(h:QQ p u=true):∃v,RelV v u/\∀F,bN K F p v:=by
 cases p<;>cases u<;>first | exact absurd h c5 | skip
 ·exact⟨.bj,rfl,λF=>dn.mpr rfl⟩
 ·cases bc h;exact⟨.bl _,rfl,λF=>b8.mpr rfl⟩
 ·cases bc h;exact⟨.int _,⟨_,rfl⟩,λF=>aH.mpr rfl⟩
 ·cases bc h;exact⟨.str _,⟨_,rfl⟩,λF=>cL.mpr rfl⟩
def M7{K:W.Frag}{ps:List PV}{c:List Value}(h:wb ps c=true):∃vs,Vals vs c/\∀F,aB K F ps vs:=by
 induction ps generalizing c with
 | nil=>cases c;exact⟨[],.nil,λ_=>.nil⟩;cases h
 | cons p r ih =>
  cases c with
  | nil=>cases h
  | cons u q =>
   have h:=fI.mp h;obtain⟨v,a,b⟩:=Sz (K:=K) h.1;obtain⟨vs,d,e⟩:=ih h.2;exact⟨v::vs,.cons a d,λF=>.cons (b F) (e F)⟩
def M8{K:W.Frag}{g:Addr}{x:Str}{a:Addr}{ps:List PV}{c:List Value}{n:Nat}{d:Option Addr}{e:Array (Option Value)}(h1:W.nsIn K g x=some (some (.ref a)))(h2:K.lookup a=some ⟨.type "tuple",d,.seq c.toArray n,e⟩)(f:wb ps c=true)(h:c.length<=100) :
  ∃u v,W.nsIn K g x=some (some u)/\RelV v u/\∀F,bN K F (.ao ps) v:=by
 obtain⟨i,r,b⟩:=M7 f;exact⟨_,.ref a,h1,rfl,λF=>cq.mpr ⟨a,i,rfl,.inr ⟨_,c.toArray,n,h2,rfl,rfl,by rw[eu];exact bK h (by decide),by grind⟩,b F⟩⟩
def M9{K:W.Frag}{g:Addr}{x:Str}{y:Str}{t:Tok}(a:W.nsIn K g x=some (some (.str y t))):∃u v,W.nsIn K g x=some (some u)/\RelV v u/\∀F,bN K F (.str y) v:=⟨_,.str y,a,⟨t,rfl⟩,λF=>cL.mpr rfl⟩
def Na{K:W.Frag}{g:Addr}{x:Str}{i:Int}{t:Tok}(a:W.nsIn K g x=some (some (.int i t))):∃u v,W.nsIn K g x=some (some u)/\RelV v u/\∀F,bN K F (.int i) v:=⟨_,.int i,a,⟨t,rfl⟩,λF=>aH.mpr rfl⟩
def SA(K:W.Frag)(C:Str)(st:Stmt)(a:List Str):Prop:=∃b f d,W.nsIn K mainGlobals C=some (some (.ref b))/\Mk K b f/\FQ K b/\(∀g∈a,jd K b g)/\BZ K "__init__" (C++".__init__") st f d/\(∀c:List Value,c.length=(params st).length->bindArgs d ⟨c,[]⟩=pure ((params st).zip c))/\dD (cu st) (params st) (aw st)
def SD(K:W.Frag)(x:Str):Prop:=x∈du/\∃c T,W.tabIn K x=some (c,T)/\W.codeHdIn K c T=true
def Iz(K:W.Frag):Prop:=∃a o,W.nsIn K mainGlobals "__builtins__"=some (some (.ref a))/\a≠builtinsNs/\a≠mainGlobals/\K.lookup a=some o/\o.cls=.type "module"/\o.dict=some builtinsNs/\o.data=.plain
structure lU (K:W.Frag) (h:Heap):Prop where
 at_:∀x∈du,∀c T,W.tabIn K x=some (c,T)->W.codeHdIn K c T=true/\h.get? T=some {cls:=.none,data:=.fields #[]}/\K.lookup T=none
 nd:(du.filterMap λx=>(W.tabIn K x).map (·.2)).Nodup
def lU.keeps{K:W.Frag}{h h':Heap}(t:lU K h)(k:∀b o,h.get? b=some o->h'.get? b=some o):lU K h':=⟨λx a c T e=>let ⟨d,f,g⟩:=t.at_ x a c T e;⟨d,k _ _ f,g⟩,t.nd⟩
structure IA (P:Pg) (w:World) (K:W.Frag):Prop where
 hd:∀d∈P.defs,Iy K d.1 d.2
 hc:∀d∈P.cons,∃u v,W.nsIn K mainGlobals d.1=some (some u)/\RelV v u/\∀F,bN K F d.2 v
 hb:∀x∈P.dk,W.nsIn K mainGlobals x=some none
 ht:∀d∈P.tabs,FT K w.params d.1 d.2
 hcl:∀d∈P.cls,SA K d.1 d.2 P.flds
 hlm:∀x∈P.nI,SD K x
 hbm:P.nI≠[]->Iz K
noncomputable def IB:Value->List Addr
 | .ref a=>[a]
 | _=>[]
def DX:Option Obj->List Addr
 | some ⟨_,_,.dict a _,_⟩=>a.toList.flatMap λe=>IB e.val
 | some ⟨_,_,.func fd,_⟩=>IB fd.code
 | some ⟨_,_,.cls cd,_⟩=>cd.ns::cd.mro.flatMap IB
 | _=>[]
noncomputable def fragOf(h:Heap):List Addr->W.Frag
 | []=>[]
 | a::r=>match h.get? a with
  | some o=>(a,o)::fragOf h r
  | none=>fragOf h r
theorem nJ(h:Heap):∀as:List Addr,(fragOf h as).In h
 | []=>λ_ _ e=>by cases e
 | a::r=>λb o e=>by
  unfold fragOf at e;split at e
  ·rename_i c ho;rw[jN]at e;cases z:b==a with
   | true =>
    rw[z]at e;cases e;rw[bc z];exact ho
   | false =>
    rw[z]at e;exact nJ h r b o e
  ·exact nJ h r b o e
def nsO:Option Obj->List Addr
 | some ⟨_,_,.cls cd,_⟩=>[cd.ns]
 | _=>[]
def abY(h:Heap)(a:Addr):List Addr:=a::(DX (h.get? a)++(nsO (h.get? a)).flatMap λb=>(DX (h.get? b)).flatMap λc=>c::DX (h.get? c))
def fw(h:Heap):W.Frag:=fragOf h (mainGlobals::(DX (h.get? mainGlobals)).flatMap (abY h))
noncomputable def chFn(K:W.Frag)(x:Str):Option FuncData:=match W.nsIn K mainGlobals x with
 | some (some (.ref f))=>(match K.lookup f with
  | some ⟨_,_,.func fd,_⟩=>(match W.codeIn K fd.code x with
   | true=>some {fd with kwdefaults:=.none,doc:=.none,pyModule:=.none,annotations:=none,code:=.none,closureTuple:=.none}
   | false=>none)
  | _=>none)
 | _=>none
def jv(x:Str)(st:Stmt):FuncData:=W.fnOf x x (g8 st) (dm st) (aw st) .none .none .none .none none .none .none
def Nb{K:W.Frag}{x:Str}{st:Stmt}(h:chFn K x=some (jv x st)):∃f a,W.nsIn K mainGlobals x=some (some (.ref f))/\BZ K x x st f a:=by
 unfold chFn at h;split at h
 ·rename_i f d;split at h
  ·rename_i u v a w c;split at h
   ·rename_i hc;have h:=cj h;obtain⟨y,B,C,D,E,H,I,J,L,M,e,g,i,j,k⟩:=a;unfold jv at h;simp only[FuncData.mk.injEq]at h;obtain⟨e1,l,m,o,p,q,r,t,-,-,-,-,-,-,b⟩:=h;subst e1 l m o p q r t b;exact⟨f,_,d,Iw c hc (by unfold W.keepIn;dsimp only;rw[c])⟩
   ·cases h
  ·cases h
 ·cases h
def yA(K:W.Frag)(g:Addr)(d:Str×PV):Bool:=match W.nsIn K g d.1 with
 | some (some (.int j _))=>(match d.2 with | .int i=>i==j | _=>false)
 | some (some (.str y _))=>(match d.2 with | .str x=>x==y | _=>false)
 | some (some (.ref a))=>(match K.lookup a with
  | some ⟨.type t,_,.seq us _,_⟩=>(match d.2 with | .nd .ao b=>(t=="tuple")&&(wb b us.toList&&decide (us.toList.length<=100)) | _=>false)
  | _=>false)
 | _=>false
def IC{K:W.Frag}{g:Addr}{x:Str}{p:PV}(h:yA K g (x,p)=true):∃u v,W.nsIn K g x=some (some u)/\RelV v u/\∀F,bN K F p v:=by
 unfold yA at h;dsimp only at h
 split at h
 ·rename_i j t b;split at h
  ·obtain rfl:=bc h;exact Na b
  ·cases h
 ·rename_i y t b;split at h
  ·obtain rfl:=bc h;exact M9 b
  ·cases h
 ·rename_i a b;split at h
  ·rename_i t k c n l d;split at h
   ·rw[aO,aO]at h;obtain⟨e,f,i⟩:=h;obtain rfl:=bc e;obtain⟨c⟩:=c;exact M8 b d f (d9 i)
   ·cases h
  ·cases h
 ·cases h
def yB(K:W.Frag)(x:Str):Bool:=match W.nsIn K mainGlobals x with
 | some none=>true
 | _=>false
def ID{K:W.Frag}{x:Str}(h:yB K x=true):W.nsIn K mainGlobals x=some none:=by
 unfold yB at h;split at h
 ·assumption
 ·cases h
abbrev OV:=Option (Option Value)
noncomputable def IE(e:DictEntry):Option Str×Int:=(match e.key with
 | .str x _=>some x
 | _=>none,e.hash)
noncomputable def IF(K:W.Frag)(a:Addr)(d:Str×Str):Bool:=match W.nsIn K a d.1,W.nsIn K mainGlobals d.2 with
 | some (some (.ref f)),some (some (.ref g))=>f==g
 | _,_=>false
def yC(K:W.Frag)(T:Str)(rows:List (Str×Str)):Option (Value×Option Addr×Array (Option Value)×List (Option Str×Int)×Bool):=match W.nsIn K mainGlobals T with
 | some (some (.ref a))=>(match K.lookup a with
  | some ⟨c,b,.dict d _,e⟩=>some (c,b,e,d.toList.map IE,rows.all (IF K a))
  | _=>none)
 | _=>none
noncomputable def qH(P:Params)(rows:List (Str×Str)):Option (Value×Option Addr×Array (Option Value)×List (Option Str×Int)×Bool):=some (.type "dict",none,#[],rows.map (λd=>(some d.1,PyData.keyHash P d.1)),true)
theorem yD{f:Type}{P:Params}:∀{a:List DictEntry} {rows:List (Str×f)},a.map IE=rows.map (λd=>(some d.1,PyData.keyHash P d.1))->W.KeysLit P a
 | [],_,_=>trivial
 | _::_,[],h=>by cases h
 | e::a,d::rows,h=>by
  rw[aI,aI,BV]at h;obtain⟨b,g⟩:=h;refine⟨?_,yD g⟩;unfold IE at b;rw[nA]at b;obtain⟨c,i⟩:=b;split at c
  ·grind
  ·cases c
def IG{K:W.Frag}{a:Addr}{d:Str×Str}(h:IF K a d=true):∃f,W.nsIn K a d.1=some (some (.ref f))/\W.nsIn K mainGlobals d.2=some (some (.ref f)):=by
 unfold IF at h;split at h
 ·grind
 ·cases h
def IH{K:W.Frag}{P:Params}{T:Str}{rows:List (Str×Str)}(h:yC K T rows=qH P rows):FT K P T rows:=by
 unfold yC qH at h;split at h
 ·rename_i a b;split at h
  ·rename_i c i j n k e;have h:=cj h;simp only[nA]at h;obtain⟨rfl,rfl,rfl,f,g⟩:=h;exact abW b e (yD f) λd hd=>IG (gE.mp g d hd)
  ·cases h
 ·cases h
abbrev ab0:=Option (Value×Option Addr×Array (Option Value)×List (Option Str×Int)×Bool)
noncomputable def B0(K:W.Frag)(f:Addr)(qual:Str):Option FuncData:=match K.lookup f with
 | some ⟨_,_,.func fd,_⟩=>(match W.codeIn K fd.code qual with
  | true=>some {fd with kwdefaults:=.none,doc:=.none,pyModule:=.none,annotations:=none,code:=.none,closureTuple:=.none}
  | false=>none)
 | _=>none
def II(x qual:Str)(st:Stmt):FuncData:=W.fnOf x qual (g8 st) (dm st) (aw st) .none .none .none .none none .none .none
def FU{K:W.Frag}{x qual:Str}{st:Stmt}{f:Addr}(h:B0 K f qual=some (II x qual st)):∃a,BZ K x qual st f a:=by
 unfold B0 at h;split at h
 ·rename_i t u a v c;split at h
  ·rename_i hc;have h:=cj h;obtain⟨w,y,B,C,D,E,H,I,J,L,d,e,g,i,j⟩:=a;unfold II at h;simp only[FuncData.mk.injEq]at h;obtain⟨e1,k,l,m,o,p,q,r,-,-,-,-,-,-,b⟩:=h;subst e1 k l m o p q r b;exact⟨_,Iw c hc (by unfold W.keepIn;dsimp only;rw[c])⟩
  ·cases h
 ·cases h
abbrev SE:=Option (Bool×OV×List OV×Option FuncData)
def yE(K:W.Frag)(b:List Str)(C:Str):SE:=match W.nsIn K mainGlobals C with
 | some (some (.ref a))=>(match W.findIn K (.ref a) "__init__" with
  | some (some (.ref f))=>some (W.makesIn K a&&(W.isFn K (.ref f)&&(W.keepIn K (.ref a)&&(W.plainGet K a Str.empty&&(W.hasDictIn K a&&W.plainOver K a)))),W.findIn K (.ref a) "__setattr__",b.map (λg=>W.findIn K (.ref a) g),B0 K f (C++".__init__"))
  | _=>none)
 | _=>none
def qI(a:List Str)(C:Str)(st:Stmt):SE:=some (true,some (some (.builtin "object.__setattr__")),a.map (λ_=>some none),some (II "__init__" (C++".__init__") st))
def wc:List Str->Bool
 | []=>true
 | x::r=>!r.contains x&&wc r
theorem uw:∀{l:List Str},wc l=true->l.Nodup
 | [],_=>jO
 | x::r,h=>by
  simp only[wc,aO,qo,List.contains_eq_mem,decide_eq_false_iff_not]at h;exact fL.mpr ⟨h.1,uw h.2⟩
def ab1:Option NameKind->Bool
 | some .local=>true
 | some .cell=>true
 | _=>false
def Xl:NameKind->Bool
 | .free=>false
 | _=>true
def Xm:ScopeKind->Bool
 | .function=>true
 | _=>false
def Nc(st:Stmt):Bool:=Xm (aw st).kind&&(!(aw st).isCoroutine&&(!(aw st).isGenerator&&(wc (cu st)&&((params st).all (λx=>ab1 ((aw st).names.lookup x))&&(aw st).names.all λy=>Xl y.2))))
def IJ{st:Stmt}(h:Nc st=true):dD (cu st) (params st) (aw st):=by
 unfold Nc at h;rw[aO,aO,aO,aO,aO]at h;obtain⟨a,i,j,c,d,e⟩:=h;refine⟨?_,by grind,by grind,uw c,?_,λx f=>?_,λy g=>?_⟩
 ·cases z:(aw st).kind<;>rw[z]at a<;>first | rfl | cases a
 ·exact List.take_left
 ·have k:=gE.mp d x f;cases z:(aw st).names.lookup x with
  | none=>rw[z]at k;cases k
  | some b =>
   rw[z]at k;cases b<;>first | exact .inl rfl | exact .inr rfl | cases k
 ·have k:=gE.mp e y g;intro z;rw[z]at k;cases k
def DY(P:Pg):Prop:=∀(kV a b:Value) (an:Option Addr) (c ct:Value) (u:Nat->Value),
 P.defs.map (λd=>bindArgs (W.fnOf d.1 d.1 (g8 d.2) (dm d.2) (aw d.2) .none kV a b an c ct) ⟨(List.range (params d.2).length).map u,[]⟩)=P.defs.map λd=>pure ((params d.2).zip ((List.range (params d.2).length).map u))
def yF{a:List Value}{n:Nat}(h:a.length=n):(List.range n).map (λi=>a.getD i .none)=a:=by
 subst h;apply List.ext_getElem
 ·simp
 ·intro i c b;simp[b]
def SF{K:W.Frag}{x:Str}{st:Stmt}{f:Addr}{c:FuncData}{P:Pg}(d:DY P)(hd:(x,st)∈P.defs)(F:BZ K x x st f c)(a:List Value)(e:a.length=(params st).length):bindArgs c ⟨a,[]⟩=pure ((params st).zip a):=by
 obtain⟨l,m,kV,b,g,h,j,ct,o,rfl,p,q⟩:=F.ex;have k:=lu.mp (d kV b g h j ct λi=>a.getD i .none) (x,st) hd
 dsimp only at k
 rw[yF e]at k;exact k
def Nd(P:Pg):Prop:=∀(kV a b:Value) (an:Option Addr) (c ct:Value) (u:Nat->Value),
 P.cls.map (λd=>bindArgs (W.fnOf "__init__" (d.1++".__init__") (g8 d.2) (dm d.2) (aw d.2) .none kV a b an c ct) ⟨(List.range (params d.2).length).map u,[]⟩)=P.cls.map λd=>pure ((params d.2).zip ((List.range (params d.2).length).map u))
def IK{K:W.Frag}{P:Pg}{C:Str}{st:Stmt}(SG:Nc st=true)(c:Nd P)(hd:(C,st)∈P.cls)(h:yE K P.flds C=qI P.flds C st):SA K C st P.flds:=by
 unfold yE qI at h;split at h
 ·rename_i a d;split at h
  ·rename_i f e;have h:=cj h;simp only[nA,aO]at h;obtain⟨⟨j,l,m,o,p,q⟩,r,t,u⟩:=h;obtain⟨v,F⟩:=FU u;refine⟨a,f,v,d,⟨j,e,l,m⟩,⟨o,p,q,r⟩,λg w=>lu.mp t g w,F,λx y=>?_,IJ SG⟩
   obtain⟨H,I,kV,b,B,D,E,ct,J,rfl,L,M⟩:=F.ex;have k:=lu.mp (c kV b B D E ct λi=>x.getD i .none) (C,st) hd
   dsimp only at k
   rw[yF y]at k;exact k
  ·cases h
 ·cases h
noncomputable def B2(K:W.Frag)(h:Heap)(x:Str):Bool:=match W.tabIn K x with
 | none=>true
 | some (c,T)=>W.codeHdIn K c T&&((K.lookup T).isNone&&(match h.get? T with
  | some ⟨.none,none,.fields a,b⟩=>a.isEmpty&&b.isEmpty
  | _=>false))
noncomputable def SH(K:W.Frag):Bool:=match W.nsIn K mainGlobals "__builtins__" with
 | some (some (.ref bm))=>!(bm==builtinsNs)&&(!(bm==mainGlobals)&&(match K.lookup bm with
  | some ⟨.type m,some d,.plain,_⟩=>(m=="module")&&(d==builtinsNs)
  | _=>false))
 | _=>false
def yG(P:Pg)(K:W.Frag)(h:Heap):Bool:=du.all (B2 K h)&&(decide (du.filterMap λx=>(W.tabIn K x).map (·.2)).Nodup&&((P.nI.isEmpty || SH K)&&P.nI.all λx=>du.contains x&&(W.tabIn K x).isSome))
def ux{K:W.Frag}{h:Heap}{x:Str}{c T:Addr}(e:B2 K h x=true)(t:W.tabIn K x=some (c,T)):W.codeHdIn K c T=true/\h.get? T=some {cls:=.none,data:=.fields #[]}/\K.lookup T=none:=by
 unfold B2 at e;rw[t]at e;simp only[aO]at e;obtain⟨b,d,a⟩:=e;refine⟨b,?_,by simpa using d⟩
 split at a
 ·grind
 ·cases a
def Nf{K:W.Frag}(e:SH K=true):Iz K:=by
 unfold SH at e;split at e
 ·rename_i b c;simp only[aO]at e;obtain⟨f,g,a⟩:=e;split at a
  ·rename_i m d h z;rw[aO]at a;obtain rfl:=bc a.1;obtain rfl:=bc a.2;exact⟨b,_,c,by grind,by grind,z,rfl,rfl,rfl⟩
  ·cases a
 ·cases e
def IL{P:Pg}{K:W.Frag}{h:Heap}(e:yG P K h=true):lU K h/\(∀x∈P.nI,SD K x)/\(P.nI≠[]->Iz K):=by
 unfold yG at e;simp only[aO]at e;obtain⟨f,g,i,j⟩:=e;have all:=gE.mp f;refine⟨⟨λx a c T t=>ux (all x a) t,d9 g⟩,λx a=>?_,λz=>?_⟩
 ·have:=gE.mp j x a;rw[aO]at this;have b:x∈du:=by grind
  cases t:W.tabIn K x with
  | none=>rw[t]at this;cases this.2
  | some d=>exact⟨b,d.1,d.2,t,(ux (all x b) t).1⟩
 ·rcases Bool.or_eq_true_iff.mp i with y | y
  ·grind
  ·exact Nf y
abbrev SJ:=List (Option FuncData)×List (Option FuncData)×Bool×List ab0×List SE
def B3(P:Pg)(K:W.Frag)(hp:Heap):SJ:=((P.defs.take 26).map (λd=>chFn K d.1),(P.defs.drop 26).map (λd=>chFn K d.1),P.cons.all (yA K mainGlobals)&&(P.dk.all (yB K)&&yG P K hp),P.tabs.map (λd=>yC K d.1 d.2),P.cls.map (λd=>yE K P.flds d.1))
def B4(P:Pg)(w:World):SJ:=((P.defs.take 26).map (λd=>some (jv d.1 d.2)),(P.defs.drop 26).map (λd=>some (jv d.1 d.2)),true,P.tabs.map (λd=>qH w.params d.2),P.cls.map (λd=>qI P.flds d.1 d.2))
def FV{P:Pg}{w:World}{K:W.Frag}(SG:P.defs.all (λd=>Nc d.2)=true)(Xn:DY P)(IM:P.cls.all (λd=>Nc d.2)=true)(IP:Nd P){hp:Heap}(h:B3 P K hp=B4 P w):IA P w K/\lU K hp:=by
 unfold B3 B4 at h;simp only[nA]at h;obtain⟨e,g,b,i,j⟩:=h;rw[aO,aO]at b;obtain⟨k,l,m⟩:=IL b.2.2;refine⟨⟨λd hd=>?_,λd hd=>IC (gE.mp b.1 d hd),λx o=>ID (gE.mp b.2.1 x o),λd hd=>IH (lu.mp i d hd),λd hd=>IK (gE.mp IM d hd) IP hd (lu.mp j d hd),l,m⟩,k⟩
 obtain⟨f,p,a,F⟩:=Nb (by
  have c:=hd;rw[<-BA 26 P.defs]at c;rcases aX.mp c with z | z
  ·exact lu.mp e d z
  ·exact lu.mp g d z)
 exact⟨⟨f,p,a,F,λq r=>SF Xn hd F q r⟩,IJ (gE.mp SG d hd)⟩
def iC{c d e:Type}{o:Option c}{f:c->d}{g:c->e}{a:d}{b:e}(h1:o.map f=some a)(h2:o.map g=some b):o.map (λs=>(f s,g s))=some (a,b):=by
 cases o with
 | none=>cases h1
 | some s=>cases h1;cases h2;rfl
def Ng(P:Pg)(SG:P.defs.all (λd=>Nc d.2)=true)(Xn:DY P)(IM:P.cls.all (λd=>Nc d.2)=true)(IP:Nd P):W.Hook :=
 ⟨SJ,λs=>B3 P (fw s.heap) s.heap,λw=>B4 P w,λw h=>∃K:W.Frag,K.In h/\IA P w K/\lU K h,λw s e=>⟨_,nJ _ _,FV SG Xn IM IP e⟩,λ_ _ _ ⟨K,a,b,c⟩ k=>⟨K,a.keeps k,b,c.keeps k⟩⟩
noncomputable def iD(p:Program)(c:String)(b:Bool)(N:Nat)(w:World):Option Shared:=(W.fencedOpening treeTable p w N).bind λa=>W.topFrom treeTable p (w.withFollow c b) N a
def FW{p q:Program}{loose:List Str}{Xt:Shared->Bool}{c:Type}{Yf:Shared->c}{Ya:World->c}{N:Nat}{b:Bool}(a:String)
  (h1:∀w,(iD p a false N w).map (W.openSeen q loose (importedModules p.main.body) Xt b)=some (W.openGood q loose)) (h2:∀w,(iD p a true N w).map (W.openSeen q loose (importedModules p.main.body) Xt b)=some (W.openGood q loose))
  (j:∀w,(iD p a false N w).map Yf=some (Ya (w.withFollow a false))) (k:∀w,(iD p a true N w).map Yf=some (Ya (w.withFollow a true))):W.LeftO p q loose Xt Yf Ya N b:=by
 refine W.LeftO.of_split a λw=>?_
 obtain⟨r,d,l⟩:=il.mp (h1 w);obtain⟨t,e,b2⟩:=il.mp (h2 w);obtain⟨u,f,m⟩:=il.mp (j w);obtain⟨v,g,o⟩:=il.mp (k w);rw[d]at f;rw[e]at g;cases f;cases g;obtain⟨x,h,tA⟩:=lg.mp d;obtain⟨y,i,tB⟩:=lg.mp e;rw[h]at i;cases i;rw[h,gF,tA,tB,gF,gF,l,b2,m,o]
end L2.U
namespace bZ
open PySem L2 L2.U
noncomputable def top(i:Nat):Stmt:=PySem.Challenge.pw_lendrule_k28_needed_in_a_straight_functi.main.body.getD i (.Pass ⟨0,0,0,0⟩)
noncomputable def jf:List (Str×Str):=[("put","put_acts"),("set","set_acts"),("fill","put_acts"),("copy","copy_acts"),("move","move_acts"),("drop","drop_acts"),("lend","lend_acts"),("sole","lend_acts"),("call","call_acts"),("if","if_acts"),("go","go_acts"),("say","say_acts"),("give","give_acts")]
def txt:Pg where
 defs:=([("leaves",5),("check_part",6),("part",7),("first",8),("is_copied",9),("kind_of",12),("is_holder",13),("shape_of",14),("spread",16),("tell_new",17),("row_nexts",29),("acts",30),("nexts",31),("touched",32),("is_lending",33),("touch",34),("touch_whole",35),("at_acts",36),("operand_acts",37),("target_acts",38),("put_acts",39),("set_acts",40),("copy_acts",41),("move_acts",42),("drop_acts",43),("lend_acts",44),("call_acts",45),("arg_act",46),("owner_act",47),("if_acts",48),("go_acts",49),("say_acts",50),("give_acts",51),("needs",54),("acts_ahead",55),("needed_by",56),("handed",57),("needed_ahead",58),("_law_cell_at",60),("_law_mixed",61),("_law_names",62),("_law_shape",63),("_law_leaves",64),("_law_parts",65),("_law_lets",66),("_law_spots",67),("_law_numbers",68),("_law_operand",69),("_law_carried",70),("_law_lending",71),("_law_call",72),("_law_small_row",73),("_law_row",74),("_law_program",75),("_law_first",76),("_law_starts",77),("_law_touched",78),("_law_through",79),("_law_given",80),("law",81)]:List (String×Nat)).map λd=>(d.1,top d.2)
 cons:=[("HOLDER_WORDS",.ao [(.str "lent"),(.str "sole")]),("ROW",.int 0),("ACT",.int 1),("NAME",.int 2),("THROUGH",.int 3),("FIRST",.int 4),("MANY",.int 5),("TAKER",.int 6),("REST",.ao [(.str "rest"),(.str ""),(.bl false),(.int 0),(.int 0),(.str "")]),("HAND",.ao [(.str "hand"),(.str ""),(.bl false),(.int 0),(.int 0),(.str "")]),("LENDING",.ao [(.str "lend"),(.str "sole")])]
 dk:=["bool","dict","enumerate","int","isinstance","len","list","range","reversed","set","sorted","str","sum","tuple"]
 tabs:=[("MAKERS",jf)]
 cls:=[]
 flds:=[]
 nI:=["needs"]
 Xj:=[("leaves",[("told",1)]),("spread",[("known",10),("told",1)]),("tell_new",[("known",10),("told",1)]),("acts",[("told",1)]),("nexts",[("firsts",1),("told",1)]),("call_acts",[("told",1)]),("needs",[("firsts",1)]),("acts_ahead",[("told",2)]),("handed",[("told",1)]),("_law_names",[("_law_named",1)]),("_law_lets",[("_law_lets_here",1)]),("_law_spots",[("_law_found",1)]),("_law_numbers",[("_law_found",1)]),("_law_call",[("_law_args",1)]),("_law_program",[("_law_params",1),("_law_heads",1)]),("_law_starts",[("_law_starts_here",1)]),("law",[("_law_ahead",2),("_law_needed",10)])]
section
end
theorem pH{b a c:Type}{E:Option b}{l:List a}{f:b->a->c}{g:a->c}(n:Nat)(h1:E.map (λs=>(l.take n).map (f s))=some ((l.take n).map g))(h2:E.map (λs=>(l.drop n).map (f s))=some ((l.drop n).map g)):E.map (λs=>l.map (f s))=some (l.map g):=by
 cases E with
 | none=>cases h1
 | some s=>exact cV some (show l.map (f s)=l.map g by rw[<-BA n l,cm,cm,show(l.take n).map (f s)=_ from cj h1,show(l.drop n).map (f s)=_ from cj h2])
theorem SG:txt.defs.all (λd=>Nc d.2)=true:=by kernel_rfl
theorem Xn:DY txt:=by
 intro kV a b c d ct u;kernel_rfl
theorem IM:txt.cls.all (λd=>Nc d.2)=true:=by kernel_rfl
theorem IP:Nd txt:=by
 intro kV a b c d ct u;kernel_rfl
noncomputable def qv:Program:=W.view (W.OpenLaw.prog PySem.Challenge.rw_lendrule_k28_needed_in_a_straight_functi) [81]
noncomputable def lo:List Str:=(W.OpenLaw.prog PySem.Challenge.rw_lendrule_k28_needed_in_a_straight_functi).boundNames.filter (· != "law")
def Xt(s:Shared):Bool:=W.xlAt qv [] s&&W.recOk (W.RowW.records (W.OpenRow.toRowW (W.OpenLaw.row PySem.Challenge.rw_lendrule_k28_needed_in_a_straight_functi))) s
abbrev hk:W.Hook:=Ng txt SG Xn IM IP
theorem kq1(w:World):(iD (W.OpenLaw.prog PySem.Challenge.rw_lendrule_k28_needed_in_a_straight_functi) "special-get-raises" false 5000 w).map (W.openSeen qv lo (importedModules (W.OpenLaw.prog PySem.Challenge.rw_lendrule_k28_needed_in_a_straight_functi).main.body) Xt true)=some (W.openGood qv lo):=by kernel_rfl
theorem kq2(w:World):(iD (W.OpenLaw.prog PySem.Challenge.rw_lendrule_k28_needed_in_a_straight_functi) "special-get-raises" true 5000 w).map (W.openSeen qv lo (importedModules (W.OpenLaw.prog PySem.Challenge.rw_lendrule_k28_needed_in_a_straight_functi).main.body) Xt true)=some (W.openGood qv lo):=by kernel_rfl
theorem Xo(w:World):(iD (W.OpenLaw.prog PySem.Challenge.rw_lendrule_k28_needed_in_a_straight_functi) "special-get-raises" false 5000 w).map (λs:Shared=>(txt.defs.take 26).map (λd=>chFn (fw s.heap) d.1))=some ((txt.defs.take 26).map (λd=>some (jv d.1 d.2))):=by kernel_rfl
theorem SK(w:World):(iD (W.OpenLaw.prog PySem.Challenge.rw_lendrule_k28_needed_in_a_straight_functi) "special-get-raises" false 5000 w).map (λs:Shared=>((txt.defs.drop 26).take 15).map (λd=>chFn (fw s.heap) d.1))=some (((txt.defs.drop 26).take 15).map (λd=>some (jv d.1 d.2))):=by kernel_rfl
theorem SM(w:World):(iD (W.OpenLaw.prog PySem.Challenge.rw_lendrule_k28_needed_in_a_straight_functi) "special-get-raises" false 5000 w).map (λs:Shared=>(((txt.defs.drop 26).drop 15).take 15).map (λd=>chFn (fw s.heap) d.1))=some ((((txt.defs.drop 26).drop 15).take 15).map (λd=>some (jv d.1 d.2))):=by kernel_rfl
theorem SN(w:World):(iD (W.OpenLaw.prog PySem.Challenge.rw_lendrule_k28_needed_in_a_straight_functi) "special-get-raises" false 5000 w).map (λs:Shared=>(((txt.defs.drop 26).drop 15).drop 15).map (λd=>chFn (fw s.heap) d.1))=some ((((txt.defs.drop 26).drop 15).drop 15).map (λd=>some (jv d.1 d.2))):=by kernel_rfl
theorem SO(w:World):(iD (W.OpenLaw.prog PySem.Challenge.rw_lendrule_k28_needed_in_a_straight_functi) "special-get-raises" false 5000 w).map (λs:Shared=>txt.cons.all (yA (fw s.heap) mainGlobals)&&(txt.dk.all (yB (fw s.heap))&&yG txt (fw s.heap) s.heap))=some true:=by kernel_rfl
theorem SQ(w:World):(iD (W.OpenLaw.prog PySem.Challenge.rw_lendrule_k28_needed_in_a_straight_functi) "special-get-raises" false 5000 w).map (λs:Shared=>(txt.tabs.map (λd=>yC (fw s.heap) d.1 d.2),txt.cls.map (λd=>yE (fw s.heap) txt.flds d.1)))=some (txt.tabs.map (λd=>qH (w.withFollow "special-get-raises" false).params d.2),txt.cls.map (λd=>qI txt.flds d.1 d.2)):=by kernel_rfl
theorem kq3(w:World):(iD (W.OpenLaw.prog PySem.Challenge.rw_lendrule_k28_needed_in_a_straight_functi) "special-get-raises" false 5000 w).map (W.Hook.obs hk)=some (W.Hook.val hk (w.withFollow "special-get-raises" false)):=iC (Xo w) (iC (pH 15 (SK w) (pH 15 (SM w) (SN w))) (iC (SO w) (SQ w)))
theorem Xp(w:World):(iD (W.OpenLaw.prog PySem.Challenge.rw_lendrule_k28_needed_in_a_straight_functi) "special-get-raises" true 5000 w).map (λs:Shared=>(txt.defs.take 26).map (λd=>chFn (fw s.heap) d.1))=some ((txt.defs.take 26).map (λd=>some (jv d.1 d.2))):=by kernel_rfl
theorem SR(w:World):(iD (W.OpenLaw.prog PySem.Challenge.rw_lendrule_k28_needed_in_a_straight_functi) "special-get-raises" true 5000 w).map (λs:Shared=>((txt.defs.drop 26).take 15).map (λd=>chFn (fw s.heap) d.1))=some (((txt.defs.drop 26).take 15).map (λd=>some (jv d.1 d.2))):=by kernel_rfl
theorem SS(w:World):(iD (W.OpenLaw.prog PySem.Challenge.rw_lendrule_k28_needed_in_a_straight_functi) "special-get-raises" true 5000 w).map (λs:Shared=>(((txt.defs.drop 26).drop 15).take 15).map (λd=>chFn (fw s.heap) d.1))=some ((((txt.defs.drop 26).drop 15).take 15).map (λd=>some (jv d.1 d.2))):=by kernel_rfl
theorem SU(w:World):(iD (W.OpenLaw.prog PySem.Challenge.rw_lendrule_k28_needed_in_a_straight_functi) "special-get-raises" true 5000 w).map (λs:Shared=>(((txt.defs.drop 26).drop 15).drop 15).map (λd=>chFn (fw s.heap) d.1))=some ((((txt.defs.drop 26).drop 15).drop 15).map (λd=>some (jv d.1 d.2))):=by kernel_rfl
theorem SW(w:World):(iD (W.OpenLaw.prog PySem.Challenge.rw_lendrule_k28_needed_in_a_straight_functi) "special-get-raises" true 5000 w).map (λs:Shared=>txt.cons.all (yA (fw s.heap) mainGlobals)&&(txt.dk.all (yB (fw s.heap))&&yG txt (fw s.heap) s.heap))=some true:=by kernel_rfl
theorem SX(w:World):(iD (W.OpenLaw.prog PySem.Challenge.rw_lendrule_k28_needed_in_a_straight_functi) "special-get-raises" true 5000 w).map (λs:Shared=>(txt.tabs.map (λd=>yC (fw s.heap) d.1 d.2),txt.cls.map (λd=>yE (fw s.heap) txt.flds d.1)))=some (txt.tabs.map (λd=>qH (w.withFollow "special-get-raises" true).params d.2),txt.cls.map (λd=>qI txt.flds d.1 d.2)):=by kernel_rfl
theorem kq4(w:World):(iD (W.OpenLaw.prog PySem.Challenge.rw_lendrule_k28_needed_in_a_straight_functi) "special-get-raises" true 5000 w).map (W.Hook.obs hk)=some (W.Hook.val hk (w.withFollow "special-get-raises" true)):=iC (Xp w) (iC (pH 15 (SR w) (pH 15 (SS w) (SU w))) (iC (SW w) (SX w)))
theorem ws:W.OpenLaw.wellSaid PySem.Challenge.rw_lendrule_k28_needed_in_a_straight_functi=true:=by kernel_rfl
end bZ
open PySem PySem.W PyProof.Rows PySem.Calls
set_option maxRecDepth 100000 in
set_option maxHeartbeats 0 in
theorem bZ.kX(hc:∀d:DefRec,d.name="law"->d.params.defaults=[]->W.WalkO bZ.qv bZ.lo (XL bZ.qv []) (Hook.says bZ.hk) (W.OpenRow.toRowW (W.OpenLaw.row PySem.Challenge.rw_lendrule_k28_needed_in_a_straight_functi)) d [] (λf vs=>PySem.call f vs)):PySem.Challenge.rw_lendrule_k28_needed_in_a_straight_functi.Holds:=by
 w_on;refine W.holds_law bZ.ws λa=>?_
 refine W.holds_open (q:=bZ.qv) (loose:=bZ.lo) (Xt:=bZ.Xt) (XP:=XL bZ.qv []) (Yf:=Hook.obs bZ.hk) (Ya:=Hook.val bZ.hk) (YP:=Hook.says bZ.hk) (N:=5000) (L2.U.FW "special-get-raises" bZ.kq1 bZ.kq2 bZ.kq3 bZ.kq4) (Hook.of _) (Hook.keeps _) (λs e=>xl_of s (fI.mp e).1) XL.keeps (by rfl) (by rfl) (by rfl) (λs e=>recFacts_of (fI.mp e).2) (by rfl) (by first | assumption | decide +kernel) (by decide +kernel) ⟨rfl,rfl,rfl,rfl,rfl,by decide +kernel⟩ ?hw (hc _ rfl rfl)
 case hw=>w_witness2
end
namespace L2
open PySem PySem.Spec PyProof.Rows
noncomputable def uy:bz->Value->Bool
 | .inl k,v=>Value.isInt k v
 | .inr x,v=>Value.isStrOf x v
def ab2(w:World):bz->Int
 | .inl k=>hashInt k
 | .inr x=>hashStr w x
theorem dc:∀{k:bz} {v:Value},uy k v=true->(∃i t,k=Sum.inl i/\v=Value.int i t)\/(∃x t,k=Sum.inr x/\v=Value.str x t)
 | .inl i,v,h=>by
  obtain⟨t,e⟩:=Value.isInt_shape h;exact .inl ⟨i,t,rfl,e⟩
 | .inr x,v,h=>by
  obtain⟨t,e⟩:=Value.isStrOf_shape h;exact .inr ⟨x,t,rfl,e⟩
def FX(i:Int)(t:Tok):uy (.inl i) (.int i t)=true:=by simp[uy,Value.isInt]
def FY(x:Str)(t:Tok):uy (.inr x) (.str x t)=true:=by simp[uy,Value.isStrOf]
def SY(a b:Int):decide ((Sum.inl a:bz)=Sum.inl b)=(a==b):=by
 grind
def S2(a b:Str):decide ((Sum.inr a:bz)=Sum.inr b)=decide (a=b):=by
 grind
def S3(a:Int)(b:Str):decide ((Sum.inl a:bz)=Sum.inr b)=false:=by grind
def S4(a:Str)(b:Int):decide ((Sum.inr a:bz)=Sum.inl b)=false:=by grind
def b9(prog:Program)(w:World):PySem.KeyKind prog w bz where
 is:=uy
 hash:=ab2 w
 inj:=λv a b f d=>by
  rcases dc f with⟨i,t,rfl,rfl⟩ | ⟨x,t,rfl,rfl⟩
  ·rcases dc d with⟨j,u,rfl,e⟩ | ⟨y,u,rfl,e⟩
   ·injection e with e1 _;rw[e1]
   ·exact nomatch e
  ·rcases dc d with⟨j,u,rfl,e⟩ | ⟨y,u,rfl,e⟩
   ·exact nomatch e
   ·injection e with e1 _;rw[e1]
 byValue:=λk v h=>by
  rcases dc h with⟨i,t,rfl,rfl⟩ | ⟨x,t,rfl,rfl⟩<;>rfl
 pyHash:=λc h=>by
  rcases dc c with⟨i,t,rfl,rfl⟩ | ⟨x,t,rfl,rfl⟩
  ·exact wpAny_pyHash_int h
  ·exact wpAny_pyHash_str h
 eqBool:=λg c h=>by
  rcases dc g with⟨i,t,rfl,rfl⟩ | ⟨x,t,rfl,rfl⟩
  ·rcases dc c with⟨j,u,rfl,rfl⟩ | ⟨y,u,rfl,rfl⟩
   ·rw[SY]at h;exact wpAny_eqBool_int h
   ·rw[S3]at h;exact SeqAt.EqAt.int_str i t y u _ _ _ _ h
  ·rcases dc c with⟨j,u,rfl,rfl⟩ | ⟨y,u,rfl,rfl⟩
   ·rw[S4]at h;exact SeqAt.EqAt.str_int x t j u _ _ _ _ h
   ·rw[S2]at h;exact wpAny_eqBool_str h
 «strs» := λk x t v h=>by
  rcases dc h with⟨i,u,rfl,e⟩ | ⟨y,u,rfl,e⟩
  ·exact nomatch e
  ·injection e with e1 _
   subst e1;cases v<;>rfl
def yH(prog:Program)(w:World)(i:Int)(t:Tok):(b9 prog w).is (.inl i) (.int i t)=true:=FX i t
def yI(prog:Program)(w:World)(x:Str)(t:Tok):(b9 prog w).is (.inr x) (.str x t)=true:=FY x t
def Vals.length(r:Vals xs us):xs.length=us.length:=nC r
theorem Vals.get:∀{xs:List V} {us:List Value} {i:Nat} {x:V},Vals xs us->xs[i]?=some x->∃u,us[i]?=some u/\RelV x u
 | _,_,_,_,.nil,e=>by simp at e
 | _,_,0,_,.cons r _,e=>by grind
 | _,_,i+1,x,.cons _ t,e=>by
  obtain⟨u,b,a⟩:=Vals.get t (by simpa using e)
  exact⟨u,by grind,a⟩
theorem Vals.set(r:RelV x u):∀{xs:List V} {us:List Value} (i:Nat),Vals xs us->Vals (xs.set i x) (us.set i u)
 | _,_,_,.nil=>.nil
 | _,_,0,.cons _ t=>.cons r t
 | _,_,i+1,.cons q t=>.cons q (Vals.set r i t)
theorem Vals.append:∀{xs a:List V} {us ws:List Value},Vals xs us->Vals a ws->Vals (xs++a) (us++ws)
 | _,_,_,_,.nil,s=>s
 | _,_,_,_,.cons r t,s=>.cons r (Vals.append t s)
theorem Vals.take:∀{xs:List V} {us:List Value} (n:Nat),Vals xs us->Vals (xs.take n) (us.take n)
 | _,_,0,_=>.nil
 | _,_,_+1,.nil=>.nil
 | _,_,n+1,.cons r t=>.cons r (Vals.take n t)
theorem Vals.drop:∀{xs:List V} {us:List Value} (n:Nat),Vals xs us->Vals (xs.drop n) (us.drop n)
 | _,_,0,r=>r
 | _,_,_+1,.nil=>.nil
 | _,_,n+1,.cons _ t=>Vals.drop n t
def qJ:Option V->Option Value->Prop
 | some v,some u=>RelV v u
 | none,none=>True
 | _,_=>False
def KV{a:Type}:List (a×V)->List (a×Value)->Prop:=Paired fun(p:a×V) (q:a×Value)=>p.1=q.1/\RelV p.2 q.2
noncomputable def cx(H:Hp)(a:Addr)(o:HO):Hp:=λb=>if b=a then some o else H b
def aE:cx H a o a=some o:=by unfold cx;rw[if_pos rfl]
def aK(h:b≠a):cx H a o b=H b:=by unfold cx;rw[if_neg h]
def bU{H:Hp}{a b:Addr}{o:HO}(h:H a=some o)(h':H b=none):a≠b:=by
 grind
section
variable (P:Program) (w:World)
def fH(H:Hp)(h:Heap)(a:Addr):HO->Prop
 | .lst xs=>xs.length<=sizeLine/\∃(d:List Value) (n:Nat),Vals xs d/\h.get? a=some {cls:=.type "list",data:=.seq d.toArray n}
 | .ao xs=>xs.length<=sizeLine/\∃d:List Value,Vals xs d/\IsTup h a d.toArray
 | .dK e=>e.length<=sizeLine/\(a==sysModules)=false/\∃g,KV e g/\h.DictOf (b9 P w) a g
 | .dT xs=>xs.length<=sizeLine/\(a==sysModules)=false/\∃o l B,h.get? a=some o/\o.ExactDict/\o.data=.dict l B/\l.toList=xs.map (entryOfKey (tupleKind (b9 P w)))/\(xs.map (·.1)).Nodup
 | .set S n=>h.SetOf (intKind P w) a S n
 | .oA C i fs=>H i=some (.own a)/\fs.length<=1000/\i≠a/\h.get? a=some (W.instObj C i) /\
   ∃b,h.Ns1 i b/\(∀f,qJ (fs.lookup f) (b f))/\PySem.Within b (fs.map (·.1))
 | .own _=>∃o,h.get? a=some o
 | .xd fs=>∃b,h.Ns1 a b/\∀f,qJ (fs.lookup f) (b f)
 | .rng lo D=>∃t u v,h.get? a=some {cls:=.type "range",data:=.fields #[.int lo t,.int D u,.int 1 v]}
 | .oC o u=>h.get? a=some o/\fH H h a u
 | .BY q=>∃j:Array Value,h.get? a=some {cls:=.none,data:=.fields j}/\TriplesOk j.toList/\∀(pos:Pos) (m:Value),codeAmong pos j.toList=some m ->
   ∃(c:Addr) (p:Obj) (u:HO) (g:Array Value) (t:Tok),m=.ref c/\H c=some (.oC p u)/\p.data=.fields g/\g[1]?=some (.str q t)
 | .met f x=>h.get? a=some (W.methodObj (.ref f) (.ref x))
 | .ext k=>k h/\(∃o,h.get? a=some o)/\∀r y:Heap,k r->(∀o,r.get? a=some o->y.get? a=some o)->k y
def lG(H:Hp)(h:Heap):Prop:=∀a o,H a=some o->fH P w H h a o
end
section
variable {P:Program} {w:World} {H H':Hp} {h h':Heap} {a:Addr} {o:HO}
def fH.lt(x:fH P w H h a o):a<h.objs.size:=by
 cases o with
 | lst xs=>obtain⟨_,_,_,_,e⟩:=x;exact aY e
 | ao xs=>obtain⟨_,_,_,p⟩:=x;exact p.lt
 | dK b=>obtain⟨_,_,_,_,o,_,_,e,_⟩:=x;exact aY e
 | dT b=>obtain⟨_,_,o,_,_,e,_⟩:=x;exact aY e
 | set S n=>obtain⟨o,_,_,_,e,_⟩:=x;exact aY e
 | oA C c fs=>obtain⟨_,_,_,e,_⟩:=x;exact aY e
 | own y=>obtain⟨_,e⟩:=x;exact aY e
 | xd fs=>obtain⟨_,⟨_,_,_,e,_⟩,_⟩:=x;exact aY e
 | rng lo d=>obtain⟨_,_,_,e⟩:=x;exact aY e
 | oC g u=>obtain⟨e,_⟩:=x;exact aY e
 | BY q=>obtain⟨_,e,_⟩:=x;exact aY e
 | met f y=>exact aY (x)
 | ext i=>obtain⟨_,⟨_,e⟩,_⟩:=x;exact aY e
def fH.we(x:fH P w H h a o)(k:∀b u,(b=a\/H b=some (.own a))->h.get? b=some u->h'.get? b=some u)
  (ho:∀b,H b=some (.own a)->H' b=some (.own a)) (ht:∀b xs,H b=some (.ao xs)->H' b=some (.ao xs)) (hz:∀b g u,H b=some (.oC g u)->H' b=some (.oC g u)):fH P w H' h' a o:=by
 induction o with
 | lst xs=>obtain⟨z,l,n,r,e⟩:=x;exact⟨z,l,n,r,k _ _ (.inl rfl) e⟩
 | ao xs=>obtain⟨z,l,r,g,e,c⟩:=x;exact⟨z,l,r,g,k _ _ (.inl rfl) e,c⟩
 | dK m=>obtain⟨z,y,B,r,g,i,j,e,c⟩:=x;exact⟨z,y,B,r,g,i,j,k _ _ (.inl rfl) e,c⟩
 | dT m=>obtain⟨z,y,g,i,j,e,c⟩:=x;exact⟨z,y,g,i,j,k _ _ (.inl rfl) e,c⟩
 | set S n=>obtain⟨g,i,j,t,e,c⟩:=x;exact⟨g,i,j,t,k _ _ (.inl rfl) e,c⟩
 | oA C Y fs =>
  obtain⟨d,z,ne,e,D,⟨E,i,j,J,c⟩,r⟩:=x;exact⟨ho _ d,z,ne,k _ _ (.inl rfl) e,D,⟨E,i,j,k _ _ (.inr d) J,c⟩,r⟩
 | own y=>obtain⟨g,e⟩:=x;exact⟨g,k _ _ (.inl rfl) e⟩
 | xd fs=>obtain⟨D,⟨E,i,j,e,c⟩,r⟩:=x;exact⟨D,⟨E,i,j,k _ _ (.inl rfl) e,c⟩,r⟩
 | rng lo Z=>obtain⟨t,u,v,e⟩:=x;exact⟨t,u,v,k _ _ (.inl rfl) e⟩
 | oC g u ih=>obtain⟨e,q⟩:=x;exact⟨k _ _ (.inl rfl) e,ih q⟩
 | BY q =>
  obtain⟨L,e,t,c⟩:=x;exact⟨L,k _ _ (.inl rfl) e,t,λpos M z=>let ⟨c,N,u,B,Q,R,T,X⟩:=c pos M z;⟨c,N,u,B,Q,R,hz _ _ _ T,X⟩⟩
 | met f y =>
  have e:=x;exact k a _ (.inl rfl) e
 | ext φ=>obtain⟨p,⟨o,e⟩,I⟩:=x;exact⟨I _ _ p λo q=>k _ _ (.inl rfl) q,⟨o,k _ _ (.inl rfl) e⟩,I⟩
def lG.lt(x:lG P w H h)(e:H a=some o):a<h.objs.size:=(x a o e).lt
def lG.fresh(x:lG P w H h)(e:h.objs.size<=a):H a=none:=by
 cases q:H a with
 | none=>rfl
 | some u=>exact absurd (b6 (x.lt q) e) (gG _)
def lG.kept(x:lG P w H h)(k:∀b u,h.get? b=some u->h'.get? b=some u):lG P w H h':=λa o e =>
 (x a o e).we (λb u _ q=>k b u q) (λ_ q=>q) (λ_ _ q=>q) λ_ _ _ q=>q
def lG.laid(x:lG P w H h)(k:∀b u,h.get? b=some u->h'.get? b=some u)(hp:h.objs.size<=a)(d:fH P w (cx H a o) h' a o):lG P w (cx H a o) h':=λb u e=>by
 have f:=x.fresh hp;by_cases g:b=a
 ·subst g;rw[aE]at e;cases e;exact d
 ·rw[aK g]at e;exact(x b u e).we (λc v _ q=>k c v q) (λc q=>by rw[aK (bU q f)];exact q) (λc i q=>by rw[aK (bU q f)];exact q) λc j v q=>by rw[aK (bU q f)];exact q
end
def Rd.ok(r:Rd H a u)(x:lG P w H h):fH P w H h a u:=by
 rcases r with r | ⟨o,r⟩
 ·exact x a u r
 ·obtain⟨_,q⟩:=x a _ r;exact q
def Mut:Option HO->Prop
 | some (.lst _)=>True
 | some (.dK _)=>True
 | some (.dT _)=>True
 | some (.set _ _)=>True
 | some (.oA _ _ _)=>True
 | some (.ext _)=>True
 | _=>False
section
variable {P:Program} {w:World} {H:Hp} {h h':Heap} {x e:Addr} {o':HO}
def lG.write(ok:lG P w H h)(a:Mut (H x))(he:e=x\/H e=some (.own x))(k:∀b u,b≠e->h.get? b=some u->h'.get? b=some u)(t:∃u,h'.get? e=some u)
  (j:fH P w (cx H x o') h' x o'):lG P w (cx H x o') h':=λb u q=>by
 have o:∀c y,H c=some (.own y)->c≠x:=λc y r z=>by subst z;rw[r]at a;exact a
 have l:∀c d,H c=some (.ao d)->c≠x:=λc d r z=>by subst z;rw[r]at a;exact a
 have m:∀c f v,H c=some (.oC f v)->c≠x:=λc f v r z=>by subst z;rw[r]at a;exact a
 by_cases g:b=x
 ·subst g;rw[aE]at q;cases q;exact j
 ·rw[aK g]at q;by_cases i:b=e
  ·have p:H b=some (.own x):=by
    rcases he with z | z
    ·exact absurd (i.trans z) g
    ·rw[i];exact z
   rw[q]at p;cases p;obtain⟨v,B⟩:=t;exact⟨v,by rw[i];exact B⟩
  ·refine(ok b u q).we (λc v hc r=>k c v ?_ r) (λc r=>by rw[aK (o c b r)];exact r) (λc d r=>by rw[aK (l c d r)];exact r) λc f v r=>by rw[aK (m c f v r)];exact r
   rcases hc with rfl | hc
   ·exact i
   ·rintro rfl
    rcases he with z | z
    ·exact o c b hc z
    ·rw[hc]at z;cases z;exact g rfl
end
structure Un (fs ex:List Addr) (H H':Hp) (h h':Heap):Prop where
 keep:∀b o,h.get? b=some o->H b=none->b∉fs->b∉ex->h'.get? b=some o
 slot:∀b o,h.get? b=some o->H b=none->b∈fs->b∉ex->∃sl,h'.get? b=some {o with slots:=sl}
 free:∀b o,h.get? b=some o->H b=none->b∉ex->H' b=none
 there:∀b o,h.get? b=some o->b∉ex->∃o',h'.get? b=some o'
 tups:∀b xs,H b=some (.ao xs)->H' b=some (.ao xs)
 frzs:∀b o u,H b=some (.oC o u)->H' b=some (.oC o u)
 tbls:∀b q,H b=some (.BY q)->H' b=some (.BY q)
section
variable {fs Xr ex ex':List Addr} {H H1 H2:Hp} {h h1 h2 h':Heap} {a x e:Addr} {o:HO}
def Un.any(u:Un fs ex H H1 h h1)(q:h.get? b=some c)(n:H b=none)(d:b∉ex):∃g,h1.get? b=some {c with slots:=g}:=by
 by_cases f:b∈fs
 ·exact u.slot b c q n f d
 ·exact⟨c.slots,u.keep b c q n f d⟩
def Un.trans(a:Un fs ex H H1 h h1)(b:Un fs ex H1 H2 h1 h2):Un fs ex H H2 h h2 where
 keep:=λc d q n hc f=>b.keep c d (a.keep c d q n hc f) (a.free c d q n f) hc f
 slot:=λc d q n hc f=>by
  obtain⟨l,e1⟩:=a.slot c d q n hc f;obtain⟨j,k⟩:=b.slot c _ e1 (a.free c d q n f) hc f;exact⟨j,k⟩
 free:=λc d q n f=>by
  obtain⟨i,e1⟩:=a.there c d q f;exact b.free c i e1 (a.free c d q n f) f
 there:=λc d q f=>by
  obtain⟨i,e1⟩:=a.there c d q f;exact b.there c i e1 f
 tups:=λc g q=>b.tups c g (a.tups c g q)
 frzs:=λc d g q=>b.frzs c d g (a.frzs c d g q)
 tbls:=λc q e=>b.tbls c q (a.tbls c q e)
def Un.kept(k:∀b u,h.get? b=some u->h'.get? b=some u):Un fs ex H H h h' :=
 ⟨λb c q _ _ _=>k b c q,λb c q _ _ _=>⟨c.slots,k b c q⟩,λ_ _ _ n _=>n,λb c q _=>⟨c,k b c q⟩,λ_ _ q=>q,λ_ _ _ q=>q,λ_ _ q=>q⟩
def Un.refl:Un fs ex H H h h:=Un.kept λ_ _ q=>q
def Un.laid(k:∀b u,h.get? b=some u->h'.get? b=some u)(hp:h.objs.size<=a)(c:H a=none):Un fs ex H (cx H a o) h h' where
 keep:=λb u q _ _ _=>k b u q
 slot:=λb u q _ _ _=>⟨u.slots,k b u q⟩
 free:=λb u q n _=>by rw[aK (bH (b6 (aY q) hp))];exact n
 there:=λb u q _=>⟨u,k b u q⟩
 tups:=λb d q=>by rw[aK (bU q c)];exact q
 frzs:=λb u d q=>by rw[aK (bU q c)];exact q
 tbls:=λb f q=>by rw[aK (bU q c)];exact q
def Un.write(c:Mut (H x))(he:e=x\/H e=some (.own x))(k:∀b u,b≠e->h.get? b=some u->h'.get? b=some u)(j:∃u,h'.get? e=some u):Un fs ex H (cx H x o) h h':=by
 have f:∀b,H b=none->b≠x:=λb n z=>by subst z;rw[n]at c;exact c
 have g:∀b,H b=none->b≠e:=λb n z=>by
  subst z;rcases he with r | r
  ·exact f b n r
  ·rw[n]at r;cases r
 have d:∀b u,H b=some u->¬Mut (some u)->b≠x:=λb u q nm z=>by subst z;rw[q]at c;exact nm c
 refine⟨λb u q n _ _=>k b u (g b n) q,λb u q n _ _=>⟨u.slots,k b u (g b n) q⟩,λb u q n _=>by rw[aK (f b n)];exact n,λb u q _=>?_,
  λb l q=>by rw[aK (d b _ q λz=>z)];exact q,λb u l q=>by rw[aK (d b _ q λz=>z)];exact q,λb m q=>by rw[aK (d b _ q λz=>z)];exact q⟩
 by_cases i:b=e
 ·subst i;exact j
 ·exact⟨u,k b u i q⟩
end
noncomputable def trk(h:Heap)(H:Hp):List Addr:=(List.range h.objs.size).filter λa=>(H a).isSome
def yJ(h:Heap)(H:Hp):Heap:=W.hideAll h (trk h H)
def FZ(h:Heap)(H:Hp):(yJ h H).objs.size=h.objs.size:=W.hideAll_size _ _
def hidT_get(e:h.get? b=some o)(n:H b=none):(yJ h H).get? b=some o :=
 W.hideAll_get _ e λa=>by
  have q:=(b7.mp a).2;rw[n]at q;simp at q
def of_hidT(e:(yJ h H).get? b=some o):h.get? b=some o/\H b=none:=by
 have a:=W.of_hideAll (trk h H) e;refine⟨a,?_⟩;cases q:H b with
 | none=>rfl
 | some x =>
  have c:b∈trk h H:=b7.mpr ⟨ez.mpr (aY a),by simp[q]⟩
  have z:(yJ h H).get? b=none:=W.hideAll_none (trk h H) c;rw[z]at e;cases e
structure Mod (K:W.Frag) (mg:Str->Option Value) (base:Heap):Prop where
 kin:K.In base
 glob:base.Ns mainGlobals mg
 blt:∃mb,base.Ns builtinsNs mb/\∀x:Str,x≠"__name__"->mb x=bootBuiltins x
 nolimit:base.NoLimit
structure Cx where
 prog:Program
 w:World
 K:W.Frag
 mg:Str->Option Value
 base:Heap
 A:Around
 N:List Str
 s₀:Shared
 aa:Hp
 env:Env
 ay:List Env
 stack:List Env
 ex:List Addr
 fn:Str->Bool
 calm:Bool
 pn:List (Addr×Obj)
 xe:Value->Shared->Prop
noncomputable def nK(l:List Env):List Addr:=l.filterMap (·.frame)
abbrev Cx.fs(X:Cx):List Addr:=nK X.ay
def Xu(a:Scope)(x:Str):Prop:=a.names.lookup x=some .local\/a.names.lookup x=some .cell\/a.names.lookup x=some .free
def QR(a:Scope)(x:Str):Prop:=a.names.lookup x=some .local\/a.names.lookup x=some .cell
def ab5(a:Env)(h:Heap)(m:Str->Option Value)(x:Str)(u:Value):Prop :=
 (a.kindOf x=some .local/\m x=some u)\/((a.kindOf x=some .cell\/a.kindOf x=some .free)/\∃c,a.cells.lookup x=some c/\h.IsCell c (some u))
def yK(x:Str):Str:=x++".<locals>."++"<lambda>"
def qK(K:W.Frag)(H:Hp):Prop:=∀x∈du,∀c T,W.tabIn K x=some (c,T)->H T=some (.BY (yK x))
structure Cx.Ok (X:Cx):Prop where
 mod:Mod X.K X.mg X.base
 kind:X.env.scope.kind=.function
 glob:X.env.globals=mainGlobals
 blt:X.env.builtins=builtinsNs
 above:X.s₀.heap.objs.size<=X.env.locals
 inj:∀x y c,X.env.cells.lookup x=some c->X.env.cells.lookup y=some c->x=y
 has:∀x,(X.env.kindOf x=some .cell\/X.env.kindOf x=some .free)->∃c,X.env.cells.lookup x=some c
 cab:∀x c,X.fn x=true->X.env.cells.lookup x=some c->X.s₀.heap.objs.size<=c
 hd:X.calm=true->X.A.handled=none
 frames:X.A.frames=some X.stack
 stk:X.stack=X.ay\/(X.stack=X.env::X.ay/\X.env.frame=some X.env.locals)
 exf:∀b∈X.ex,b≠X.env.locals/\∀x c,X.env.cells.lookup x=some c->c≠b
 bs:∀b o,X.base.get? b=some o->X.s₀.heap.get? b=some o/\X.aa b=none
 bsz:X.base.objs.size<=X.s₀.heap.objs.size
 noex:∀b o,X.base.get? b=some o->b∉X.ex
 exfs:∀b∈X.ex,b∉X.fs
 funs:X.s₀.heap.FunFrames X.base X.ay
 frf:∀b∈X.fs,X.aa b=none
 tabs:qK X.K X.aa
structure Inv (X:Cx) (ae:List (Addr×Obj)) (σ:List (Option V)) (H:Hp) (s:Shared):Prop where
 ok:X.Ok
 os:s.os=X.s₀.os
 bare:AllBare s.gens
 base:Un X.fs X.ex X.aa H X.s₀.heap s.heap
 loc:∃m,s.heap.Ns X.env.locals m/\∀(i:Nat) (x:Str) (v:V),X.N[i]?=some x->σ[i]?=some (some v)->Xu X.env.scope x->∃u,RelV v u/\ab5 X.env s.heap m x u
 cell:∀x c,X.env.cells.lookup x=some c->∃v,s.heap.IsCell c v
 free:H X.env.locals=none
 freeC:∀x c,X.env.cells.lookup x=some c->H c=none
 pin:∀p∈X.pn++ae,s.heap.get? p.1=some p.2/\H p.1=none/\p.1≠X.env.locals/\p.1∉X.fs/\∀v,p.2.data≠.cell v
 hok:lG X.prog X.w H s.heap
 len:σ.length=X.N.length
section
variable {X:Cx} {ae:List (Addr×Obj)} {σ:List (Option V)} {H H':Hp} {s:Shared} {h':Heap}
def Cx.Ok.ab6(ok:X.Ok)(e:X.base.get? b=some o):b∉X.fs:=λa=>by
 have:=(ok.funs.mem a).1;rw[e]at this;cases this
def Inv.bs(I:Inv X ae σ H s):∀b o,X.base.get? b=some o->s.heap.get? b=some o/\H b=none:=λb o e =>
 ⟨I.base.keep b o (I.ok.bs b o e).1 (I.ok.bs b o e).2 (I.ok.ab6 e) (I.ok.noex b o e),I.base.free b o (I.ok.bs b o e).1 (I.ok.bs b o e).2 (I.ok.noex b o e)⟩
def Inv.bk(I:Inv X ae σ H s):∀b o,X.base.get? b=some o->s.heap.get? b=some o:=λb o e=>(I.bs b o e).1
def Inv.mod(I:Inv X ae σ H s):Mod X.K X.mg X.base:=I.ok.mod
def Inv.qL(I:Inv X ae σ H s):X.K.In s.heap:=I.ok.mod.kin.keeps I.bk
def Inv.lt(I:Inv X ae σ H s):X.env.locals<s.heap.objs.size:=let ⟨_,a,_⟩:=I.loc;a.lt
def Inv.sz(I:Inv X ae σ H s):X.s₀.heap.objs.size<=s.heap.objs.size:=bK I.ok.above (nG I.lt)
def Inv.ab7(I:Inv X ae σ H s){a:Addr}(h:s.heap.objs.size<=a):a∉X.fs:=λb=>by
 obtain⟨_,o,ho,_⟩:=I.ok.funs.mem b;exact absurd (b6 (aY ho) (bK I.sz h)) (gG _)
def Inv.S6(I:Inv X ae σ H s):∀x c,X.env.cells.lookup x=some c->c≠X.env.locals:=λx c e z=>by
 obtain⟨v,o,ho,hd⟩:=I.cell x c e;obtain⟨m,⟨d,f,g,a,b,_⟩,_⟩:=I.loc;rw[z,a]at ho;cases ho;rw[b]at hd;cases hd
def Inv.funs(I:Inv X ae σ H s):s.heap.FunFrames X.base X.ay:=by
 have all:∀l,(∀b∈nK l,b∈X.fs)->X.s₀.heap.FunFrames X.base l->s.heap.FunFrames X.base l:=by
  intro l;induction l with
  | nil=>intro _ _;trivial
  | cons env r ih =>
   intro f g;obtain⟨hk,⟨L,o,a,h,ho,hd⟩,j⟩:=g;have c:=f L (by unfold nK;rw[jL,a];exact aD)
   obtain⟨k,e⟩:=I.base.slot L o ho (I.ok.frf L c) c λz=>I.ok.exfs L z c
   exact⟨hk,⟨L,_,a,h,e,hd⟩,ih (λb d=>f b (by unfold nK;rw[jL,a];exact aG _ d)) j⟩
 exact all X.ay (λ_ d=>d) I.ok.funs
def Inv.stack(I:Inv X ae σ H s):s.heap.FunFrames X.base X.stack:=by
 rcases I.ok.stk with e | ⟨e,hf⟩
 ·rw[e];exact I.funs
 ·rw[e];obtain⟨m,a,_⟩:=I.loc;refine .cons (by rw[I.ok.kind];decide) hf a ?_ I.funs
  exact Heap.get?_none_of_le (bK I.ok.bsz I.ok.above)
def Inv.wj(I:Inv X ae σ H s):∀b∈nK X.stack,b∈X.env.locals::X.fs:=λb a=>by
 rcases I.ok.stk with e | ⟨e,hf⟩
 ·rw[e]at a;exact aG _ a
 ·rw[e]at a;unfold nK at a;rw[jL,hf]at a;exact a
def Inv.wm(I:Inv X ae σ H s):∀b∈nK X.stack,H b=none:=λb a=>by
 rcases aF.mp (I.wj b a)with e | a
 ·rw[e];exact I.free
 ·obtain⟨_,o,ho,_⟩:=I.ok.funs.mem a;exact I.base.free b o ho (I.ok.frf b a) λz=>I.ok.exfs b z a
def Inv.tabs(I:Inv X ae σ H s):qK X.K H:=λx a c T e=>I.base.tbls T _ (I.ok.tabs x a c T e)
def Inv.step{M:Array GenState}{t':Nat}{R:Drawn}{ch:List Addr}(I:Inv X ae σ H s)
  (D:∀b∈ch,(b∈X.ex\/X.s₀.heap.objs.size<=b)/\b≠X.env.locals/\(∀x c,X.env.cells.lookup x=some c->c≠b)/\∀p∈X.pn++ae,p.1≠b)
  (keep:∀b o,b≠X.env.locals->b∉X.fs->b∉ch->s.heap.get? b=some o->H b=none->h'.get? b=some o)
  (slot:∀b o,b≠X.env.locals->b∈X.fs->b∉ch->s.heap.get? b=some o->H b=none->∃E,h'.get? b=some {o with slots:=E}) (free:∀b o,b∉ch->s.heap.get? b=some o->H b=none->H' b=none)
  (h:∀b o,b∉ch->s.heap.get? b=some o->∃t,h'.get? b=some t)
  (tups:∀b xs,H b=some (.ao xs)->H' b=some (.ao xs)) (frzs:∀b o u,H b=some (.oC o u)->H' b=some (.oC o u)) (y:∀b q,H b=some (.BY q)->H' b=some (.BY q))
  (T:∀m,s.heap.Ns X.env.locals m->h'.Ns X.env.locals m) (J:lG X.prog X.w H' h') (Y:AllBare M) :
  Inv X ae σ H' {s with heap:=h',gens:=M,drawn:=R,toks:=t'}:=by
 have B:∀b o,X.s₀.heap.get? b=some o->b≠X.env.locals:=λb o e=>bH (b6 (aY e) I.ok.above)
 have g:∀b o,X.s₀.heap.get? b=some o->b∉X.ex->b∉ch:=λb o e a j=>by
  rcases(D b j).1 with z | z
  ·exact a z
  ·exact absurd (b6 (aY e) z) (gG _)
 have f:∀x c,X.env.cells.lookup x=some c->∀v,s.heap.IsCell c v->h'.IsCell c v:=by
  rintro x c e v ⟨o,ho,hd⟩
  have C:c∉ch:=by grind
  by_cases hc:c∈X.fs
  ·obtain⟨E,q⟩:=slot c o (I.S6 x c e) hc C ho (I.freeC x c e);exact⟨_,q,hd⟩
  ·exact⟨o,keep c o (I.S6 x c e) hc C ho (I.freeC x c e),hd⟩
 refine⟨I.ok,I.os,Y,⟨λb o e n j a=>?_,λb o e n j a=>?_,λb o e n a=>?_,λb o e a=>?_,λb xs e=>tups b xs (I.base.tups b xs e),λb o xs e=>frzs b o xs (I.base.frzs b o xs e),λb N e=>?_⟩,?_,λx c e=>?_,?_,λx c e=>?_,λp hp=>?_,J,I.len⟩
 ·exact keep b o (B b o e) j (g b o e a) (I.base.keep b o e n j a) (I.base.free b o e n a)
 ·obtain⟨E,e1⟩:=I.base.slot b o e n j a;obtain⟨Z,L⟩:=slot b _ (B b o e) j (g b o e a) e1 (I.base.free b o e n a);exact⟨Z,L⟩
 ·obtain⟨t,e1⟩:=I.base.there b o e a;exact free b t (g b o e a) e1 (I.base.free b o e n a)
 ·obtain⟨t,e1⟩:=I.base.there b o e a;exact h b t (g b o e a) e1
 ·exact y b N (I.base.tbls b N e)
 ·obtain⟨m,hn,hl⟩:=I.loc;refine⟨m,T m hn,λi x v e1 L e3=>?_⟩
  obtain⟨u,r,l⟩:=hl i x v e1 L e3;refine⟨u,r,?_⟩;rcases l with l | ⟨k,c,e,z⟩
  ·exact .inl l
  ·exact .inr ⟨k,c,e,f x c e _ z⟩
 ·obtain⟨v,z⟩:=I.cell x c e;exact⟨v,f x c e v z⟩
 ·obtain⟨m,⟨o,_,_,ho,_⟩,_⟩:=I.loc;exact free _ o (λz=>(D _ z).2.1 rfl) ho I.free
 ·obtain⟨v,o,ho,hd⟩:=I.cell x c e;exact free c o (λz=>(D c z).2.2.1 x c e rfl) ho (I.freeC x c e)
 ·obtain⟨e,n,ne,Q,d⟩:=I.pin p hp;have C:p.1∉ch:=by grind
  exact⟨keep p.1 p.2 ne Q C e n,free p.1 p.2 C e n,ne,Q,d⟩
def Inv.un{t':Nat}(I:Inv X ae σ H s)(u:Un X.fs [] H H' s.heap h')(a:lG X.prog X.w H' h'):Inv X ae σ H' {s with heap:=h',toks:=t'}:=by
 obtain⟨m,⟨o,l,p,ho,r⟩,_⟩:=id I.loc;obtain⟨q,h⟩:=u.any ho I.free (by simp)
 exact I.step (ch:=[]) (λ_ z=>nomatch z) (λb o _ c _ e n=>u.keep b o e n c (by simp)) (λb o _ c _ e n=>u.slot b o e n c (by simp)) (λb o _ e n=>u.free b o e n (by simp)) (λb o _ e=>u.there b o e (by simp)) u.tups u.frzs u.tbls (λt j=>by
  obtain⟨y,d,f,g,k⟩:=j;rw[ho]at g;cases g;exact⟨_,d,f,h,k⟩) a I.bare
def Inv.call{h:Array GenState}{t':Nat}{l:Drawn}{ch:List Addr}(I:Inv X ae σ H s)(u:Un (nK X.stack) ch H H' s.heap h')(a:lG X.prog X.w H' h')(q:AllBare h)
  (j:∀b∈ch,(b∈X.ex\/X.s₀.heap.objs.size<=b)/\b≠X.env.locals/\(∀x c,X.env.cells.lookup x=some c->c≠b)/\∀p∈X.pn++ae,p.1≠b) :
  Inv X ae σ H' {s with heap:=h',gens:=h,drawn:=l,toks:=t'}:=by
 obtain⟨m,⟨o,C,D,ho,r⟩,_⟩:=id I.loc;obtain⟨E,d⟩:=u.any ho I.free λz=>(j _ z).2.1 rfl
 exact I.step j (λb o d t hc e n=>u.keep b o e n (λz=>(aF.mp (I.wj b z)).elim d t) hc) (λb o _ _ hc e n=>u.any e n hc) (λb o hc e n=>u.free b o e n hc) (λb o hc e=>u.there b o e hc) u.tups u.frzs u.tbls (λJ y=>by
  obtain⟨L,f,g,k,B⟩:=y;rw[ho]at k;cases k;exact⟨_,f,g,d,B⟩) a q
def Inv.turned{t':Nat}(I:Inv X ae σ H s)(k:∀b o,b≠it->s.heap.get? b=some o->h'.get? b=some o)(f:H it=none)(a:it≠X.env.locals)
  (h1:it∈X.ex\/X.s₀.heap.objs.size<=it) (h2:∀x c,X.env.cells.lookup x=some c->c≠it) (g:∀p∈X.pn++ae,p.1≠it):Inv X ae σ H {s with heap:=h',toks:=t'}:=by
 have d:∀b u,H b=some u->b≠it:=λb u e z=>by rw[z,f]at e;cases e
 refine I.step (ch:=[it]) (λb h=>?_) (λb o _ _ hc e _=>k b o (λz=>hc (by simp[z])) e) (λb o _ _ hc e _=>⟨o.slots,k b o (λz=>hc (by simp[z])) e⟩) (λ_ _ _ _ n=>n)
  (λb o hc e=>⟨o,k b o (λz=>hc (by simp[z])) e⟩) (λ_ _ e=>e) (λ_ _ _ e=>e) (λ_ _ e=>e) (λm j=>?_) (λb u e=>?_) I.bare
 ·have e:b=it:=by simpa using h
  subst e;exact⟨h1,a,h2,g⟩
 ·obtain⟨o,l,t,ho,r⟩:=j;exact⟨o,l,t,k _ o (dt a) ho,r⟩
 ·refine(I.hok b u e).we (λc v hc q=>k c v ?_ q) (λ_ q=>q) (λ_ _ q=>q) λ_ _ _ q=>q
  rcases hc with z | z
  ·rw[z];exact d b u e
  ·exact d c _ z
def Inv.tok(I:Inv X ae σ H s)(t:Nat):Inv X ae σ H {s with toks:=t}:=I.un Un.refl I.hok
def Inv.kept(I:Inv X ae σ H s)(k:∀b u,s.heap.get? b=some u->h'.get? b=some u):Inv X ae σ H {s with heap:=h',toks:=t'}:=I.un (Un.kept k) (I.hok.kept k)
def Inv.laid{a:Addr}{o:HO}{t':Nat}(I:Inv X ae σ H s)(k:∀b u,s.heap.get? b=some u->h'.get? b=some u)(hp:s.heap.objs.size<=a)(c:fH X.prog X.w (cx H a o) h' a o) :
  Inv X ae σ (cx H a o) {s with heap:=h',toks:=t'}:=I.un (Un.laid k hp (I.hok.fresh hp)) (I.hok.laid k hp c)
def Inv.write(I:Inv X ae σ H s)(c:Mut (H x))(he:e=x\/H e=some (.own x))(k:∀b u,b≠e->s.heap.get? b=some u->h'.get? b=some u)(d:∃u,h'.get? e=some u)
  (a:fH X.prog X.w (cx H x o) h' x o):Inv X ae σ (cx H x o) {s with heap:=h',toks:=t'}:=I.un (Un.write c he k d) (I.hok.write c he k d a)
def Inv.lV(I:Inv X ae σ H s)(h:∀p∈a,s.heap.get? p.1=some p.2/\H p.1=none/\p.1≠X.env.locals/\p.1∉X.fs/\∀v,p.2.data≠.cell v):Inv X a σ H s :=
 ⟨I.ok,I.os,I.bare,I.base,I.loc,I.cell,I.free,I.freeC,λp hp=>(aX.mp hp).elim (λz=>I.pin p (dI _ z)) (h p),I.hok,I.len⟩
def yL{N:List Str}(hN:N.Nodup){i j:Nat}(a:N[i]?=some x)(b:N[j]?=some x):i=j:=by
 obtain⟨d,e1⟩:=bu.mp a;obtain⟨e,c⟩:=bu.mp b;exact(qy hN).mp (e1.trans c.symm)
def store_ok2{M:Model}{A:Around}{E:Value->Shared->Prop}{i:Nat}{v:V}{u:Value}{Q:Unit->Shared->Prop}(I:Inv X ae σ H s)(hN:X.N.Nodup)(C:X.N[i]?=some x)(g:QR X.env.scope x)(r:RelV v u)
  (h:∀R,Inv X ae (σ.set i (some v)) H R->(∃a,Heap.SameBut a s.heap R.heap/\(a=X.env.locals\/X.env.cells.lookup x=some a))->Q () R) (hf:X.fn x=true\/X.env.scope.names.lookup x=some .local:=by first | exact .inl rfl | exact .inr rfl | assumption):wpAny M A (storeName X.env x u) Q E s:=by
 obtain⟨m,T,hl⟩:=id I.loc;have Y:(X.env.scope.kind==.class || (X.env.scope.kind==.module&&X.env.locals != X.env.globals))=false:=by rw[I.ok.kind];rfl
 have Xy:i<σ.length:=by rw[I.len];exact(bu.mp C).1
 have S6:=I.S6;have D0:∀{a:Addr} {h':Heap},(∃o,s.heap.get? a=some o/\H a=none)->Heap.SameBut a s.heap h'->lG X.prog X.w H h':=λ{a h'} ha f b ob e=>by
  obtain⟨_,_,yM⟩:=ha;refine(I.hok b ob e).we (λc J hc q=>(f.2 c ?_).trans q) (λ_ q=>q) (λ_ _ q=>q) λ_ _ _ q=>q
  rintro rfl
  rcases hc with rfl | hc
  ·grind
  ·grind
 rcases g with hk | hk
 ·refine wpAny_storeName_local hk T (λh' QT f=>?_) Y
  obtain⟨oL,_,_,Xz,_⟩:=id T;refine h _ ⟨I.ok,I.os,I.bare,⟨λb o e n t g=>?_,λb o e n t g=>?_,I.base.free,λb o e g=>?_,I.base.tups,I.base.frzs,I.base.tbls⟩,⟨_,QT,λj y Z e1 l e3=>?_⟩,λy c e=>?_,I.free,I.freeC,λp hp=>?_,D0 ⟨oL,Xz,I.free⟩ f,by simpa using I.len⟩ ⟨_,f,.inl rfl⟩
  ·exact(f.2 b (bH (b6 (aY e) I.ok.above))).trans (I.base.keep b o e n t g)
  ·obtain⟨sl,e1⟩:=I.base.slot b o e n t g;exact⟨sl,(f.2 b (bH (b6 (aY e) I.ok.above))).trans e1⟩
  ·obtain⟨o',e1⟩:=I.base.there b o e g;exact⟨o',(f.2 b (bH (b6 (aY e) I.ok.above))).trans e1⟩
  ·by_cases B:j=i
   ·subst B;rw[C]at e1;cases e1;rw[gh Xy]at l;cases l;exact⟨u,r,.inl ⟨hk,by simp⟩⟩
   ·rw[c9 (dt B)]at l;obtain⟨u',r',q⟩:=hl j y Z e1 l e3;refine⟨u',r',?_⟩;rcases q with⟨k,e⟩ | ⟨k,c,e,z⟩
    ·refine .inl ⟨k,?_⟩;have:y≠x:=λe=>B (yL hN e1 (e▸C))
     simp[this,e]
    ·exact .inr ⟨k,c,e,z.sameBut f (S6 y c e)⟩
  ·obtain⟨J,z⟩:=I.cell y c e;exact⟨J,z.sameBut f (S6 y c e)⟩
  ·obtain⟨e,n,ne,nf,d⟩:=I.pin p hp;exact⟨(f.2 p.1 ne).trans e,n,ne,nf,d⟩
 ·have D1:X.fn x=true:=by
   grind
  obtain⟨c,hc⟩:=I.ok.has x (.inl hk);obtain⟨J,z⟩:=I.cell x c hc;refine wpAny_storeName_cell I.ok.kind hk hc z (λh' B5 f=>?_)
  obtain⟨oc,D,agl⟩:=id z;refine h {s with heap:=h'} ⟨I.ok,I.os,I.bare,⟨λb o e n t g=>?_,λb o e n t g=>?_,I.base.free,λb o e g=>?_,I.base.tups,I.base.frzs,I.base.tbls⟩,⟨m,T.sameBut f (dt (S6 x c hc)),λj y Z e1 l e3=>?_⟩,λy L e=>?_,I.free,I.freeC,λp hp=>?_,D0 ⟨oc,D,I.freeC x c hc⟩ f,by simpa using I.len⟩ ⟨c,f,.inr hc⟩
  ·exact(f.2 b (bH (b6 (aY e) (I.ok.cab x c D1 hc)))).trans (I.base.keep b o e n t g)
  ·obtain⟨sl,e1⟩:=I.base.slot b o e n t g;exact⟨sl,(f.2 b (bH (b6 (aY e) (I.ok.cab x c D1 hc)))).trans e1⟩
  ·obtain⟨o',e1⟩:=I.base.there b o e g;exact⟨o',(f.2 b (bH (b6 (aY e) (I.ok.cab x c D1 hc)))).trans e1⟩
  ·by_cases B:j=i
   ·subst B;rw[C]at e1;cases e1;rw[gh Xy]at l;cases l;exact⟨u,r,.inr ⟨.inl hk,c,hc,B5⟩⟩
   ·rw[c9 (dt B)]at l;obtain⟨u',r',q⟩:=hl j y Z e1 l e3;refine⟨u',r',?_⟩;rcases q with q | ⟨k,L,e,z'⟩
    ·exact .inl q
    ·refine .inr ⟨k,L,e,z'.sameBut f ?_⟩
     rintro rfl
     exact B (yL hN e1 (I.ok.inj _ _ _ e hc▸C))
  ·by_cases WQ:L=c
   ·grind
   ·obtain⟨w2,z2⟩:=I.cell y L e;exact⟨w2,z2.sameBut f WQ⟩
  ·obtain⟨e,n,ne,nf,d⟩:=I.pin p hp;refine⟨(f.2 p.1 ?_).trans e,n,ne,nf,d⟩;intro q;rw[q,D]at e;have q':=cj e;exact d J (by grind)
def qM(I:Inv X ae σ H s)(hN:X.N.Nodup)(b:X.N[i]?=some x)(c:QR X.env.scope x)(r:RelV v u)
  (h:∀a,Inv X ae (σ.set i (some v)) H a->Q () a) (d:X.fn x=true\/X.env.scope.names.lookup x=some .local:=by first | exact .inl rfl | exact .inr rfl | assumption):wpAny M A (storeName X.env x u) Q E s :=
 store_ok2 I hN b c r (λa e _=>h a e) d
def Inv.QU(I:Inv X ae σ H s)(ho:a.os=s.os)(u:Un (nK X.stack) ch H H' s.heap a.heap)(d:lG X.prog X.w H' a.heap)(f:AllBare a.gens)
  (g:∀b∈ch,(b∈X.ex\/X.s₀.heap.objs.size<=b)/\b≠X.env.locals/\(∀x c,X.env.cells.lookup x=some c->c≠b)/\∀p∈X.pn++ae,p.1≠b):Inv X ae σ H' a:=by
 obtain⟨h',h,j,k,l⟩:=a;have e:=ho;subst e;exact I.call u d f g
end
abbrev XK:=Value->Option Addr->Hp->Prop
abbrev St:=List (Option V)
abbrev VK:=V->Hp->Prop
abbrev TE:=St->Hp->VK->Prop
abbrev TT:=St->Hp->(Bool->Hp->Prop)->Prop
abbrev TA:=St->Hp->(List V->Hp->Prop)->Prop
structure tM where
 nx:St->Hp->Prop
 rt:VK
 bk:St->Hp->Prop:=λ_ _=>False
 ct:St->Hp->Prop:=λ_ _=>False
abbrev TS:=tM->St->Hp->Prop
def EP(X:Cx)(b:List (Addr×Obj))(c:St)(Q:VK)(u:Value)(d:Shared):Prop:=∃v a,Inv X b c a d/\RelV v u/\Q v a
def TP(X:Cx)(c:List (Addr×Obj))(d:St)(Q:Bool->Hp->Prop)(b:Bool)(e:Shared):Prop:=∃a,Inv X c d a e/\Q b a
def AP(X:Cx)(c:List (Addr×Obj))(d:St)(Q:List V->Hp->Prop)(e:List Value)(f:Shared):Prop:=∃a b,Inv X c d b f/\Vals a e/\Q a b
def SP(X:Cx)(c:List (Addr×Obj))(D:tM)(f:Flow)(d:Shared):Prop :=
 match f with
 | .next=>∃b a,Inv X c b a d/\D.nx b a
 | .brk=>∃b a,Inv X c b a d/\D.bk b a
 | .cont=>∃b a,Inv X c b a d/\D.ct b a
 | .ret u=>∃v b a,Inv X c b a d/\RelV v u/\D.rt v a
def PE(X:Cx)(e:Expr)(t:TE):Prop :=
 ∀(a:List (Addr×Obj)) (s:Shared) (σ:St) (H:Hp) (Q:VK),Inv X a σ H s->t σ H Q->wpAny (model X.prog X.w) X.A (eval e X.env) (EP X a σ Q) X.xe s
def PT(X:Cx)(e:Expr)(t:TT):Prop :=
 ∀(a:List (Addr×Obj)) (s:Shared) (σ:St) (H:Hp) (Q:Bool->Hp->Prop),Inv X a σ H s->t σ H Q->wpAny (model X.prog X.w) X.A (isTrue e X.env (eval e X.env)) (TP X a σ Q) X.xe s
def PW(X:Cx)(e:Expr)(t:TT):Prop :=
 ∀(b:Sem Value) (a:List (Addr×Obj)) (s:Shared) (σ:St) (H:Hp) (Q:Bool->Hp->Prop),Inv X a σ H s->t σ H Q->wpAny (model X.prog X.w) X.A (isTrue e X.env b) (TP X a σ Q) X.xe s
def PW.pt(h:PW X e t):PT X e t:=h _
def PA(X:Cx)(b:List Expr)(t:TA):Prop :=
 ∀(pos:Pos) (a:List (Addr×Obj)) (s:Shared) (σ:St) (H:Hp) (Q:List V->Hp->Prop),Inv X a σ H s->t σ H Q->wpAny (model X.prog X.w) X.A (spliced (backTo pos (starEach b X.env))) (AP X a σ Q) X.xe s
def PS(X:Cx)(st:Stmt)(t:TS):Prop :=
 ∀(a:List (Addr×Obj)) (s:Shared) (σ:St) (H:Hp) (D:tM),Inv X a σ H s->t D σ H->wpAny (model X.prog X.w) X.A (exec st X.env) (SP X a D) X.xe s
def PSs(X:Cx)(st:List Stmt)(t:TS):Prop :=
 ∀(a:List (Addr×Obj)) (s:Shared) (σ:St) (H:Hp) (D:tM),Inv X a σ H s->t D σ H->wpAny (model X.prog X.w) X.A (execs st X.env) (SP X a D) X.xe s
def thn{b:Type}{t:Sem b}{Q c:b->Shared->Prop}{M:Model}{A:Around}{E:Value->Shared->Prop}(h:wpAny M A t Q E s)(d:∀a s,Q a s->c a s):wpAny M A t c E s:=jc h d λ_ _ x=>x
section
variable {X:Cx}
def Nh(i:Nat):TE:=λa H Q=>∃v,a[i]?=some (some v)/\Q v H
def tC(v:V):TE:=λ_ H Q=>Q v H
def pe_var{i:Nat}{x:Str}{pos:Pos}(hN:X.N[i]?=some x)(b:Xu X.env.scope x)(hd:(x==("__debug__":Str))=false:=by decide)(d:(x==("__classdict__":Str))=false:=by decide):PE X (.Name x pos) (Nh i):=by
 intro f s g H Q I h;obtain⟨v,e,h⟩:=h;obtain⟨m,j,k⟩:=I.loc;obtain⟨u,r,l⟩:=k i x v hN e b;have kX:EP X f g Q u s:=⟨v,H,I,r,h⟩;rcases l with⟨hk,hm⟩ | ⟨hk,c,hc,a⟩
 ·exact wpAny_Name (wpAny_loadName_local I.ok.kind hk j hm kX) hd
 ·rcases hk with hk | hk
  ·exact wpAny_Name (wpAny_loadName_cell I.ok.kind hk hc a kX) hd
  ·exact wpAny_Name (wpAny_loadName_free I.ok.kind hk hc a kX d) hd
def S7{i j pos}:PE X (.Constant (.int i) j pos) (tC (.int i)):=λ_ _ _ H _ I h=>wpAny_Constant_int ⟨.int i,H,I.tok _,⟨_,rfl⟩,h⟩
def XA{b j pos}:PE X (.Constant (.bool b) j pos) (tC (.bl b)):=λ_ _ _ H _ I h=>Constant_bool ⟨.bl b,H,I,rfl,h⟩
def S8{j pos}:PE X (.Constant .none j pos) (tC .bj):=λ_ _ _ H _ I h=>Constant_none ⟨.bj,H,I,rfl,h⟩
def S9{x j pos}:PE X (.Constant (.str x) j pos) (tC (.str x)):=λ_ _ _ H _ I h=>Calls.Constant_str ⟨.str x,H,I.tok _,⟨_,rfl⟩,h⟩
def Gl(X:Cx)(x:Str):Prop:=X.env.kindOf x=some .globalImplicit
def ld_glob{E:Value->Shared->Prop}{a:List (Addr×Obj)}{s:Shared}{b:St}{H:Hp}{x:Str}{u:Value}{pos:Pos}{Q:Value->Shared->Prop}(I:Inv X a b H s)(c:Gl X x)(d:X.mg x=some u)(h:Q u s)
  (hd:(x==("__debug__":Str))=false:=by decide):wpAny (model X.prog X.w) X.A (eval (.Name x pos) X.env) Q E s :=
 Iq I.ok.kind c (Calls.loadGlobal_global (by rw[I.ok.glob];exact I.mod.glob.keeps I.bk) d h) hd
def ld_blt{E:Value->Shared->Prop}{a:List (Addr×Obj)}{s:Shared}{b:St}{H:Hp}{x:Str}{u:Value}{pos:Pos}{Q:Value->Shared->Prop}(I:Inv X a b H s)(c:Gl X x)(d:X.mg x=none)(e:bootBuiltins x=some u)(h:Q u s)
  (f:x≠"__name__":=by decide) (hd:(x==("__debug__":Str))=false:=by decide):wpAny (model X.prog X.w) X.A (eval (.Name x pos) X.env) Q E s:=by
 obtain⟨j,g,i⟩:=I.mod.blt;exact Iq I.ok.kind c (Calls.loadGlobal_builtin (by rw[I.ok.glob];exact I.mod.glob.keeps I.bk) d (by rw[I.ok.blt];exact g.keeps I.bk) ((i x f).trans e) h) hd
def D2(a:Gl X x)(b:X.mg x=some u)(r:RelV v u)(hd:(x==("__debug__":Str))=false:=by decide):PE X (.Name x pos) (tC v) :=
 λ_ _ _ H _ I h=>ld_glob I a b ⟨v,H,I,r,h⟩ hd
def Ni{x:Str}{v:V}{u:Value}{pos:Pos}(a:Gl X x)(b:X.mg x=none)(c:bootBuiltins x=some u)(r:RelV v u)(d:x≠"__name__":=by decide)(hd:(x==("__debug__":Str))=false:=by decide):PE X (.Name x pos) (tC v) :=
 λ_ _ _ H _ I h=>ld_blt I a b c ⟨v,H,I,r,h⟩ d hd
variable {a b:Expr} {ta tb:TE} {pos:Pos}
variable {tA tB':TT} {rest:List Expr}
def aca(t u:TT):TT:=λd H Q=>t d H λc e=>if c=true then u d e Q else Q false e
def tOr(t u:TT):TT:=λd H Q=>t d H λc e=>if c=true then Q true e else u d e Q
def acb(t:TT):TT:=λd H Q=>t d H λc e=>Q (!c) e
def Nj(d:PT X a tA):PW X (.BoolOp .And [a] pos) tA:=by
 intro i f s g H Q I h;refine isTrue_and (thn (d f s g H Q I h) λc j e=>?_)
 cases c with
 | true=>exact isTrue_and_nil e
 | false=>exact e
def Ta(d:PT X a tA):PW X (.BoolOp .Or [a] pos) tA:=by
 intro i f s g H Q I h;refine isTrue_or (thn (d f s g H Q I h) λc j e=>?_)
 cases c with
 | false=>exact isTrue_or_nil e
 | true=>exact e
def Tb(i:PT X a tA)(j:PW X (.BoolOp .And (b::rest) pos) tB'):PW X (.BoolOp .And (a::b::rest) pos) (aca tA tB'):=by
 intro k d s e H Q I h;refine isTrue_and (thn (i d s e H _ I h) λc s1 ⟨H1,f,g⟩=>?_)
 cases c with
 | true=>exact j k d s1 e H1 Q f g
 | false=>exact⟨H1,f,g⟩
def XB(i:PT X a tA)(j:PW X (.BoolOp .Or (b::rest) pos) tB'):PW X (.BoolOp .Or (a::b::rest) pos) (tOr tA tB'):=by
 intro k d s e H Q I h;refine isTrue_or (thn (i d s e H _ I h) λc s1 ⟨H1,f,g⟩=>?_)
 cases c with
 | true=>exact⟨H1,f,g⟩
 | false=>exact j k d s1 e H1 Q f g
def Tc(d:PT X a tA):PT X (.UnaryOp .Not a pos) (acb tA):=by
 intro e s f H Q I h;exact isTrue_not (d e s f H (λc g=>Q (!c) g) I h)
def XC(ta:TE):TE:=λd H Q=>ta d H λx e=>∃c,x=.bl c/\Q (.bl (!c)) e
def IQ{op}(h:PE X a t):PE X (.BoolOp op [a] pos) t:=λc s d H Q I hw=>BoolOp_one (h c s d H Q I hw)
def Td(e:PE X a ta):PE X (.UnaryOp .Not a pos) (XC ta):=by
 intro f s g H Q I h;refine UnaryOp_ (thn (e f s g H _ I h) λv s1 ⟨x,H1,i,j,d⟩=>?_)
 obtain⟨c,rfl,d⟩:=d;cases j;exact not_of (lx ⟨.bl (!c),H1,i,rfl,d⟩)
def tIf(t:TT)(ta tb:TE):TE:=λd H Q=>t d H λc e=>if c=true then ta d e Q else tb d e Q
def IS(hc:PT X c tA)(j:PE X a ta)(k:PE X b tb):PE X (.IfExp c a b pos) (tIf tA ta tb):=by
 intro e s f H Q I h;refine wpAny_IfExp (thn (hc e s f H _ I h) λd s1 ⟨H1,g,i⟩=>?_)
 cases d with
 | true=>exact j e s1 f H1 Q g i
 | false=>exact k e s1 f H1 Q g i
end
def wq(K:W.Frag)(H:Hp)(a:Addr)(xs:List V):Prop :=
 Rd H a (.lst xs) \/
  ∃(o:Obj) (b:Array Value) (n:Nat),K.lookup a=some o/\o.cls=.type "list"/\o.dict=none/\o.data=.seq b n/\b.size<=sizeLine/\Vals xs b.toList
def kW.sq{K:W.Frag}{H:Hp}{a:Addr}{xs:List V}(h:kW K H a xs):wq K H a xs:=by
 rcases h with h | ⟨b,n,e,z,r⟩
 ·exact .inl h
 ·exact .inr ⟨_,b.toArray,n,e,rfl,rfl,rfl,by grind,by grind⟩
noncomputable def acd:Value->Option V
 | .none=>some .bj
 | .bool b=>some (.bl b)
 | .int i _=>some (.int i)
 | .str x _=>some (.str x)
 | .bytes b _=>some (.WM b)
 | .float b _=>some (.flt b)
 | .ref a=>some (.ref a)
 | .type n=>some (.ty n)
 | _=>none
def RelV.abs(r:RelV x u):acd u=some x:=by
 cases x with
 | bj=>cases r;rfl
 | bl _=>cases r;rfl
 | int _=>obtain⟨t,rfl⟩:=r;rfl
 | str _=>obtain⟨t,rfl⟩:=r;rfl
 | WM _=>obtain⟨t,rfl⟩:=r;rfl
 | flt _=>obtain⟨t,rfl⟩:=r;rfl
 | ref _=>cases r;rfl
 | ty _=>cases r;rfl
def RelV.inj(r:RelV x u)(q:RelV y u):x=y:=cj (r.abs.symm.trans q.abs)
theorem Vals.inj:∀{xs a:List V} {us:List Value},Vals xs us->Vals a us->xs=a
 | _,_,_,.nil,.nil=>rfl
 | _,_,_,.cons r t,.cons b c=>by rw[r.inj b,Vals.inj t c]
section
variable {X:Cx} {ae:List (Addr×Obj)} {σ:St} {H:Hp} {s:Shared} {a:Addr} {xs ys:List V}
def gT.of{K:W.Frag}(h:H a=some (.ao xs)):gT K H a xs:=.inl (.inl h)
def Inv.list(I:Inv X ae σ H s)(h:wq X.K H a xs):∃b:List Value,Vals xs b/\PlainL s.heap a b.toArray/\xs.length<=sizeLine:=by
 rcases h with h | ⟨o,b,n,hk,hc,hd,c,d,r⟩
 ·obtain⟨z,b,n,r,e⟩:=h.ok I.hok;exact⟨b,r,⟨_,n,e,rfl,rfl,rfl⟩,z⟩
 ·refine⟨b.toList,r,⟨o,n,I.qL a o hk,hc,hd,by simp_all⟩,?_⟩
  have e:=r.length;simp only[ip]at e
  lia
def Inv.tuple(I:Inv X ae σ H s)(h:gT X.K H a xs):∃b:List Value,Vals xs b/\IsTup s.heap a b.toArray/\xs.length<=sizeLine:=by
 rcases h with h | ⟨o,b,n,hk,hc,c,d,r⟩
 ·obtain⟨z,b,r,p⟩:=h.ok I.hok;exact⟨b,r,p,z⟩
 ·refine⟨b.toList,r,⟨o,I.qL a o hk,hc,n,by simp_all⟩,?_⟩
  have e:=r.length;simp only[ip]at e
  lia
def Inv.lW(I:Inv X ae σ H s)(h:wq X.K H a xs)(h':wq X.K H a ys):xs=ys:=by
 obtain⟨f,r,⟨o,n,e,_,_,d⟩,_⟩:=I.list h;obtain⟨g,j,⟨k,l,b,_,_,c⟩,_⟩:=I.list h';rw[e]at b;cases b;rw[d]at c;injection c with m _
 have:f=g:=by grind
 subst this;exact r.inj j
def Inv.kj(I:Inv X ae σ H s)(h:gT X.K H a xs)(h':gT X.K H a ys):xs=ys:=by
 obtain⟨f,r,⟨o,e,_,n,d⟩,_⟩:=I.tuple h;obtain⟨g,j,⟨k,b,_,l,c⟩,_⟩:=I.tuple h';rw[e]at b;cases b;rw[d]at c;injection c with m _
 have:f=g:=by grind
 subst this;exact r.inj j
end
section
variable {X:Cx} {st:Stmt} {rest:List Stmt} {t u:TS} {e:Expr} {te:TE} {pos:Pos}
def QV:TS:=λD a H=>D.nx a H
def ace(t u:TS):TS:=λD a H=>t {D with nx:=u D} a H
def Nk:PSs X [] QV:=λ_ _ a H _ I h=>vV ⟨a,H,I,h⟩
def IT(h1:PS X st t)(h2:PSs X rest u):PSs X (st::rest) (ace t u):=by
 intro a s b H D I h;refine wpAny_execs_cons (thn (h1 a s b H {D with nx:=u D} I h) λf c q=>?_)
 cases f with
 | next =>
  obtain⟨d,g,i,q⟩:=q;exact h2 a c d g D i q
 | ret v=>exact q
 | brk=>exact q
 | cont=>exact q
def Nl(h1:PS X st t):PSs X [st] t:=by
 intro a s b H D I h;refine wpAny_execs_cons (thn (h1 a s b H D I h) λf c q=>?_)
 cases f with
 | next=>exact vV q
 | ret v=>exact q
 | brk=>exact q
 | cont=>exact q
def Te:TS:=λD a H=>D.bk a H
def XD:TS:=λD a H=>D.ct a H
def Nn:PS X (.Pass pos) QV:=λ_ _ a H _ I h=>wpAny_Pass ⟨a,H,I,h⟩
def IU:PS X (.Break pos) Te:=λ_ _ a H _ I h=>wpAny_Break ⟨a,H,I,h⟩
def yN:PS X (.Continue pos) XD:=λ_ _ a H _ I h=>wpAny_Continue ⟨a,H,I,h⟩
def Inv.quiet{a:List (Addr×Obj)}{σ:St}{H:Hp}{s:Shared}(I:Inv X a σ H s):interactive X.env=false:=by simp[interactive,I.ok.kind]
def XE(te:TE):TS:=λD a H=>te a H λ_ b=>D.nx a b
def Np(he:PE X e te)(b:swapsWith e none pos.line X.env=pure false:=by rfl):PS X (.Expr e pos) (XE te):=by
 intro c s a H D I h;exact wpAny_Expr_any (thn (he c s a H _ I h) (by rintro v s1 ⟨x,H1,d,g,f⟩;exact⟨a,H1,d,f⟩)) I.quiet b
def acf(te:TE):TS:=λD a H=>te a H D.rt
def Tf(he:PE X e te):PS X (.Return (some e) pos) (acf te):=by
 intro b s a H D I h;exact wpAny_Return_some (thn (he b s a H _ I h) (by rintro v s1 ⟨x,H1,c,d,f⟩;exact⟨x,a,H1,c,d,f⟩))
def XF:TS:=λD _ H=>D.rt .bj H
def Nq:PS X (.Return none pos) XF:=λ_ _ a H _ I h=>wpAny_Return_none ⟨.bj,a,H,I,rfl,h⟩
def acg(c:TT)(t u:TS):TS:=λD a H=>c a H λb d=>if b=true then t D a d else u D a d
def XG(hc:PT X c k)(l:PSs X a t)(m:PSs X b u):PS X (.If c a b pos) (acg k t u):=by
 intro f s g H D I h;refine wpAny_If (thn (hc f s g H _ I h) λd s1 ⟨H1,i,j⟩=>?_)
 cases d with
 | true=>exact l f s1 g H1 D i j
 | false=>exact m f s1 g H1 D i j
end
abbrev TG:=V->St->Hp->(St->Hp->Prop)->Prop
abbrev Th:=List V->St->Hp->(St->Hp->Prop)->Prop
def PG(X:Cx)(a:Expr)(t:TG):Prop :=
 ∀(b:List (Addr×Obj)) (s:Shared) (σ:St) (H:Hp) (v:V) (u:Value) (Q:St->Hp->Prop),Inv X b σ H s->RelV v u->t v σ H Q ->
  wpAny (model X.prog X.w) X.A (assign a X.env u) (λ_ e=>∃c d,Inv X b c d e/\Q c d) X.xe s
def PGs(X:Cx)(e:List Expr)(t:Th):Prop :=
 ∀(a:List (Addr×Obj)) (s:Shared) (σ:St) (H:Hp) (b:List V) (us:List Value) (Q:St->Hp->Prop),Inv X a σ H s->Vals b us->t b σ H Q ->
  wpAny (model X.prog X.w) X.A (assignInOrder ((assignEach e X.env).map (·.2)) us) (λ_ f=>∃c d,Inv X a c d f/\Q c d) X.xe s
abbrev IV:=V->V->V->Hp->(Hp->Prop)->Prop
def IW(X:Cx)(t:IV):Prop :=
 ∀(a:List (Addr×Obj)) (s:Shared) (σ:St) (H:Hp) (o i v:V) (b c u:Value) (Q:Hp->Prop),Inv X a σ H s->RelV o b->RelV i c->RelV v u->t o i v H Q ->
  wpAny (model X.prog X.w) X.A (setItem b c u) (λ_ e=>∃d,Inv X a σ d e/\Q d) X.xe s
abbrev TIp:=V->V->Hp->VK->Prop
def PIp(X:Cx)(b:Operator)(t:TIp):Prop :=
 ∀(a:List (Addr×Obj)) (s:Shared) (σ:St) (H:Hp) (x y:V) (v u:Value) (Q:VK),Inv X a σ H s->RelV x v->RelV y u->t x y H Q ->
  wpAny (model X.prog X.w) X.A (inplaceOp b v u) (EP X a σ Q) X.xe s
section
variable {X:Cx} {pos:Pos}
def gName(i:Nat):TG:=λv a H Q=>Q (a.set i (some v)) H
def Nr(hN:X.N.Nodup)(a:X.N[i]?=some x)(b:QR X.env.scope x)(c:X.fn x=true\/X.env.scope.names.lookup x=some .local:=by first | exact .inl rfl | exact .inr rfl | assumption):PG X (.Name x pos) (gName i):=by
 intro e s f H v u Q I r h;exact wpAny_assign_Name (qM I hN a b r (λg d=>⟨_,H,d,h⟩) c)
def ach:Th:=λa b H Q=>a=[]/\Q b H
def XH(t:TG)(u:Th):Th:=λa b H Q=>∃v r,a=v::r/\t v b H λc d=>u r c d Q
def Nt:PGs X [] ach:=by
 intro b s a H c d Q I r h;obtain⟨e,h⟩:=h;subst e;cases r;exact assignInOrder_nil ⟨a,H,I,h⟩
def IX(h1:PG X e t)(h2:PGs X a u)
  (c:(assignEach (e::a) X.env).map (·.2)=assign e X.env::(assignEach a X.env).map (·.2):=by rfl):PGs X (e::a) (XH t u):=by
 intro b s d H k l Q I r h;obtain⟨v,m,e1,h⟩:=h;subst e1;cases r with
 | cons r f =>
  rw[c];refine assignInOrder_cons (thn (h1 b s d H _ _ _ I r h) λ_ s1 ⟨g,H1,i,j⟩=>?_)
  exact h2 b s1 g H1 _ _ Q i f j
def aci(K:W.Frag)(n:Nat)(t:Th):TG:=λv c H Q=>∃a b,v=.ref a/\gT K H a b/\b.length=n/\t b c H Q
def Ti{c:List Expr}{k:Nat}{t:Th}{n:Nat}(hc:X.calm=true)(h:PGs X c t)
  (d:(assignEach c X.env).length=n:=by rfl) (f:(assignEach c X.env).findIdx? (·.1)=none:=by rfl):PG X (.Tuple c k pos) (aci X.K n t):=by
 intro g s i H v u Q I r hw;obtain⟨a,j,e1,l,m,hw⟩:=hw;subst e1;cases r;obtain⟨x,p,ht,y⟩:=I.tuple l;refine assign_Tuple_tuple (I.ok.hd hc) ht (by simp[d,<-m,p.length]) f λB q=>?_
 have w:=I.kept (t':=s.toks) λb o e=>q b o (bH (aY e)) e
 exact h g _ i H j _ Q w (by grind) hw
def acj(to b:TE)(t:IV):TG:=λv a H Q=>to a H λo c=>b a c λi d=>t o i v d λe=>Q a e
def Tj(ho:PE X o to)(e:PE X i f)(g:IW X t)
  (j:∀v,assign (.Subscript o i pos) X.env v=(do
   let a <-holding [v] (eval o X.env)
   let b <-holding [v,a] (eval i X.env)
   standAt pos
   holding [v,a,b] (setItem a b v)
   release [v,a,b] []):=by intro _;rfl):PG X (.Subscript o i pos) (acj to f t):=by
 intro d s c H v u Q I r h;rw[j];refine af (fM (thn (ho d s c H _ I h) λa s1 ⟨x,H1,k,l,m⟩=>?_))
 refine af (fM (thn (e d s1 c H1 _ k m) λb s2 ⟨y,p,q,w,B⟩=>?_))
 refine af (wpAny_standAt (af (fM (thn (g d s2 c p x y v a b u _ q l w r B) λ_ s3 ⟨C,D,E⟩=>?_))))
 exact wpAny_release ⟨c,C,D,E⟩
def Nu(b:TE)(g:TG):TS:=λD a H=>b a H λx c=>g x a c D.nx
def IY(he:PE X e d)(f:PG X a g)(i:swapsWithSole [a] e pos.line X.env=pure false:=by rfl)(hw:swappedStores [a] e X.env=pure none:=by rfl)
  (h1:(assignEach [a] X.env).map (·.2)=[assign a X.env]:=by rfl):PS X (.Assign [a] e pos) (Nu d g):=by
 intro b s c H D I h;refine wpAny_Assign_stores (thn (he b s c H _ I h) λv s1 ⟨x,H1,j,k,l⟩=>?_) i hw
 rw[h1];exact thn (f b s1 c H1 x v _ j k l) λ_ m q=>q
def Tn(hN:X.N.Nodup)(a:X.N[i]?=some x)(b:QR X.env.scope x)(he:PE X e c)(d:swapsWith e (some (.Name x f)) pos.line X.env=pure false:=by rfl)(g:X.fn x=true\/X.env.scope.names.lookup x=some .local:=by first | exact .inl rfl | exact .inr rfl | assumption) :
  PS X (.Assign [.Name x f] e pos) (Nu c (gName i)):=by
 intro j s k H D I h;refine wpAny_Assign_Name (thn (he j s k H _ I h) λv s1 ⟨y,H1,l,m,o⟩=>?_) d
 exact qM l hN a b m (λq p=>⟨_,H1,p,o⟩) g
def ack(i:Nat)(b:TE)(c:TIp):TS:=λD a H=>∃x,a[i]?=some (some x)/\b a H λy d=>c x y d λz e=>D.nx (a.set i (some z)) e
def To(hN:X.N.Nodup)(f:X.N[i]?=some x)(a:QR X.env.scope x)(he:PE X e o)(ho:PIp X op p)(q:X.fn x=true\/X.env.scope.names.lookup x=some .local:=by first | exact .inl rfl | exact .inr rfl | assumption) :
  PS X (.AugAssign (.Name x tN) op e pos) (ack i o p):=by
 intro b s g H D I h;obtain⟨v,e1,h⟩:=h;obtain⟨m,t,B⟩:=I.loc;have Nv:Xu X.env.scope x:=by rcases a with k | k;exact .inl k;exact .inr (.inl k)
 obtain⟨u,r,l⟩:=B i x v f e1 Nv;refine wpAny_AugAssign_Name ?_;have j:wpAny (model X.prog X.w) X.A (eval e X.env) (λw C=>wpAny (model X.prog X.w) X.A (inplaceOp op u w) (λr d=>wpAny (model X.prog X.w) X.A (storeName X.env x r) (λ_=>SP X b D .next) X.xe d) X.xe C) X.xe s:=by
  refine thn (he b s g H _ I h) λw s1 ⟨y,H1,E,J,L⟩=>?_
  refine thn (ho b s1 g H1 v y u w _ E r J L) λz s2 ⟨zv,M,Q,R,T⟩=>?_
  exact qM Q hN f a R (λs3 Y=>⟨_,M,Y,T⟩) q
 rcases l with⟨hk,hm⟩ | ⟨hk,c,hc,Z⟩
 ·exact wpAny_loadName_local I.ok.kind hk t hm j
 ·rcases hk with hk | hk
  ·exact wpAny_loadName_cell I.ok.kind hk hc Z j
  ·rcases a with k | k
   ·have:X.env.scope.names.lookup x=some .free:=hk;rw[k]at this;cases this
   ·have:X.env.scope.names.lookup x=some .free:=hk;rw[k]at this;cases this
end
section
variable {X:Cx} {pos:Pos}
def Tq(c:TT)(h:TS):TS:=λD a H=>∃W:Nat->St->Hp->Prop,(∃m,W m a H)/\∀m a H,W m a H ->
 c a H λb d=>if b=true then ∃N:St->Hp->Prop,(∀e f,N e f->∃g,g<m/\W g e f)/\h {D with nx:=N,ct:=N,bk:=D.nx} a d else D.nx a d
def IZ(hp:PassesOwn (model X.prog X.w) X.A X.env X.xe)(hc:PT X c x)(y:PSs X body B):PS X (.While c body [] pos) (Tq x B):=by
 intro j s C H D I h;obtain⟨W,⟨E,J⟩,lH⟩:=h;refine wpAny_While (codeAny_whileLoop (λn L=>∃q r,Inv X j q r L/\W n q r) ?_ E ⟨C,H,I,J⟩)
 rintro n s1 ⟨e,H1,M,Q⟩
 refine lz hp (thn (hc j s1 e H1 _ M (lH n e H1 Q)) λb s2 ⟨t,u,g⟩=>?_)
 cases b with
 | true =>
  obtain⟨N,hN,g⟩:=g;rw[if_pos rfl];refine lz hp (thn (y j s2 e t _ u g) λf R i=>?_)
  cases f with
  | next =>
   obtain⟨a,d,k,l⟩:=i;obtain⟨m,o,p⟩:=hN a d l;exact⟨m,o,a,d,k,p⟩
  | cont =>
   obtain⟨a,d,k,l⟩:=i;obtain⟨m,o,p⟩:=hN a d l;exact⟨m,o,a,d,k,p⟩
  | brk=>exact i
  | ret v=>exact i
 | false =>
  rw[if_neg c5];exact vV ⟨e,t,u,g⟩
end
structure It where
 go:Nat->Hp->Prop
 yld:Nat->Hp->V->Hp->Prop
 stop:Nat->Hp->Prop
def wt(X:Cx)(a:List (Addr×Obj))(H:Hp)(b:Addr):Prop :=
 H b=none/\b≠X.env.locals/\b∉X.fs/\(b∈X.ex\/X.s₀.heap.objs.size<=b)/\(∀x c,X.env.cells.lookup x=some c->c≠b)/\∀p∈X.pn++a,p.1≠b
def Inv.B6{X:Cx}{d:List (Addr×Obj)}{σ:St}{H H':Hp}{s:Shared}{b:Addr}(I:Inv X d σ H s)(a:s.heap.objs.size<=b)(f:H' b=none):wt X d H' b:=by
 refine⟨f,v3 (b6 I.lt a),I.ab7 a,.inr (bK I.sz a),λx c e z=>?_,λp hp z=>?_⟩
 ·obtain⟨v,q⟩:=I.cell x c e;exact absurd (b6 q.lt (by grind)) (gG _)
 ·exact absurd (b6 (aY (I.pin p hp).1) (by grind)) (gG _)
structure Turn (P:Program) (w:World) (K:W.Frag) (tg:Expr) (J:It) (fp:List Addr) (it:Addr) (tn:Nat->Heap->Prop):Prop where
 mem:it∈fp
 obj:∀i h,tn i h->∀b∈fp,∃o,h.get? b=some o/\∀v,o.data≠.cell v
 keep:∀i h h',tn i h->(∀b∈fp,∀o,h.get? b=some o->h'.get? b=some o)->tn i h'
 item:∀(X:Cx),X.prog=P->X.w=w->X.K=K->X.calm=true->∀(i:Nat) (ae:List (Addr×Obj)) (s:Shared) (σ:St) (H:Hp) (E:Value->Shared->Prop),Inv X ae σ H s->(∀b∈fp,wt X ae H b)->tn i s.heap->J.go i H ->
  wpAny (model P w) X.A (pyNext (.ref it)) (λr s1=>∃u,r=some u /\
   wpAny (model P w) X.A (letOwnedTupleGo tg (.ref it) u) (λ_ s2=>∃x H',Inv X ae σ H' s2/\RelV x u/\J.yld i H x H'/\tn (i+1) s2.heap/\∀b∈fp,H' b=none) E s1) E s
 done:∀(X:Cx),X.prog=P->X.w=w->X.K=K->X.calm=true->∀(i:Nat) (ae:List (Addr×Obj)) (s:Shared) (σ:St) (H:Hp) (E:Value->Shared->Prop),Inv X ae σ H s->(∀b∈fp,wt X ae H b)->tn i s.heap->J.stop i H ->
  wpAny (model P w) X.A (pyNext (.ref it)) (λr s1=>r=none/\Inv X ae σ H s1) E s
 self:∀(A:Around) (i:Nat) (s:Shared) (Q:Value->Shared->Prop) (E:Value->Shared->Prop),tn i s.heap->Q (.ref it) s->wpAny (model P w) A (pyIter (.ref it)) Q E s
abbrev TI:=St->Hp->(It->Hp->Prop)->Prop
def PIE(X:Cx)(d:List (Addr×Obj))(g:St)(h:Expr)(R:It->Hp->Prop)(a:Value)(s2:Shared):Prop :=
 ∃(it:Addr) (e:List Addr) (f:Nat->Heap->Prop) (J:It) (c:Hp),a=.ref it/\Inv X d g c s2/\Turn X.prog X.w X.K h J e it f/\f 0 s2.heap/\(∀b∈e,wt X d c b)/\R J c
def PI(X:Cx)(c a:Expr)(d:TI):Prop :=
 ∀(b:List (Addr×Obj)) (s:Shared) (σ:St) (H:Hp) (R:It->Hp->Prop),Inv X b σ H s->d σ H R ->
  wpAny (model X.prog X.w) X.A (eval a X.env) (λv e=>wpAny (model X.prog X.w) X.A (pyIter v) (PIE X b σ c R) X.xe e) X.xe s
def yO(ho:s.heap.get? it=some o)(hc:o.cls=.type n)(hd:o.data=.fields vs)
  (c:["enumerate","zip","dict_itemiterator","dict_reverseitemiterator","odict_iterator","itertools.zip_longest","itertools.pairwise"].contains n=false) (a:Q () s):wpAny M A (letOwnedTupleGo b (.ref it) u) Q E s:=by
 unfold letOwnedTupleGo;cases b<;>first
  | exact au a
  | (cases u<;>first
    | exact au a
    | (refine af (wpAny_load ho ?_)
       rw[hc,hd];show wpAny M A (if(["enumerate","zip","dict_itemiterator","dict_reverseitemiterator","odict_iterator","itertools.zip_longest","itertools.pairwise"].contains n&&vs[0]?==some (rawInt _))=true then _ else _) Q E s
       rw[if_neg (by grind)]
       exact au a))
def Itl(K:W.Frag)(a:Addr):It :=
 ⟨λi H=>∃b x,wq K H a b/\b[i]?=some x,λi H x c=>c=H/\∀b,wq K H a b->b[i]?=some x,λi H=>∃b,wq K H a b/\b.length<=i⟩
def Itt(K:W.Frag)(a:Addr):It :=
 ⟨λi H=>∃b x,gT K H a b/\b[i]?=some x,λi H x c=>c=H/\∀b,gT K H a b->b[i]?=some x,λi H=>∃b,gT K H a b/\b.length<=i⟩
def XI(lo:Int)(n:Nat):It:=⟨λi _=>i<n,λi H x a=>a=H/\x=.int (lo+i),λi _=>n<=i⟩
def F6{P:Program}{w:World}{K:W.Frag}{Q:Expr}(a it:Addr):Turn P w K Q (Itl K a) [it] it (λi h=>h.IsListIter it a i) where
 mem:=by simp
 obj:=λi h f b g=>by
  have e:b=it:=by grind
  subst e;obtain⟨o,e,c,d⟩:=f;exact⟨o,e,λv z=>by grind⟩
 keep:=λi h M f k=>f.at λo e=>k it (by simp) o e
 item:=by
  intro X m hw q hc i R s T H E I j f r;subst m hw q;obtain⟨Y,x,l,t⟩:=r;obtain⟨Z,y,p,hz⟩:=I.list l;obtain⟨u,hu,ru⟩:=y.get t;obtain⟨B,C,f2,D,J,L⟩:=j it (by simp)
  refine wpAny_pyNext_list_item f p.isList (by simpa using hu) λM N sb=>?_
  have I1:=I.turned (t':=s.toks) (λb o g e=>(sb.2 b g).trans e) B C D J L
  obtain⟨o,e,c,d⟩:=id N;exact⟨u,rfl,yO e c d (by decide) ⟨x,H,I1,ru,⟨rfl,λys hy=>by rw[I.lW hy l];exact t⟩,N,λb g=>(j b g).1⟩⟩
 done:=by
  intro X m hw q hc i R s T H E I j f r;subst m hw q;obtain⟨Y,l,t⟩:=r;obtain⟨Z,y,p,hz⟩:=I.list l;obtain⟨B,C,f2,D,J,L⟩:=j it (by simp)
  have hl:=y.length;exact wpAny_pyNext_list_end (I.ok.hd hc) f p.isList (by simp;lia) λM eb=>⟨rfl,I.turned (λb o g e=>eb b o g e) B C D J L⟩
 self:=λ_ _ _ _ _ f h=>wpAny_pyIter_listiter f h
def B7{P:Program}{w:World}{K:W.Frag}{Q:Expr}(a it:Addr):Turn P w K Q (Itt K a) [it] it (λi h=>h.IsTupleIter it a i) where
 mem:=by simp
 obj:=λi h f b g=>by
  have e:b=it:=by grind
  subst e;obtain⟨o,e,c,d⟩:=f;exact⟨o,e,λv z=>by grind⟩
 keep:=λi h M f k=>f.at λo e=>k it (by simp) o e
 item:=by
  intro X m hw q hc i R s T H E I j f r;subst m hw q;obtain⟨Y,x,l,t⟩:=r;obtain⟨Z,y,p,hz⟩:=I.tuple l;obtain⟨u,hu,ru⟩:=y.get t;obtain⟨B,C,f2,D,J,L⟩:=j it (by simp)
  refine wpAny_pyNext_tuple_item f (p) (by simpa using hu) λM N sb=>?_
  have I1:=I.turned (t':=s.toks) (λb o g e=>(sb.2 b g).trans e) B C D J L
  obtain⟨o,e,c,d⟩:=id N;exact⟨u,rfl,yO e c d (by decide) ⟨x,H,I1,ru,⟨rfl,λys hy=>by rw[I.kj hy l];exact t⟩,N,λb g=>(j b g).1⟩⟩
 done:=by
  intro X m hw q hc i R s T H E I j f r;subst m hw q;obtain⟨Y,l,t⟩:=r;obtain⟨Z,y,p,hz⟩:=I.tuple l;obtain⟨B,C,f2,D,J,L⟩:=j it (by simp)
  have hl:=y.length;exact wpAny_pyNext_tuple_end (I.ok.hd hc) f (p) (by simp;lia) λM eb=>⟨rfl,I.turned (λb o g e=>eb b o g e) B C D J L⟩
 self:=λ_ _ _ _ _ f h=>wpAny_pyIter_tupleiter f h
def B8{P:Program}{w:World}{K:W.Frag}{C:Expr}(it:Addr)(lo:Int)(n:Nat):Turn P w K C (XI lo n) [it] it (λi h=>IsRangeIter h it (lo+(i:Nat)*1) ((n:Int)-(i:Nat)) 1) where
 mem:=by simp
 obj:=λi h a b c=>by
  grind
 keep:=λi h f a k=>k it (by simp) _ a
 item:=by
  intro X g hw j hc i x s y H E I d a l;subst g hw j;obtain⟨m,p,D,q,r,u⟩:=d it (by simp)
  have W:=Walks.range (prog:=X.prog) (w:=X.w) (I.ok.hd hc) it lo 1 n;refine W.item i s _ _ l a λv f J L B kk=>?_
  obtain⟨t,rfl⟩:=L;have M:Inv X x y H {s with heap:=f,toks:=J}:=I.turned (λb o c e=>kk b o (by grind) e) m p q r u
  refine⟨_,rfl,yO B rfl rfl (by decide) ⟨.int (lo+i),H,M,⟨t,?_⟩,⟨rfl,rfl⟩,B,λb c=>(d b c).1⟩⟩
  rw[Int.mul_one]
 done:=by
  intro X g hw j hc i x s y H E I d a l;subst g hw j;obtain⟨m,p,D,q,r,u⟩:=d it (by simp)
  exact wpAny_pyNext_range_end (I.ok.hd hc) a (by have:n<=i:=l;lia) λf N=>⟨rfl,I.turned (λb o c e=>N b o c e) m p q r u⟩
 self:=λ_ _ _ _ _ a h=>Bv a h
section
variable {X:Cx} {tg:Expr}
def XJ(K:W.Frag)(c:TE):TI:=λd H R=>c d H λx b=>∃a,x=.ref a/\(∃e,wq K b a e)/\R (Itl K a) b
def acp(K:W.Frag)(c:TE):TI:=λd H R=>c d H λx b=>∃a,x=.ref a/\(∃e,gT K b a e)/\R (Itt K a) b
def D3{l:Expr}{d:TE}(f:PE X l d):PI X tg l (XJ X.K d):=by
 intro g s i H R I h;refine thn (f g s i H _ I h) λv s1 ⟨x,H1,c,j,k⟩=>?_
 obtain⟨a,e,⟨r,m⟩,q⟩:=k;subst e;cases j;obtain⟨t,u,p,w⟩:=c.list m;refine wpAny_pyIter_list p.isList ?_;refine⟨s1.heap.objs.size,[s1.heap.objs.size],_,_,H1,rfl,c.kept λb o e=>bg _ e,F6 a _,⟨_,cO _ rfl,rfl,rfl⟩,λb y=>?_,q⟩
 have e:b=s1.heap.objs.size:=by grind
 subst e;exact c.B6 (aA _) (c.hok.fresh (aA _))
def Ja{l:Expr}{d:TE}(f:PE X l d):PI X tg l (acp X.K d):=by
 intro g s i H R I h;refine thn (f g s i H _ I h) λv s1 ⟨x,H1,c,j,k⟩=>?_
 obtain⟨a,e,⟨r,m⟩,q⟩:=k;subst e;cases j;obtain⟨t,u,p,w⟩:=c.tuple m;refine BL (p) ?_;refine⟨s1.heap.objs.size,[s1.heap.objs.size],_,_,H1,rfl,c.kept λb o e=>bg _ e,B7 a _,⟨_,cO _ rfl,rfl,rfl⟩,λb y=>?_,q⟩
 have e:b=s1.heap.objs.size:=by grind
 subst e;exact c.B6 (aA _) (c.hok.fresh (aA _))
def yP{c:List (Addr×Obj)}{d:St}{H:Hp}{s:Shared}{R:It->Hp->Prop}{E:Value->Shared->Prop}{lo a:Int}{t u v:Tok}{tk:Nat}(I:Inv X c d H s)(h1:-(2^62)<=lo)(h2:lo<2^62)(g:-(2^62)<=a)(h:a<2^62)
  (q:R (XI lo (a-lo).toNat) H):wpAny (model X.prog X.w) X.A (pyIter (.ref s.heap.objs.size)) (PIE X c d tg R) E {s with heap:=s.heap.push {cls:=.type "range",data:=.fields #[.int lo t,.int a u,.int 1 v]},toks:=tk}:=by
 refine wpAny_pyIter_range (v9 ..) (small_one h1 h2 g h) ?_;have f:Inv X c d H {s with heap:=s.heap.push {cls:=.type "range",data:=.fields #[.int lo t,.int a u,.int 1 v]},toks:=tk}:=I.kept λb o e=>bg _ e
 refine⟨(s.heap.push {cls:=.type "range",data:=.fields #[.int lo t,.int a u,.int 1 v]}).objs.size,[(s.heap.push {cls:=.type "range",data:=.fields #[.int lo t,.int a u,.int 1 v]}).objs.size],_,_,H,rfl,
  f.kept λb o e=>bg _ e,B8 _ lo (a-lo).toNat,?_,λb j=>?_,q⟩
 ·have e1:lo+(0:Nat)*1=lo:=by simp
  have i:(((a-lo).toNat:Nat):Int)-(0:Nat)=Builtin.Range.rangeSize lo a 1:=by rw[rangeSize_one];split<;>lia
  rw[e1,i];exact cO _ rfl
 ·have e:b=(s.heap.push {cls:=.type "range",data:=.fields #[.int lo t,.int a u,.int 1 v]}).objs.size:=by grind
  subst e;exact f.B6 (aA _) (f.hok.fresh (aA _))
def XM(a:TA):TI:=λb H R=>a b H λc d=>∃j:Int,c=[.int j] /\ -(2^62)<=j/\j<2^62/\R (XI 0 j.toNat) d
def XO(a:TA):TI:=λb H R=>a b H λc d=>∃i j:Int,c=[.int i,.int j]/\(-(2^62)<=i/\i<2^62 /\ -(2^62)<=j/\j<2^62)/\R (XI i (j-i).toNat) d
def F7{a:Expr}{c:TA}{p pos:Pos}(d:Gl X "range")(f:X.mg "range"=none)(g:PA X [a] c)(i:starEach [a] X.env=[(false,eval a X.env)]:=by rfl):PI X tg (.Call (.Name "range" p) [a] [] pos) (XM c):=by
 intro k s l H R I h;refine Call_ (ld_blt I d f qD (ik (thn (g pos k s l H _ I h) λus s1 ⟨w,H1,m,o,b⟩=>?_) i rfl))
 obtain⟨j,e,b,u,q⟩:=b;subst e;cases o with
 | cons r v =>
  cases v;obtain⟨t,rfl⟩:=r;exact call_range_1 (yP m (by lia) (by lia) b u (by grind))
def F8{a b:Expr}{f:TA}{p pos:Pos}(g:Gl X "range")(k:X.mg "range"=none)(l:PA X [a,b] f)(D:starEach [a,b] X.env=[(false,eval a X.env),(false,eval b X.env)]:=by rfl)(m:starEach [b] X.env=[(false,eval b X.env)]:=by rfl) :
  PI X tg (.Call (.Name "range" p) [a,b] [] pos) (XO f):=by
 intro o s u H R I h;refine Call_ (ld_blt I g k qD (ik (thn (l pos o s u H _ I h) λus s1 ⟨E,H1,v,w,c⟩=>?_) (by grind) (by rw[m];rfl)))
 obtain⟨i,j,e,⟨c,x,y,B⟩,q⟩:=c;subst e;cases w with
 | cons r d =>
  cases d with
  | cons C d =>
   cases d;obtain⟨t,rfl⟩:=r;obtain⟨J,rfl⟩:=C;exact call_range_2 (yP v c x y B q)
def acq(e:TI)(g:TG)(f:TS):TS:=λD a H=>e a H λJ h=>∃W:Nat->Nat->St->Hp->Prop,(∃m,W 0 m a h)/\∀i m a H,W i m a H ->
 (J.stop i H/\D.nx a H)\/(J.go i H/\∃N:St->Hp->Prop,(∀c b,N c b->∃d,d<m/\W (i+1) d c b)/\∀x b,J.yld i H x b->g x a b λj k=>f {D with nx:=N,ct:=N,bk:=D.nx} j k)
def qN(a:List Addr)(h:Heap):List (Addr×Obj):=a.filterMap λb=>(h.get? b).map λo=>(b,o)
def jh(a:b∈c)(e:h.get? b=some o):(b,o)∈qN c h:=nv.mpr ⟨b,a,by rw[e];rfl⟩
def F9(hp:p∈qN a h):p.1∈a/\h.get? p.1=some p.2:=by
 obtain⟨b,c,e⟩:=nv.mp hp;cases q:h.get? b with
 | none=>rw[q]at e;cases e
 | some o =>
  rw[q]at e;have d:=cj e;subst d;exact⟨c,q⟩
def Inv.pinned{a:List (Addr×Obj)}{σ:St}{H:Hp}{s:Shared}{c:List Addr}(I:Inv X a σ H s)(h:∀b∈c,wt X a H b)(ho:∀b∈c,∃o,s.heap.get? b=some o/\∀v,o.data≠.cell v):Inv X (a++qN c s.heap) σ H s :=
 I.lV λp hp=>(aX.mp hp).elim (λz=>I.pin p (bW _ z)) λz=>by
  obtain⟨f,e⟩:=F9 z;obtain⟨j,k,l,_⟩:=h p.1 f;obtain⟨o,g,d⟩:=ho p.1 f;rw[e]at g;cases g;exact⟨e,j,k,l,d⟩
def Inv.qO{a pl:List (Addr×Obj)}{σ:St}{H:Hp}{s:Shared}(I:Inv X (a++pl) σ H s):Inv X a σ H s:=I.lV λp hp=>I.pin p (bW _ (dI _ hp))
def Jb(hp:PassesOwn (model X.prog X.w) X.A X.env X.xe)(hc:X.calm=true)(hi:PI X tg iter wi)(hg:PG X tg g)(a:PSs X body tb)
  (hs:∀x,foldedSetIterable iter X.env x=pure x:=by intro _;rfl):PS X (.For tg iter body [] pos) (acq wi g tb):=by
 intro q s σ H D I h;refine wpAny_For (thn (hi q s σ H _ I h) λv s1 h1=>thn h1 λitv s2 h2=>?_) hs
 obtain⟨it,t,tn,J,H2,e,I2,T,eX,f2,W,⟨m0,w0⟩,lH⟩:=h2;subst e;have M:∀{l:Hp},(∀b∈t,l b=none)->∀b∈t,wt X q l b:=λhn b a=>⟨hn b a,(f2 b a).2⟩
 refine codeAny_forLoop_any (λn s'=>∃i y l,Inv X q y l s'/\tn i s'.heap/\(∀b∈t,l b=none)/\W i n y l) ?_ m0 ⟨0,σ,H2,I2,eX,λb a=>(f2 b a).1,w0⟩
 rintro n s3 ⟨i,B,L,I3,Nw,C,w3⟩
 rcases lH i n B L w3 with⟨stop,qn⟩ | ⟨go,N,hN,step⟩
 ·refine lz hp (thn (T.done X rfl rfl rfl hc i q s3 B L X.xe I3 (M C) Nw stop) λr s4 ⟨Q,I4⟩=>?_)
  subst Q;exact vV ⟨B,L,I4,qn⟩
 ·refine lz hp (thn (T.item X rfl rfl rfl hc i q s3 B L X.xe I3 (M C) Nw go) λr s4 ⟨u,Q,h4⟩=>?_)
  subst Q;refine lz hp (thn h4 λ_ s5 z9=>?_)
  obtain⟨x,H5,I5,r5,y5,R,Y⟩:=z9;have Z:=I5.pinned (M Y) (T.obj _ _ R);refine lz hp (thn (hg _ s5 B H5 x u _ Z r5 (step x H5 y5)) λ_ s6 ⟨σ6,H6,I6,q6⟩=>?_)
  refine lz hp (thn (a _ s6 σ6 H6 _ I6 q6) λf s7 p=>?_)
  have again:∀{c:St} {j:Hp},Inv X (q++qN t s5.heap) c j s7->N c j->∃m,m<n/\∃i y l,Inv X q y l s7/\tn i s7.heap/\(∀b∈t,l b=none)/\W i m y l:=λ{c j} k E=>by
   obtain⟨m',hm,w7⟩:=hN c j E;refine⟨m',hm,i+1,c,j,k.qO,T.keep _ _ _ R λb a o e=>(k.pin (b,o) (bW _ (bW _ (jh a e)))).1,λb a=>?_,w7⟩
   obtain⟨o,e,d⟩:=T.obj _ _ R b a;exact(k.pin (b,o) (bW _ (bW _ (jh a e)))).2.1
  cases f with
  | next=>obtain⟨c,j,k,E⟩:=p;exact again k E
  | cont=>obtain⟨c,j,k,E⟩:=p;exact again k E
  | brk=>obtain⟨c,j,k,p⟩:=p;exact⟨c,j,k.qO,p⟩
  | ret v=>obtain⟨x7,c,j,k,r7,p⟩:=p;exact⟨x7,c,j,k.qO,r7,p⟩
end
abbrev R2:=V->V->Hp->VK->Prop
def OpR(X:Cx)(f:Value->Value->Sem Value)(r:R2):Prop :=
 ∀(a:List (Addr×Obj)) (s:Shared) (σ:St) (H:Hp) (x y:V) (v u:Value) (Q:VK),Inv X a σ H s->RelV x v->RelV y u->r x y H Q ->
  wpAny (model X.prog X.w) X.A (f v u) (EP X a σ Q) X.xe s
def UnR(X:Cx)(f:Value->Sem Value)(r:V->Hp->VK->Prop):Prop :=
 ∀(a:List (Addr×Obj)) (s:Shared) (σ:St) (H:Hp) (x:V) (v:Value) (Q:VK),Inv X a σ H s->RelV x v->r x H Q ->
  wpAny (model X.prog X.w) X.A (f v) (EP X a σ Q) X.xe s
def lX(X:Cx)(f:Value)(r:List V->Hp->VK->Prop):Prop :=
 ∀(a:List (Addr×Obj)) (s:Shared) (σ:St) (H:Hp) (xs:List V) (us:List Value) (Q:VK),Inv X a σ H s->Vals xs us->r xs H Q ->
  wpAny (model X.prog X.w) X.A (call f us) (EP X a σ Q) X.xe s
def acu(X:Cx)(r:V->Hp->(Bool->Hp->Prop)->Prop):Prop :=
 ∀(a:List (Addr×Obj)) (s:Shared) (σ:St) (H:Hp) (x:V) (v:Value) (Q:Bool->Hp->Prop),Inv X a σ H s->RelV x v->r x H Q ->
  wpAny (model X.prog X.w) X.A (truthy v) (TP X a σ Q) X.xe s
def WR(r:R2)(b c:TE):TE:=λa H Q=>b a H λx d=>c a d λy e=>r x y e Q
def tUn(r:V->Hp->VK->Prop)(a:TE):TE:=λb H Q=>a b H λx c=>r x c Q
def rI(C:Int->Int->Prop)(g:Int->Int->V):R2:=λx y H Q=>∃i j,x=.int i/\y=.int j/\C i j/\Q (g i j) H
def Nx(g:Int->Int->V):R2:=λx y H Q=>∃i j,x=.int i/\y=.int j/\Q (g i j) H
def rU(g:Int->V):V->Hp->VK->Prop:=λx H Q=>∃i,x=.int i/\Q (g i) H
section
variable {X:Cx} {a b c:Expr} {ta tb tc:TE} {pos:Pos}
def Ny(k:PE X a ta)(l:PE X b tb){i:List (Addr×Obj)}{s:Shared}{d:St}{H:Hp}{R:V->V->Hp->Prop}(I:Inv X i d H s)
  (h:ta d H λx j=>tb d j λy e=>R x y e) {Q:Value->Shared->Prop} {f:Value->Value->Sem Value}
  (m:∀v u s2 x y e,Inv X i d e s2->RelV x v->RelV y u->R x y e->wpAny (model X.prog X.w) X.A (f v u) Q X.xe s2) :
  wpAny (model X.prog X.w) X.A (eval a X.env) (λv g=>wpAny (model X.prog X.w) X.A (eval b X.env) (λu o=>wpAny (model X.prog X.w) X.A (f v u) Q X.xe o) X.xe g) X.xe s:=by
 refine thn (k i s d H _ I h) λv s1 ⟨x,j,p,q,r⟩=>?_
 refine thn (l i s1 d j _ p r) λu s2 ⟨y,e,t,B,C⟩=>?_
 exact m v u s2 x y e t q B C
def XQ(ho:OpR X (binaryOp op) r)(d:PE X a ta)(e:PE X b tb):PE X (.BinOp a op b pos) (WR r ta tb):=by
 intro f s g H Q I h;exact wpAny_BinOp (Ny d e I h λv u i x y j k l m q=>ho f i g j x y v u Q k l m q)
def XR{r:V->Hp->VK->Prop}(ho:UnR X (unaryOp op) r)(f:PE X a ta):PE X (.UnaryOp op a pos) (tUn r ta):=by
 intro d s e H Q I h;exact UnaryOp_ (thn (f d s e H _ I h) (by rintro v s1 ⟨x,H1,g,i,j⟩;exact ho d s1 e H1 x v Q g i j))
def opI{f:Value->Value->Sem Value}{C:Int->Int->Prop}{g:Int->Int->Int}
  (d:∀(i j:Int) (t u:Tok) (s:Shared) (Q:Value->Shared->Prop) (E:Value->Shared->Prop),C i j->Q (.int (g i j) s.toks) {s with toks:=s.toks+1}->wpAny (model X.prog X.w) X.A (f (.int i t) (.int j u)) Q E s) :
  OpR X f (rI C λi j=>.int (g i j)):=by
 intro m s o H x y v u Q I e k h;obtain⟨i,j,rfl,rfl,hc,q⟩:=h;obtain⟨t,rfl⟩:=e;obtain⟨l,rfl⟩:=k;exact d i j t l s _ _ hc ⟨.int (g i j),H,I.tok _,⟨_,rfl⟩,q⟩
def Tt{f:Value->Value->Sem Value}{g:Int->Int->Int}
  (d:∀(i j:Int) (t u:Tok) (s:Shared) (Q:Value->Shared->Prop) (E:Value->Shared->Prop),Q (.int (g i j) s.toks) {s with toks:=s.toks+1}->wpAny (model X.prog X.w) X.A (f (.int i t) (.int j u)) Q E s) :
  OpR X f (Nx λi j=>.int (g i j)):=by
 intro m s o H x y v u Q I e k h;obtain⟨i,j,rfl,rfl,q⟩:=h;obtain⟨t,rfl⟩:=e;obtain⟨l,rfl⟩:=k;exact d i j t l s _ _ ⟨.int (g i j),H,I.tok _,⟨_,rfl⟩,q⟩
def Tu{f:Value->Value->Sem Value}{g:Int->Int->Bool}
  (d:∀(i j:Int) (t u:Tok) (s:Shared) (Q:Value->Shared->Prop) (E:Value->Shared->Prop),Q (.bool (g i j)) s->wpAny (model X.prog X.w) X.A (f (.int i t) (.int j u)) Q E s) :
  OpR X f (Nx λi j=>.bl (g i j)):=by
 intro m s o H x y v u Q I e k h;obtain⟨i,j,rfl,rfl,q⟩:=h;obtain⟨t,rfl⟩:=e;obtain⟨l,rfl⟩:=k;exact d i j t l s _ _ ⟨.bl (g i j),H,I,rfl,q⟩
def acv(i j:Int):Prop:=0<j/\j<1073741824
def acw(i j:Int):Prop:=0<=j/\j<=1000000/\i.natAbs<2^64
def Tv(i j:Int):Prop:=(-(2^64)<i/\i<2^64)\/(-(2^64)<j/\j<2^64)
def Tv.ok(h:Tv i j):IntMulOk i j:=by
 rcases h with⟨d,e⟩ | ⟨d,e⟩
 ·exact .of_left (intBits_le_64 d e)
 ·exact .of_right (intBits_le_64 d e)
def Tw:OpR X (binaryOp .Add) (Nx λi j=>.int (i+j)):=Tt λ_ _ _ _ _ _ _ q=>add_int q
def Tz:OpR X (binaryOp .Sub) (Nx λi j=>.int (i-j)):=Tt λ_ _ _ _ _ _ _ q=>sub_int q
def TC:OpR X (binaryOp .Mult) (rI Tv λi j=>.int (i*j)):=opI λ_ _ _ _ _ _ _ hc q=>mul_int q hc.ok
def Nz:OpR X (binaryOp .FloorDiv) (rI acv λi j=>.int (i/j)):=opI λi j _ _ _ _ _ hc q=>by
 have d:=hc.1;have e:=hc.2;exact floordiv_int (by lia) (by rw[Int.fdiv_eq_ediv_of_nonneg i (by lia)];exact q) (.inl (PyProof.noPylong_small (by lia)))
def TF:OpR X (binaryOp .Mod) (rI (λ_ j=>0<j) λi j=>.int (i%j)):=opI λi j _ _ _ _ _ hc q=>by
 have d:=hc;exact mod_int' (by lia) (by rw[Int.fmod_eq_emod_of_nonneg i (by lia)];exact q)
def TJ:OpR X (binaryOp .Pow) (rI acw λi j=>.int (i^j.toNat)):=opI λ_ _ _ _ _ _ _ hc q=>pow_int_small hc.1 hc.2.1 hc.2.2 q
def NA:OpR X (inplaceOp .Add) (Nx λi j=>.int (i+j)):=Tt λ_ _ _ _ _ _ _ q=>iadd_int q
def unI{f:Value->Sem Value}{g:Int->Int}
  (d:∀(i:Int) (t:Tok) (s:Shared) (Q:Value->Shared->Prop) (E:Value->Shared->Prop),Q (.int (g i) s.toks) {s with toks:=s.toks+1}->wpAny (model X.prog X.w) X.A (f (.int i t)) Q E s) :
  UnR X f (rU λi=>.int (g i)):=by
 intro j s k H x v Q I e h;obtain⟨i,rfl,q⟩:=h;obtain⟨t,rfl⟩:=e;exact d i t s _ _ ⟨.int (g i),H,I.tok _,⟨_,rfl⟩,q⟩
def TK:UnR X (unaryOp .USub) (rU λi=>.int (-i)):=unI λ_ _ _ _ _ q=>neg_int q
end
section
variable {X:Cx} {a b c:Expr} {ta tb tc:TE} {pos:Pos}
def Jd{d:List (Addr×Obj)}{f:St}{H:Hp}{s:Shared}{Q:VK}{k k':Bool}(I:Inv X d f H s)(q:Q (.bl k) H)(e:k=k'):EP X d f Q (.bool k') s:=by
 subst e;exact⟨.bl k,H,I,rfl,q⟩
def XS:OpR X (compareOp .Lt) (Nx λi j=>.bl (decide (i<j))):=Tu λ_ _ _ _ _ _ _ q=>lt_int q
def XT:OpR X (compareOp .LtE) (Nx λi j=>.bl (decide (i<=j))):=Tu λ_ _ _ _ _ _ _ q=>le_int q
def XU:OpR X (compareOp .GtE) (Nx λi j=>.bl (decide (j<=i))):=Tu λ_ _ _ _ _ _ _ q=>ge_int q
def TL:OpR X (compareOp .Is) (λx y H Q=>y=.bj/\Q (.bl (decide (x=.bj))) H):=by
 intro f s g H x y v u Q I d e h;obtain⟨rfl,q⟩:=h;cases e;refine is_none_gen (Jd I q ?_);cases x<;>first
  | (cases d;rfl)
  | (obtain⟨t,rfl⟩:=d;rfl)
def NB:OpR X (compareOp .IsNot) (λx y H Q=>y=.bj/\Q (.bl (!decide (x=.bj))) H):=by
 intro f s g H x y v u Q I d e h;obtain⟨rfl,q⟩:=h;cases e;refine isnot_none_gen (Jd I q ?_);cases x<;>first
  | (cases d;rfl)
  | (obtain⟨t,rfl⟩:=d;rfl)
def NC(ho:OpR X (compareOp op) r)(d:PE X a ta)(e:PE X b tb)(f:behindInMarks op b=false):PE X (.Compare a [op] [b] pos) (WR r ta tb):=by
 intro g s i H Q I h;exact wpAny_Compare1 (Ny d e I h λv u j x y k l m o q=>ho g j i k x y v u Q l m o q) f
def QW(t:TE):TT:=λd H Q=>t d H λx e=>∃k,x=.bl k/\Q k e
def ND(ho:OpR X (compareOp op) r)(g:PE X a ta)(i:PE X b tb)(j:behindInMarks op b=false):PT X (.Compare a [op] [b] pos) (QW (WR r ta tb)):=by
 intro d s f H Q I h;refine wpAny_isTrue_Compare1 (thn (g d s f H _ I h) λv s1 ⟨x,H1,l,m,o⟩=>thn (i d s1 f H1 _ l o) λu s2 ⟨y,p,q,t,w⟩ =>
  thn (ho d s2 f p x y v u _ q m t w) λc s3 ⟨z,B,C,D,k,e,E⟩=>?_) j
 subst e;cases D;exact lx ⟨B,C,E⟩
def Cc(r f:R2)(ta tb tc:TE):TE:=λd H Q=>ta d H λx g=>tb d g λy h=>r x y h λz e=>∃k,z=.bl k /\
 (if k=true then tc d e λi j=>f y i j Q else Q (.bl false) e)
def Je(ho:OpR X (compareOp op) r)(p:OpR X (compareOp i) q)(t:PE X a ta)(w:PE X b tb)(hc:PE X c tc)
  (B:lastMarks [op,i] [b,c]=false:=by with_unfolding_all rfl):PE X (.Compare a [op,i] [b,c] pos) (Cc r q ta tb tc):=by
 intro f s g H Q I h;refine Compare_chain (thn (t f s g H _ I h) λv s1 ⟨x,H1,C,D,E⟩=>chain_link (thn (w f s1 g H1 _ C E) λu s2 ⟨y,J,L,j,M⟩ =>
  thn (ho f s2 g J x y v u _ L D j M) λd s3 ⟨z,l,m,N,k,e,o⟩=>?_)) B
 subst e;cases N;refine lx ?_;cases k with
 | false=>exact ite_ff ⟨.bl false,l,m,rfl,o⟩
 | true=>exact ite_tt (chain_last (thn (hc f s3 g l _ m o) (by rintro R s4 ⟨T,Y,Z,r4,q4⟩;exact p f s4 g Y y T u R Q Z j r4 q4)))
def Jf(ho:OpR X (compareOp op) r)(p:OpR X (compareOp i) q)(t:PE X a ta)(w:PE X b tb)(hc:PE X c tc)
  (B:lastMarks [op,i] [b,c]=false:=by with_unfolding_all rfl):PT X (.Compare a [op,i] [b,c] pos) (QW (Cc r q ta tb tc)):=by
 intro f s g H Q I h;refine isTrue_chain (thn (t f s g H _ I h) λv s1 ⟨x,H1,C,D,E⟩=>test_link (thn (w f s1 g H1 _ C E) λu s2 ⟨y,J,L,j,M⟩ =>
  thn (ho f s2 g J x y v u _ L D j M) λd s3 ⟨z,l,m,N,k,e,o⟩=>?_)) B
 subst e;cases N;refine lx ?_;cases k with
 | false =>
  obtain⟨k',R,T⟩:=o;cases R;exact ite_ff ⟨l,m,T⟩
 | true =>
  refine ite_tt (test_last (thn (hc f s3 g l _ m o) λY s4 ⟨Z,H4,I4,r4,q4⟩=>thn (p f s4 g H4 y Z u Y _ I4 j r4 q4) λd' s5 z9=>?_))
  obtain⟨z2,H5,I5,r5,k2,e2,q5⟩:=z9;subst e2;cases r5;exact lx ⟨H5,I5,q5⟩
def NF(K:W.Frag)(x:V)(H:Hp)(k:Bool):Prop :=
 match x with
 | .bj=>k=false
 | .bl b=>k=b
 | .int i=>k=(i != 0)
 | .str y=>y.length<=sizeLine/\k=((y.length:Int) != 0)
 | .WM y=>y.size<=sizeLine/\k=((y.size:Int) != 0)
 | .ref p=>(∃d,wq K H p d/\k = !d.isEmpty)\/(∃d,gT K H p d/\k = !d.isEmpty)\/∃e,H p=some (.dK e)/\k = !e.isEmpty
 | _=>False
def Cd{d:Type}{kvs:List (d×V)}{vs:List (d×Value)}(r:KV kvs vs):(!vs.isEmpty) = !kvs.isEmpty:=by
 cases r<;>rfl
def qP(r:Vals xs d):(!d.toArray.isEmpty) = !xs.isEmpty:=by
 cases r<;>simp
def lI:(sizeLine:Nat)<2^63:=by rw[lD];decide
def Jg:acu X (λx H Q=>∃k,NF X.K x H k/\Q k H):=by
 intro D s E H x v Q I f h;obtain⟨k,e,q⟩:=h;have J:=lI;have L:=lD;cases x with
 | bj =>
  cases f;have d:=e;subst d;exact truthy_none ⟨H,I,q⟩
 | bl b =>
  cases f;have d:=e;subst d;exact lx ⟨H,I,q⟩
 | int i =>
  obtain⟨t,rfl⟩:=f;have d:=e;subst d;exact PySem.P.truthy_int ⟨H,I,q⟩
 | str y =>
  obtain⟨t,rfl⟩:=f;obtain⟨B,d⟩:y.length<=sizeLine/\k=((y.length:Int) != 0):=e;subst d;exact PySem.P.truthy_str (by lia) ⟨H,I.tok _,q⟩
 | WM y =>
  obtain⟨t,rfl⟩:=f;obtain⟨B,d⟩:y.size<=sizeLine/\k=((y.size:Int) != 0):=e;subst d;exact W.truthy_bytes (by lia) ⟨H,I.tok _,q⟩
 | ref p =>
  cases f;have d:=e;rcases d with⟨xs,g,d⟩ | ⟨xs,g,d⟩ | ⟨j,g,d⟩
  ·subst d;obtain⟨C,r,pl,o⟩:=I.list g;have u:=r.length;exact wpAny_truthy_list pl.isList (by grind) ⟨H,I.tok _,by rw[qP r];exact q⟩
  ·subst d;obtain⟨C,r,pl,o⟩:=I.tuple g;have u:=r.length;exact truthy_tuple pl (by grind) ⟨H,I.tok _,by rw[qP r];exact q⟩
  ·subst d;obtain⟨o,hS,l,r,m⟩:j.length<=sizeLine/\(p==sysModules)=false/\∃l,KV j l/\s.heap.DictOf (b9 X.prog X.w) p l:=I.hok p _ g
   have u:=nC r;exact wpAny_truthy_dict hS m (by lia) ⟨H,I.tok _,by rw[Cd r];exact q⟩
 | _=>exact(e).elim
def Jh(g:PE X a ta)(he:∀e,isTrue a X.env e=(do let v <-e;standAt a.pos;holding [v] (truthy v))) :
  PT X a (λd H Q=>ta d H λx H'=>∃k,NF X.K x H' k/\Q k H'):=by
 intro f s d H Q I h;exact isTrue_plain (thn (g f s d H _ I h) (by rintro v s1 ⟨x,H1,i,j,l⟩;exact Jg f s1 d H1 x v Q i j l)) (he _)
def Cf:OpR X (binaryOp .Add) (λx y H Q=>∃i j,x=.str i/\y=.str j/\i.length+j.length<=sizeLine/\Q (.str (i++j)) H):=by
 intro k s l H x y v u Q I d e h;obtain⟨i,j,rfl,rfl,f,q⟩:=h;obtain⟨t,rfl⟩:=d;obtain⟨g,rfl⟩:=e;exact add_str (λg m=>⟨.str (i++j),H,I.tok _,⟨_,rfl⟩,q⟩) f
def jx(r:Vals [x] us):∃u,us=[u]/\RelV x u:=by
 cases r with
 | cons d e=>cases e;exact⟨_,rfl,d⟩
def QX(r:Vals [x,y] us):∃u d,us=[u,d]/\RelV x u/\RelV y d:=by
 cases r with
 | cons e f =>
  cases f with
  | cons g h=>cases h;exact⟨_,_,rfl,e,g⟩
def uA:lX X (.type "int") (λxs H Q=>(∃i,xs=[.int i]/\Q (.int i) H)\/∃k,xs=[.bl k]/\Q (.int (if k then 1 else 0)) H):=by
 intro e s f H xs g Q I r h;rcases h with⟨i,rfl,q⟩ | ⟨k,rfl,q⟩
 ·obtain⟨u,rfl,t,rfl⟩:=jx r;exact call_int_int ⟨.int i,H,I,⟨_,rfl⟩,q⟩
 ·obtain⟨u,rfl,d⟩:=jx r;cases d;exact call_int_bool ⟨.int (if k then 1 else 0),H,I.tok _,⟨_,rfl⟩,q⟩
def wu:lX X (.type "str") (λxs H Q=>∃i,xs=[.int i]/\i.natAbs.log2<1920/\Q (.str (toString i)) H):=by
 intro e s f H xs g Q I r h;obtain⟨i,rfl,d,q⟩:=h;obtain⟨u,rfl,t,rfl⟩:=jx r;exact PySem.P.str_of_int d ⟨.str _,H,I.tok _,⟨_,rfl⟩,q⟩
end
structure Ga (h:Heap) (x dx C:Addr) (mA:Str->Option Value):Prop where
 obj:h.get? x=some (W.instObj C dx)
 ns:h.Ns1 dx mA
 ne:dx≠x
def Gb{h:Heap}{b:Str->Option Value}(n:h.Ns1 f b):∃c,h.get? f=some c/\∀name,W.lookIn name c=some (b name):=by
 obtain⟨o,d,l,ho,hd,hk,_,g⟩:=n;refine⟨o,ho,λname=>?_⟩
 have e:=g name;unfold nsFind findBy at e;rw[<-Array.find?_toList]at e;unfold W.lookIn;rw[hd];dsimp only
 split
 ·grind
 ·rename_i q;rw[q]at e;have a:d.toList.any (·.refKey)=false:=by
   rw[List.any_eq_false];intro y i;obtain⟨z,t,j⟩:=hk y (Array.mem_toList_iff.mp i);simp[DictEntry.refKey,j]
  have k:¬d.toList.any (·.refKey)=true:=by grind
  rw[if_neg k];exact cV some e
def Ga.NG(I:Ga h x b C c):∃a,W.InstAt h x (W.instObj C b) C (some a)/\∀name,W.lookIn name a=some (c name) :=
 let ⟨a,ho,d⟩:=Gb I.ns
 ⟨a,⟨I.obj,rfl,rfl,ho⟩,d⟩
section
variable {prog:Program} {w:World} {A:Around} {E:Value->Shared->Prop} {s:Shared} {K:W.Frag} {x dx C f:Addr} {mA:Str->Option Value} {name:Str} {v:Value}
def NH(X:K.In s.heap)(I:Ga s.heap x dx C mA)(a:W.plainGet K C name=true)(b:W.hasDictIn K C=true)
  (c:W.findIn K (.ref C) name=some none) (d:mA name=some v) (e:W.handedIn v=true) (h:Q v {s with toks:=s.toks+1}) :
  wpAny (model prog w) A (getAttr (.ref x) name expr) Q E s:=by
 obtain⟨i,J,g⟩:=I.NG;exact W.get_value X J (W.plainGet_of a).1 (W.findObj_own b c rfl (by rw[g,d])) e h
def NI(X:K.In s.heap)(I:Ga s.heap x dx C mA)
  (i:W.findIn K (.ref C) "__setattr__"=some (some (.builtin "object.__setattr__"))) (hp:W.plainOver K C=true) (ht:W.takerIn K C name=some none) (j:W.hasDictIn K C=true)
  (hw:PySem.Within mA ns) (hsz:ns.length<=sizeLine)
  (h:∀h',Ga h' x dx C (λy=>if y=name then some v else mA y)->Heap.SameBut dx s.heap h'->Q () {s with heap:=h',toks:=s.toks+2}) :
  wpAny (model prog w) A (setAttr (.ref x) name v) Q E s:=by
 obtain⟨p,J,q⟩:=I.NG;refine W.set_plain X J i (W.osa_open X J hp ht λb=>?_)
 obtain⟨r,hc,k⟩:=W.any_some j;have l:=I.obj;refine af (au (af (af (wpAny_loadPart l (af (W.Looks.here (W.looks_clsIn X hc) ?_))))));rw[k];refine au (af (au (af ?_)));refine wpAny_nsSet1 I.ns λh' a g=>?_
 obtain⟨t,m,o,c,d,e⟩:=a.count (PySem.Within.cons name v hw);refine af (wpAny_lookBehind c (by rw[d];exact pastItsLine_dict (bK e (by grind))) ?_)
 exact au (h _ ⟨(g.2 _ (dt I.ne)).trans I.obj,a,I.ne⟩ g)
def Ji(X:K.In s.heap)(b:W.makesIn K C=true)
  (c:W.findIn K (.ref C) "__init__"=some (some (.ref f))) (e:W.typeIn K (.ref f)=some (.type "function"))
  (h:codeAny (model prog w) (A.under (.builtin "type.__call__" ⟨.ref C::vs,kw⟩)) (.call (.ref f) ⟨.ref (s.heap.objs.size+1)::vs,kw⟩) (W.InitBack (s.heap.objs.size+1) R)
   {s with heap:=(s.heap.push W.emptyDict).push (W.instObj C s.heap.objs.size)}) :
  codeAny (model prog w) A (.call (.ref C) ⟨vs,kw⟩) R s:=by
 obtain⟨i,g,d,t,j⟩:=s;exact W.make_core (W.makes_of X b) (W.looks_findIn X c) (λa=>W.bind_fn X a e) (.inl rfl) h
end
noncomputable def iE(f:Str)(v:V):List (Str×V)->List (Str×V)
 | []=>[(f,v)]
 | (g,x)::r=>if g=f then(g,v)::r else(g,x)::iE f v r
theorem oF(f g:Str)(v:V):∀fs:List (Str×V),(iE f v fs).lookup g=if g=f then some v else fs.lookup g
 | []=>by
  show List.lookup g [(f,v)]=_;by_cases h:g=f
  ·grind
  ·grind
 | (k,x)::r=>by
  have ih:=oF f g v r;rw[show iE f v ((k,x)::r)=(if k=f then(k,v)::r else(k,x)::iE f v r)from rfl]
  by_cases hk:k=f
  ·grind
  ·grind
theorem nL(f:Str)(v:V):∀fs:List (Str×V),f∈(iE f v fs).map (·.1)/\∀g,g∈fs.map (·.1)->g∈(iE f v fs).map (·.1)
 | []=>⟨by simp[iE],λg h=>by simp at h⟩
 | (k,x)::r=>by
  obtain⟨a,b⟩:=nL f v r;rw[show iE f v ((k,x)::r)=(if k=f then(k,v)::r else(k,x)::iE f v r)from rfl]
  by_cases hk:k=f
  ·grind
  ·grind
theorem oG(f:Str)(v:V):∀fs:List (Str×V),(iE f v fs).length<=fs.length+1
 | []=>by simp[iE]
 | (k,x)::r=>by
  have ih:=oG f v r;rw[show iE f v ((k,x)::r)=(if k=f then(k,v)::r else(k,x)::iE f v r)from rfl]
  by_cases hk:k=f
  ·grind
  ·grind
def qJ.NJ(r:qJ (some v) o):∃u,o=some u/\RelV v u:=by
 cases o with
 | none=>exact(r).elim
 | some u=>exact⟨u,rfl,r⟩
def Gd(r:RelV v u):W.handedIn u=true:=by
 cases v with
 | bj=>cases(r);rfl
 | bl b=>cases(r);rfl
 | int i=>obtain⟨t,e⟩:=(r);cases e;rfl
 | str x=>obtain⟨t,e⟩:=(r);cases e;rfl
 | WM b=>obtain⟨t,e⟩:=(r);cases e;rfl
 | flt b=>obtain⟨t,e⟩:=(r);cases e;rfl
 | ref a=>cases(r);rfl
 | ty n=>cases(r);rfl
section
variable {P:Program} {w:World} {H H':Hp} {h h':Heap} {a C dx:Addr} {fs Xr:List (Str×V)}
def D4(c:lG P w H h)(e:H a=some (.oA C dx fs)):∃b,Ga h a dx C b/\(∀f,qJ (fs.lookup f) (b f))/\PySem.Within b (fs.map (·.1))/\fs.length<=1000/\H dx=some (.own a):=by
 obtain⟨d,z,ne,g,b,n,r,q⟩:=(c a _ e);exact⟨b,⟨g,n,ne⟩,r,q,z,d⟩
end
def FQ.get{K:W.Frag}{C:Addr}(c:FQ K C)(f:Str):W.plainGet K C f=true:=c.pg
def jd.XW{K:W.Frag}{C:Addr}{f:Str}(n:jd K C f):W.takerIn K C f=some none:=by
 unfold W.takerIn;rw[show W.findIn K (.ref C) f=some none from n]
 rfl
section
variable {X:Cx} {ae:List (Addr×Obj)} {σ:St} {H:Hp} {s:Shared} {a C dx:Addr} {fs:List (Str×V)} {f:Str} {v:V} {A:Around} {E:Value->Shared->Prop}
def Cg(I:Inv X ae σ H s)(e:H a=some (.oA C dx fs))(c:FQ X.K C)(n:jd X.K C f)(l:fs.lookup f=some v)
  (h:∀u d,Inv X ae σ H d->RelV v u->Q u d):wpAny (model X.prog X.w) A (getAttr (.ref a) f b) Q E s:=by
 obtain⟨j,O,r,_,_,_⟩:=D4 I.hok e;obtain⟨u,i,g⟩:=qJ.NJ (by rw[<-l];exact r f)
 exact NH I.qL O (c.get f) c.hd n i (Gd g) (h u _ (I.tok _) g)
def Ci(I:Inv X ae σ H s)(e:H a=some (.oA C dx fs))(c:FQ X.K C)(n:jd X.K C f)(J:fs.length<1000)(k:RelV y u)
  (h:∀i,Inv X ae σ (cx H a (.oA C dx (iE f y fs))) i->Q () i):wpAny (model X.prog X.w) A (setAttr (.ref a) f u) Q E s:=by
 obtain⟨l,O,r,j,_,ho⟩:=D4 I.hok e;have m:(fs.map (·.1)).length<=sizeLine:=by rw[aj,lD];lia
 refine NI I.qL O c.sa c.po n.XW c.hd j m λp d t=>h _ ?_
 have hd:∃o,p.get? dx=some o:=let ⟨o,_,_,x,_⟩:=d.ns;⟨o,x⟩
 refine I.write (by rw[e];exact True.intro) (.inr ho) (λb q B z=>(t.2 b B).trans z) hd ?_
 refine⟨by rw[aK O.ne];exact ho,?_,O.ne,d.obj,_,d.ns,λg=>?_,λg D=>?_⟩
 ·have:=oG f y fs;lia
 ·rw[oF];by_cases q:g=f
  ·rw[if_pos q,if_pos q];exact k
  ·rw[if_neg q,if_neg q];exact r g
 ·by_cases q:g=f
  ·rw[q];exact(nL f y fs).1
  ·refine(nL f y fs).2 g (j g λz=>D ?_)
   show(if g=f then some u else l g)=none
   rw[if_neg q];exact z
def Inv.made(I:Inv X ae σ H s):Inv X ae σ (cx (cx H s.heap.objs.size (.own (s.heap.objs.size+1))) (s.heap.objs.size+1) (.oA C s.heap.objs.size []))
  {s with heap:=(s.heap.push W.emptyDict).push (W.instObj C s.heap.objs.size)}:=by
 have e1:(s.heap.push W.emptyDict).get? s.heap.objs.size=some W.emptyDict:=cO s.heap rfl;have c:((s.heap.push W.emptyDict).push (W.instObj C s.heap.objs.size)).get? (s.heap.objs.size+1)=some (W.instObj C s.heap.objs.size):=by
  have:=cO (s.heap.push W.emptyDict) (o:=W.instObj C s.heap.objs.size) rfl
  rwa [Heap.size_push]at this
 have d:(s.heap.push W.emptyDict).Ns s.heap.objs.size (λ_=>none):=⟨W.emptyDict,#[],_,e1,rfl,(λe he=>absurd he (by simp)),λ_=>rfl⟩
 have g:=I.laid (o:=.own (s.heap.objs.size+1)) (t':=s.toks) (λb u q=>bg _ q) (aA _) ⟨_,e1⟩
 refine g.laid (t':=s.toks) (λb u q=>bg _ q) (jb (Heap.size_push _ _)) ?_
 have ne:s.heap.objs.size≠s.heap.objs.size+1:=by grind
 refine⟨by rw[aK ne,aE],fj _,ne,c,λ_=>none,(Heap.Ns1.of_empty d).at λo q=>bg _ q,λ_=>True.intro,λy h=>absurd rfl h⟩
def NK(c:attributeBase e f env (eval e env)=eval e env)
  (h:wpAny (model prog w) A (eval e env) (λo b=>wpAny (model prog w) A (getAttr o f true) Q E b) E s):wpAny (model prog w) A (eval (.Attribute e f pos) env) Q E s :=
 Attribute_any_ h (by rw[arm_eval_Attribute,c])
end
def acx(K:W.Frag)(c:TE)(f:Str):TE:=λd H Q=>c d H λx b=>∃a C e fs v,x=.ref a/\b a=some (.oA C e fs)/\FQ K C/\jd K C f/\fs.lookup f=some v/\Q v b
def acy(K:W.Frag)(e g:TE)(f:Str):TS:=λD b H=>g b H λy h=>e b h λx c=>∃a C d fs,x=.ref a/\c a=some (.oA C d fs)/\FQ K C/\jd K C f/\fs.length<1000 /\
 D.nx b (cx c a (.oA C d (iE f y fs)))
section
variable {X:Cx} {o e value:Expr} {f:Str} {pos tN TQ:Pos} {ta tv:TE}
def TR(he:PE X e ta)(b:attributeBase e f X.env (eval e X.env)=eval e X.env):PE X (.Attribute e f pos) (acx X.K ta f):=by
 intro d s g H Q I h;refine NK b (thn (he d s g H _ I h) λu w i=>?_)
 obtain⟨x,j,k,m,a,C,y,fs,v,ex,p,c,n,l,q⟩:=i;subst ex;obtain rfl:u=Value.ref a:=m;exact Cg k p c n l λB D r t=>⟨v,j,r,t,q⟩
def TU(g:PE X o ta)(i:PE X value tv)(j:swapsWith value (some (.Attribute o f tN)) pos.line X.env=pure false):PS X (.Assign [.Attribute o f tN] value pos) (acy X.K ta tv f):=by
 intro d s b H D I h;refine plainObj_wpAny_Assign_Attribute (thn (i d s b H _ I h) λu s1 ⟨y,H1,k,m,q⟩=>thn (g d s1 b H1 _ k q) λp J r=>?_) j
 obtain⟨x,L,t,v,a,C,M,fs,ex,w,c,n,l,B⟩:=r;subst ex;obtain rfl:p=Value.ref a:=v;exact Ci t w c n l m λN E=>⟨b,_,E,B⟩
end
structure dH (k:Nat) (A:Around):Prop where
 hd:A.handled=none
 dp:A.depth+3*k+5<recursionLimit
 un:A.units+16*k+1200<cLine
def dH.mono(r:dH k A)(h:j<=k):dH j A:=⟨r.hd,by have:=r.dp;lia,by have:=r.un;lia⟩
def dH.deeper(r:dH (k+1) A)(a:Env):dH k (A.deeper a) :=
 ⟨r.hd,by have:=r.dp;show A.depth+1+3*k+5<_;lia,by have:=r.un;show A.units+3+16*k+1200<_;lia⟩
def Cj{A:Around}:(A.under (.builtin "type.__call__" ⟨.ref C::us,kw⟩)).depth=A.depth+1:=by
 first | rfl | simp[Around.under,Code.weight,Code.isCreation,Code.isGuard,Code.isCaller,Code.frames,Code.isFrame,guardIds]
def Ck{A:Around}:(A.under (.builtin "type.__call__" ⟨.ref C::us,kw⟩)).units=A.units+1:=by
 first | rfl | simp[Around.under,Code.cUnits,Code.frames,Code.isFrame]
def dH.make(r:dH (k+1) A)(C:Addr)(a:List Value)(kw:List (Str×Value)):dH k (A.under (.builtin "type.__call__" ⟨.ref C::a,kw⟩)) :=
 ⟨r.hd,by have:=r.dp;rw[Cj];lia,by have:=r.un;rw[Ck];lia⟩
def dH.depth(r:dH k A):A.depth<recursionLimit:=by have:=r.dp;lia
def acz:TA:=λ_ H Q=>Q [] H
def XX(b:TE)(c:TA):TA:=λa H Q=>b a H λx d=>c a d λe f=>Q (x::e) f
section
variable {X:Cx} {e:Expr} {es:List Expr} {te:TE} {t:TA} {pos:Pos}
def qQ:PA X [] acz:=λ_ _ _ _ H Q I h=>Calls.spliced_nil ⟨[],H,I,.nil,h⟩
def ji(c:PE X e te)(d:PA X es t)(f:starEach (e::es) X.env=(false,eval e X.env)::starEach es X.env:=by rfl):PA X (e::es) (XX te t):=by
 intro pos a s b H Q I h;rw[f];refine Calls.spliced_cons (thn (c a s b H _ I h) λu s1 ⟨x,H1,g,i,j⟩=>?_)
 exact thn (d pos a s1 b H1 _ g j) (by rintro us s2 ⟨xs,k,l,m,o⟩;exact⟨x::xs,k,l,.cons i m,o⟩)
def acA(t:TA):TE:=λc H Q=>t c H λa b=>a.length<=sizeLine/\∀p,b p=none->Q (.ref p) (cx b p (.ao a))
def acB(t:TA):TE:=λc H Q=>t c H λa b=>a.length<=sizeLine/\∀p,b p=none->Q (.ref p) (cx b p (.lst a))
def TV{c}(h:PA X es t):PE X (.Tuple es c pos) (acA t):=by
 intro d s f H Q I g;refine wpAny_Tuple_spliced (thn (h pos d s f H _ I g) λus s1 ⟨xs,H1,a,r,z,q⟩=>⟨by rw[<-r.length];exact z,?_⟩)
 have i:=a.hok.fresh (aA _);refine⟨.ref s1.heap.objs.size,cx H1 s1.heap.objs.size (.ao xs),a.laid (λb u e=>bg _ e) (aA _) ?_,rfl,q _ i⟩
 exact⟨z,us,r,⟨_,cO _ rfl,rfl,_,rfl⟩⟩
def Jj(h:PA X es t):PE X (.List es pos) (acB t):=by
 intro c s d H Q I f;refine wpAny_List_spliced (thn (h pos c s d H _ I f) λus s1 ⟨xs,H1,a,r,z,q⟩=>⟨by rw[<-r.length];exact z,?_⟩)
 have g:=a.hok.fresh (aA _);refine⟨.ref s1.heap.objs.size,cx H1 s1.heap.objs.size (.lst xs),a.laid (λb u e=>bg _ e) (aA _) ?_,rfl,q _ g⟩
 exact⟨z,us,0,r,cO _ rfl⟩
end
abbrev Sp:=List V->Hp->VK->XK->Prop
abbrev HV:=List Env->Hp->Shared->XK->Value->Shared->Prop
structure Env0 (P:Program) (w:World) (K:W.Frag) (mg:Str->Option Value) (base:Heap) (A:Around) (ay:List Env) (s:Shared) (H:Hp):Prop where
 frames:A.frames=some ay
 mod:Mod K mg base
 bs:∀b o,base.get? b=some o->s.heap.get? b=some o/\H b=none
 bsz:base.objs.size<=s.heap.objs.size
 funs:s.heap.FunFrames base ay
 frf:∀b∈nK ay,H b=none
 hok:lG P w H s.heap
 bare:AllBare s.gens
 tabs:qK K H
def CE(c:List Env)(P:Program)(w:World)(H:Hp)(s:Shared)(Q:VK)(u:Value)(a:Shared):Prop :=
 ∃v b,a.os=s.os/\AllBare a.gens/\Un (nK c) [] H b s.heap a.heap/\lG P w b a.heap/\RelV v u/\Q v b
def CR(CX:HV)(a:List Env)(P:Program)(w:World)(H:Hp)(s:Shared)(Q:VK)(E:XK)(r:Result)(b:Shared):Prop :=
 match r with
 | .ok (.ret u)=>CE a P w H s Q u b
 | .ok _=>False
 | .error e=>CX a H s E e b
structure FnOk (P:Program) (w:World) (K:W.Frag) (mg:Str->Option Value) (base:Heap) (CX:HV) (k:Nat) (f:Addr) (fd:FuncData) (ps:List Str) (sp:Sp):Prop where
 len:∀vs H Q E,sp vs H Q E->vs.length=ps.length
 run:∀(A:Around) (ay:List Env) (s:Shared) (H:Hp) (args:Args) (us:List Value) (vs:List V) (Q:VK) (E:XK),dH k A->Env0 P w K mg base A ay s H->BindsTo s fd args (ps.zip us)->Vals vs us->sp vs H Q E ->
  codeAny (model P w) A (.call (.ref f) args) (CR CX ay P w H s Q E) s
def Env0.make{P:Program}{w:World}{K:W.Frag}{b:Str->Option Value}{a:Heap}{A:Around}{c:List Env}{s:Shared}{H:Hp}(e:Env0 P w K b a A c s H)(C:Addr)(d:List Value)(kw:List (Str×Value)) :
  Env0 P w K b a (A.under (.builtin "type.__call__" ⟨.ref C::d,kw⟩)) c s H:=⟨by first | exact e.frames | (simpa[Around.under,Code.envs,Code.isFrame,pushEnvs]using e.frames),e.mod,e.bs,e.bsz,e.funs,e.frf,e.hok,e.bare,e.tabs⟩
section
variable {X:Cx} {ae:List (Addr×Obj)} {σ:St} {H:Hp} {s s':Shared}
def Inv.NL(I:Inv X ae σ H s):Env0 X.prog X.w X.K X.mg X.base X.A X.stack s H :=
 ⟨I.ok.frames,I.ok.mod,I.bs,bK I.ok.bsz I.sz,I.stack,I.wm,I.hok,I.bare,I.tabs⟩
def Inv.after(I:Inv X ae σ H s)(h:CE X.stack X.prog X.w H s Q u s'):EP X ae σ Q u s':=by
 obtain⟨v,e,f,a,un,c,r,q⟩:=h;obtain⟨k,g,d,t,j⟩:=s';obtain rfl:j=s.os:=f;exact⟨v,e,I.call un c a (λb z=>absurd z (by simp)),r,q⟩
end
def QY(C:Addr)(sp:Sp)(c:List V)(E:XK)(t:TA):TE:=λd H Q=>t d H λe b=>∀x a,b x=none->b a=none->a≠x ->
 sp (.ref x::(e++c)) (cx (cx b a (.own x)) x (.oA C a [])) (λv f=>v=.bj/\Q (.ref x) f) E
def gp(K:W.Frag)(b:FuncData)(ps:List Str)(a:List Value):Prop :=
 ∀(s:Shared) (us:List Value),K.In s.heap->(us++a).length=ps.length->BindsTo s b ⟨us,[]⟩ (ps.zip (us++a))
def gp.all{K:W.Frag}{b:FuncData}{ps:List Str}(h:∀a:List Value,a.length=ps.length->bindArgs b ⟨a,[]⟩=pure (ps.zip a)):gp K b ps []:=λs a _ c=>by
 rw[dB]at c ⊢;exact .of_eq (h a c)
def Cm(CX:HV)(X:Cx)(E:XK):Prop:=∀(b:List (Addr×Obj)) (σ:St) (H:Hp) (s:Shared) (e:Value) (a:Shared),Inv X b σ H s->CX X.stack H s E e a->X.xe e a
section
variable {X:Cx} {CX:HV} {k:Nat} {f C:Addr} {fd:FuncData} {ps:List Str} {sp:Sp} {QP:List V} {ds:List Value} {E:XK} {x m:Str} {p pos qG:Pos} {e o:Expr} {es:List Expr} {ta:TE} {t:TA}
def Jk{g:List (Addr×Obj)}{i:St}{H:Hp}{s:Shared}{Q:VK}{a:List Value}{vs:List V}(M:Mk X.K C f)(F:FnOk X.prog X.w X.K X.mg X.base CX k f fd ps sp)(q:dH (k+1) X.A)(y:gp X.K fd ps ds)(hd:Vals QP ds)
  (B:Cm CX X E) (I:Inv X g i H s) (r:Vals vs a)
  (h:∀x c,H x=none->H c=none->c≠x->sp (.ref x::(vs++QP)) (cx (cx H c (.own x)) x (.oA C c [])) (λv D=>v=.bj/\Q (.ref x) D) E) :
  wpAny (model X.prog X.w) X.A (call (.ref C) a) (EP X g i Q) X.xe s:=by
 have j:=h (s.heap.objs.size+1) s.heap.objs.size (I.hok.fresh (Nat.le_succ _)) (I.hok.fresh (aA _)) (bH (qx _));have d:=Inv.made (C:=C) I;have l:Vals (V.ref (s.heap.objs.size+1)::(vs++QP)) (Value.ref (s.heap.objs.size+1)::(a++ds)):=.cons rfl (r.append hd);have J:(Value.ref (s.heap.objs.size+1)::a++ds).length=ps.length:=by
  have e:=l.length;rw[F.len _ _ _ _ j]at e;exact e.symm
 refine wpAny_call (Ji I.qL M.makes M.init (qE.mp M.fn) (nF (F.run _ X.stack _ _ ⟨Value.ref (s.heap.objs.size+1)::a,[]⟩ (Value.ref (s.heap.objs.size+1)::(a++ds)) _ _ E (q.make C a [])
  (d.NL.make C a []) (y _ (Value.ref (s.heap.objs.size+1)::a) d.qL J) l j) λr L b=>?_))
 cases r with
 | error e=>exact B g i _ _ e L d b
 | ok N =>
  cases N with
  | ret u =>
   obtain⟨v,R,T,Y,Z,q3⟩:=d.after b;subst Z;exact⟨Y,⟨V.ref (s.heap.objs.size+1),R,T,rfl,q3⟩⟩
  | next=>exact False.elim b
  | brk=>exact False.elim b
  | cont=>exact False.elim b
def NO(M:Mk X.K C f)(F:FnOk X.prog X.w X.K X.mg X.base CX k f fd ps sp)(b:dH (k+1) X.A)(c:Gl X x)(d:X.mg x=some (.ref C))(g:gp X.K fd ps ds)(hd:Vals QP ds)(i:Cm CX X E)
  (j:PA X (e::es) t) (l:(x==("__debug__":Str))=false:=by decide) (he:starEach (e::es) X.env=(false,eval e X.env)::starEach es X.env:=by rfl) (u:(backTo pos (starEach es X.env)).any (·.1)=false:=by rfl) :
  PE X (.Call (.Name x p) (e::es) [] pos) (QY C sp QP E t):=by
 intro v s y H Q I h;refine i8 (ld_glob I c d ?_ l);refine W.callWith_K I.ok.mod.kin M.kp (thn (j pos v s y H _ I h) λus s1 ⟨B,H1,a,r,q⟩=>⟨a.qL,?_⟩) he u
 exact Jk M F b g hd i a r q
end
theorem uB{a:Str->Option NameKind}:∀{b:List (Str×Value)} {m:Str->Option Value},(∀v,(x,v)∉b)->bindL a b m x=m x
 | [],_,_=>rfl
 | (n,v)::r,m,h=>by
  unfold bindL;rw[uB λw hw=>h w (aG _ hw)]
  split
  ·grind
  ·rfl
theorem uC{a:Str->Option NameKind}:∀{b:List (Str×Value)} {m:Str->Option Value},(∀v,(x,v)∉b)->bindC a b m x=m x
 | [],_,_=>rfl
 | (n,v)::r,m,h=>by
  unfold bindC;rw[uC λw hw=>h w (aG _ hw)]
  split
  ·rfl
  ·grind
theorem uD{a:Str->Option NameKind}:∀{P:List Str} {vs:List Value} {i:Nat} {m:Str->Option Value},P.Nodup->P[i]?=some x->vs[i]?=some v->a x=some .local ->
  bindL a (P.zip vs) m x=some v
 | [],_,_,_,_,h,_,_=>by simp at h
 | _::_,[],_,_,_,_,h,_=>by simp at h
 | p::P,w::vs,0,m,nd,b,c,hk=>by
  simp at b c;subst b;subst c;show bindL a ((p,w)::P.zip vs) m p=_;unfold bindL;rw[uB λv d=>(fL.mp nd).1 (vU d).1,if_pos hk]
  simp
 | p::P,w::vs,i+1,m,nd,b,c,hk=>by
  unfold bindL;exact uD (fL.mp nd).2 (by simpa using b) (by grind) hk
theorem uE{a:Str->Option NameKind}:∀{P:List Str} {vs:List Value} {i:Nat} {m:Str->Option Value},P.Nodup->P[i]?=some x->vs[i]?=some v->a x≠some .local ->
  bindC a (P.zip vs) m x=some v
 | [],_,_,_,_,h,_,_=>by simp at h
 | _::_,[],_,_,_,_,h,_=>by simp at h
 | p::P,w::vs,0,m,nd,b,c,hk=>by
  simp at b c;subst b;subst c;show bindC a ((p,w)::P.zip vs) m p=_;unfold bindC;rw[uC λv d=>(fL.mp nd).1 (vU d).1,if_neg hk]
  simp
 | p::P,w::vs,i+1,m,nd,b,c,hk=>by
  unfold bindC;exact uE (fL.mp nd).2 (by simpa using b) (by grind) hk
noncomputable def hJ(N:List Str)(vs:List V):St:=vs.map some++List.replicate (N.length-vs.length) none
noncomputable def eZ(CX:HV)(P:Program)(w:World)(K:W.Frag)(mg:Str->Option Value)(base:Heap)(N:List Str)(qual:Str)(a:Scope)(f:Addr)(cd:Value)(A:Around)(ay:List Env)(s:Shared)(H:Hp)(E:XK):Cx where
 prog:=P
 w:=w
 K:=K
 mg:=mg
 base:=base
 A:=A.deeper (envOfC qual a s.heap.objs.size f cd)
 N:=N
 s₀:=s
 aa:=H
 env:=envOfC qual a s.heap.objs.size f cd
 ay:=ay
 stack:=envOfC qual a s.heap.objs.size f cd::ay
 ex:=[]
 calm:=true
 fn:=λ_=>true
 pn:=[]
 xe:=λe c=>wpAny (model P w) (A.deeper (envOfC qual a s.heap.objs.size f cd)) (leaving (envOfC qual a s.heap.objs.size f cd) e) (λ_ b=>CX ay H s E e b) (λd b=>CX ay H s E d b) c
def yS{a:Scope}(h:a.names.lookup x=some .cell):∃c,(cellsFrom n a.names []).lookup x=some c:=by
 have q:=W.cellsFrom_some a.names n [] (.inl h);exact Option.isSome_iff_exists.mp q
def uF{CX:HV}{P:Program}{w:World}{K:W.Frag}{C:Str->Option Value}{g:Heap}{N ps:List Str}{qual:Str}{d:Scope}{f:Addr}{cd:Value}{A:Around}{D:List Env}{s s1:Shared}{H:Hp}{E:XK}{I:List Value}{vs:List V}
  (S:dD N ps d) (hd:A.handled=none) (j:Env0 P w K C g A D s H) (R:vs.length=ps.length) (r:Vals vs I)
  (x:InCallC s s.heap.objs.size (bindL (envOfC qual d s.heap.objs.size f cd).kindOf (ps.zip I) λ_=>none) (cellsFrom (s.heap.objs.size+1) d.names []) (bindC (envOfC qual d s.heap.objs.size f cd).kindOf (ps.zip I) λ_=>none) s1) :
  Inv (eZ CX P w K C g N qual d f cd A D s H E) [] (hJ N vs) H s1:=by
 have T:ps.length<=N.length:=by have:=cV List.length S.pre;rw[nz]at this;lia
 obtain⟨B,X,rfl,hk⟩:=x.done;have m:∀b:Addr,b∉(eZ CX P w K C g N qual d f cd A D s H E).ex:=λb z=>absurd (show b∈([]:List Addr)from z) (by simp)
 refine⟨⟨j.mod,S.kind,rfl,rfl,aA _,λy z c B l=>?_,λy o=>?_,λy c _ h=>?_,λ_=>hd,Around.frames_deeper j.frames,.inr ⟨rfl,rfl⟩,λb z=>absurd z (m b),j.bs,j.bsz,λb _ _=>m b,λb z=>absurd z (m b),j.funs,j.frf,j.tabs⟩,
  rfl,j.bare,Un.kept hk,⟨_,x.toInCall.ns,λi y v B l Y=>?_⟩,λy c h=>⟨_,x.cell y c h⟩,j.hok.fresh (aA _),λy c h=>?_,λp hp=>absurd (show p∈([]:List (Addr×Obj))from hp) (by simp),j.hok.kept hk,?_⟩
 ·exact name_of_addr x.apart (d8 B) (d8 l)
 ·have o:=o;rcases o with o | o
  ·exact yS o
  ·exact absurd rfl (S.nofree _ (d8 o))
 ·exact nG (x.above y c (d8 h))
 ·have J:i<vs.length:=by
   unfold hJ at l;by_cases J:i<vs.length
   ·exact J
   ·grind
  have M:vs[i]?=some v:=by
   unfold hJ at l;rw[cU (by grind),bG]at l
   cases e:vs[i]? with
   | none=>rw[e]at l;cases l
   | some a=>rw[e]at l;cases l;rfl
  obtain⟨u,L,Q⟩:=r.get M;have hp:ps[i]?=some y:=by
   rw[<-S.pre,List.getElem?_take_of_lt (by lia)];exact B
  have t:ps.Nodup:=by rw[<-S.pre];exact S.nd.sublist (List.take_sublist _ _)
  refine⟨u,Q,?_⟩;rcases S.par y (cZ hp)with k | k
  ·exact .inl ⟨k,uD t hp L k⟩
  ·obtain⟨c,e⟩:=yS k;refine .inr ⟨.inl k,c,e,?_⟩;have q:=x.cell y c e;rw[uE t hp L (by show d.names.lookup y≠_;rw[k];decide)]at q
   exact q
 ·exact j.hok.fresh (nG (x.above y c (d8 h)))
 ·unfold hJ;show _=N.length;rw[aZ,aj,Bw]
  lia
def Jl{CX:HV}{P:Program}{w:World}{K:W.Frag}{p:Str->Option Value}{c:Heap}{k:Nat}{f:Addr}{name qual:Str}{j:Arguments}{d:List Stmt}{a:Scope}{R kV l T g ct oc:Value}{X od:Option Addr}
  {yr:Array (Option Value)} {N ps:List Str} {sp:Sp} (lk:K.lookup f=some ⟨oc,od,.func (W.fnOf name qual j d a R kV l T X g ct),yr⟩) (DZ:W.codeIn K g qual=true) (S:dD N ps a)
  (len:∀vs H Q E,sp vs H Q E->vs.length=ps.length)
  (hbody:∀(A:Around) (h:List Env) (s:Shared) (H:Hp) (vs:List V) (Q:VK) (E:XK),dH k (A.deeper (envOfC qual a s.heap.objs.size f g))->sp vs H Q E ->
   ∃t,PSs (eZ CX P w K p c N qual a f g A h s H E) d t/\t {nx:=λ_ H'=>Q .bj H',rt:=Q} (hJ N vs) H) :
  FnOk P w K p c CX (k+1) f (W.fnOf name qual j d a R kV l T X g ct) ps sp:=by
 refine⟨len,λA h s H args us vs Q E C m hb r Y=>?_⟩
 have hl:=len _ _ _ _ Y;have Z:=m.mod.kin.keeps λb o e=>(m.bs b o e).1
 have D:=m.mod.nolimit.keeps λb o e=>(m.bs b o e).1
 have XZ:∀y∈ps.zip us,a.names.lookup y.1=some .local\/(a.names.lookup y.1=some .cell/\((cellsFrom (s.heap.objs.size+1) a.names []).lookup y.1).isSome=true):=by
  rintro⟨n,v⟩ hy
  rcases S.par n (vU hy).1 with q | q
  ·grind
  ·exact .inr ⟨q,W.cellsFrom_some _ _ _ (.inl q)⟩
 refine codeAny_call_function C.depth (Z _ _ lk) rfl S.co S.gen rfl (W.codeRec_of Z DZ) (hb _ _ _ _ ?_);refine Iu S.kind XZ λenv he s1 x=>?_
 subst he;refine⟨D.keeps x.toInCall.keep,codeAny_func ?_⟩;obtain⟨t,ht,hq⟩:=hbody A h s H vs Q E (C.deeper _) Y;have I:Inv (eZ CX P w K p c N qual a f g A h s H E) [] (hJ N vs) H s1:=uF S C.hd m hl r x;refine jc (ht [] s1 (hJ N vs) H _ I hq) (λfl L i=>?_) λe L i=>i
 have kX:∀{B:St} {H':Hp} {v:V} {u:Value},Inv (eZ CX P w K p c N qual a f g A h s H E) [] B H' L->RelV v u->Q v H'->CE h P w H s Q u L :=
  λ{B H' v u} J M q=>⟨v,H',J.os,J.bare,J.base,J.hok,M,q⟩
 cases fl with
 | ret u =>
  obtain⟨v,B,H',J,M,q⟩:=i;exact kX J M q
 | next =>
  obtain⟨B,H',J,q⟩:=i;exact kX (v:=V.bj) J rfl q
 | brk =>
  obtain⟨_,_,_,q⟩:=i;exact False.elim q
 | cont =>
  obtain⟨_,_,_,q⟩:=i;exact False.elim q
section
variable {X:Cx} {x:Str} {p pos:Pos} {e:Expr} {es:List Expr} {t:TA} {id T:String} {r:List V->Hp->VK->Prop}
def tCB(r:List V->Hp->VK->Prop)(t:TA):TE:=λa H Q=>t a H λb c=>r b c Q
def qR(hc:lX X (.builtin id) r)(c:Gl X x)(d:X.mg x=none)(f:bootBuiltins x=some (.builtin id))(g:PA X (e::es) t)(i:x≠"__name__":=by decide)(j:(x==("__debug__":Str))=false:=by decide)
  (he:starEach (e::es) X.env=(false,eval e X.env)::starEach es X.env:=by rfl) (k:(backTo pos (starEach es X.env)).any (·.1)=false:=by rfl):PE X (.Call (.Name x p) (e::es) [] pos) (tCB r t):=by
 intro a s b H Q I h;refine i8 (ld_blt I c d f ?_ i j);exact Ik (thn (g pos a s b H _ I h) (by rintro us s1 ⟨l,H1,m,o,q⟩;exact hc a s1 b H1 l us Q m o q)) he k
def nM(hc:lX X (.type T) r)(c:Gl X x)(d:X.mg x=none)(f:bootBuiltins x=some (.type T))(g:PA X (e::es) t)(i:x≠"__name__":=by decide)(j:(x==("__debug__":Str))=false:=by decide)
  (he:starEach (e::es) X.env=(false,eval e X.env)::starEach es X.env:=by rfl) (k:(backTo pos (starEach es X.env)).any (·.1)=false:=by rfl):PE X (.Call (.Name x p) (e::es) [] pos) (tCB r t):=by
 intro a s b H Q I h;refine i8 (ld_blt I c d f ?_ i j);exact ik (thn (g pos a s b H _ I h) (by rintro us s1 ⟨l,H1,m,o,q⟩;exact hc a s1 b H1 l us Q m o q)) he k
end
end L2
namespace HT
open PySem PyProof.Rows
section
variable {prog:Program} {w:World} {A:Around} {E:Value->Shared->Prop} {s:Shared}
def D5(ht:IsTup s.heap t vs.toArray)(k:IsTup s.heap b ws.toArray)(m:vs≠[])
  (h1:ws=[]->Q (.ref t) s) (h2:ws≠[]->Q (.ref s.heap.objs.size) {s with heap:=s.heap.push {cls:=.type "tuple",data:=.seq (vs++ws).toArray}})
  (hsz:vs.length+ws.length<=sizeLine):wpAny (model prog w) A (binaryOp .Add (.ref t) (.ref b)) Q E s:=by
 obtain⟨⟨cls,f,data,g⟩,ho,hc,n,hd⟩:=id ht;obtain⟨⟨l,c,o,d⟩,a,h,i,j⟩:=id k;simp only at hc hd h j;subst hc hd h j;have e:vs.toArray++ws.toArray=(vs++ws).toArray:=by simp
 by_cases hw:ws=[]
 ·exact concat_meets ⟨_,ho,rfl⟩ ⟨_,a,rfl⟩ BO seq_tuple_add Bt Br (Bp _ _)
   (tuple_addW1 t b vs.toArray ws.toArray n i f c g d (by grind) (by simp[hw])) ⟨ho,a,h1 hw⟩
 ·refine concat_meets ⟨_,ho,rfl⟩ ⟨_,a,rfl⟩ BO seq_tuple_add Bt Br (Bp _ _)
   (tuple_addW2 t b vs.toArray ws.toArray n i f c g d (by grind) (by grind) (by grind)) ⟨ho,a,?_⟩
  rw[e];exact h2 hw
noncomputable def eE(n d:Nat):Option Int->Nat
 | none=>d
 | some v=>if v<0 then(v+(n:Int)).toNat else min v.toNat n
def yT(n d:Nat):eE n d none=d:=rfl
def wx(n d k:Nat):eE n d (some (k:Int))=min k n:=by
 show(if(k:Int)<0 then((k:Int)+(n:Int)).toNat else min (k:Int).toNat n)=min k n
 rw[if_neg (by lia),gB]
def TX(n d:Nat)(hd:d<=n)(o:Option Int):eE n d o<=n:=by
 cases o with
 | none=>exact hd
 | some v =>
  show(if v<0 then(v+(n:Int)).toNat else min v.toNat n)<=n
  by_cases a:v<0
  ·grind
  ·grind
def D6(v:Int)(n d:Nat):(if v<0 then max (v+(n:Int)) 0 else min v (n:Int))=((eE n d (some v):Nat):Int):=by
 show(if v<0 then max (v+(n:Int)) 0 else min v (n:Int))=(((if v<0 then(v+(n:Int)).toNat else min v.toNat n):Nat):Int)
 by_cases a:v<0
 ·grind
 ·grind
def Cn(lo a:Option Int)(n:Nat):Builtin.Slice.sliceAdjust lo a 1 (n:Int)=(((eE n 0 lo:Nat):Int),((eE n n a:Nat):Int)):=by
 have b:¬(1<0):=by lia
 unfold Builtin.Slice.sliceAdjust;simp only[b,fq];refine Prod.ext ?_ ?_
 ·cases lo with
  | none=>rfl
  | some v=>exact D6 v n 0
 ·cases a with
  | none=>rfl
  | some v=>exact D6 v n n
def Co(i j:Nat):Builtin.Slice.slicePlaces (i:Int) (j:Int) 1=j-i:=by
 unfold Builtin.Slice.slicePlaces;have a:1>0:=by lia
 simp only[a,jQ,Int.ediv_one];split<;>lia
def qS(p:IsPart v o)(h:Q o s):wpAny (model prog w) A (Builtin.Slice.slicePartIndex v) Q E s:=by
 cases p with
 | none=>exact slicePart_none h
 | int i t=>exact slicePart_int h
def iG{d e:Value}{lo a:Option Int}{n:Nat}{Q:Int×Int×Nat->Shared->Prop}(f:s.heap.IsSliceOf g d e .none)(pl:IsPart d lo)(i:IsPart e a)
  (h:Q (((eE n 0 lo:Nat):Int),1,eE n n a-eE n 0 lo) s):wpAny (model prog w) A (Builtin.Slice.sliceApplied (.ref g) (pure (n:Int))) Q E s:=by
 obtain⟨j,b,k,c⟩:=id f;unfold Builtin.Slice.sliceApplied Builtin.Slice.sliceFields;refine af (af (gI b c rfl (af (gI b c rfl (af (gI b c rfl (au ?_)))))));refine af (slicePart_none ?_);rw[if_neg (by decide)]
 refine af (qS pl (af (qS i (af (au ?_)))));show wpAny _ _ (match Builtin.Slice.sliceAdjust lo a 1 (n:Int)with | (lo,a)=>pure (lo,(1:Int),Builtin.Slice.slicePlaces lo a 1)) _ _ s
 rw[Cn lo a n];show wpAny _ _ (pure (((eE n 0 lo:Nat):Int),(1:Int),Builtin.Slice.slicePlaces ((eE n 0 lo:Nat):Int) ((eE n n a:Nat):Int) 1)) _ _ s;rw[Co];exact au h
def Jm(xs:Array Value)(i k:Nat):((List.range k).filterMap fun(m:Nat)=>xs[((i:Int)+(m:Int)*1).toNat]?).toArray=((xs.toList.drop i).take k).toArray:=by
 have e:(fun(m:Nat)=>xs[(i+(m:Int)*1).toNat]?)=λm=>xs[i+m]?:=by
  grind
 rw[e];have:=pick_run xs i k;rw[List.filterMap_map]at this;have a:((λx=>xs[x]?) ∘ λx=>i+x)=λm=>xs[i+m]?:=rfl
 rw[a]at this;rw[this]
def lZ{a:Array Value}{d e:Value}{lo b:Option Int}{Q:Value->Shared->Prop}(ht:IsTup s.heap t a)(f:s.heap.IsSliceOf g d e .none)(pl:IsPart d lo)(i:IsPart e b)
  (hw:¬(eE a.size 0 lo=0/\eE a.size a.size b=a.size))
  (h:Q (.ref s.heap.objs.size) {s with heap:=s.heap.push {cls:=.type "tuple",data:=.seq ((a.toList.drop (eE a.size 0 lo)).take (eE a.size a.size b-eE a.size 0 lo)).toArray}})
  (hsz:a.size<=sizeLine):wpAny (model prog w) A (getItem (.ref t) (.ref g)) Q E s:=by
 have c:sizeOk (.seq ((a.toList.drop (eE a.size 0 lo)).take (eE a.size a.size b-eE a.size 0 lo)).toArray):=by
  show((a.toList.drop (eE a.size 0 lo)).take (eE a.size a.size b-eE a.size 0 lo)).toArray.size<=sizeLine;rw[eu,nz,List.length_drop,ip]
  lia
 have q:eE a.size a.size b<=a.size:=TX _ _ (aA _) b;obtain⟨j,k,l,r⟩:=id f;have o:s.TypeIs (.ref g) "slice":=⟨j,k,l⟩;unfold getItem
 try with_reducible refine fM ?_
 first | refine af (au ?_) | skip
 refine af (wpAny_sequenceKey ht.typeIs (by decide) ?_)
 refine af (lj ht.typeIs nk
  (iq nk ht.typeIs entry_tuple_getitem ?_ (args_tuple_getitem _ _)))
 show wpAny _ _ (Builtin.Tuple.tupleItemsOf (.ref t) >>= _) _ _ s;refine af (tupleItemsOf_ ht ?_);refine af (qC o ?_);rw[if_pos (by decide)]
 refine af (iG f pl i ?_);have p:¬((((eE a.size 0 lo:Nat):Int)==0&&(1:Int)==1&&(eE a.size a.size b-eE a.size 0 lo)==a.size)=true):=by
  grind
 show wpAny _ _ (if(((eE a.size 0 lo:Nat):Int)==0&&(1:Int)==1&&(eE a.size a.size b-eE a.size 0 lo)==a.size)=true then _ else _) _ _ s
 rw[if_neg p,Jm]
 first
  | exact af (m:=Builtin.Tuple.tupleExact _) (gC (au ⟨_,rfl,au h⟩) c)
  | exact af (m:=Builtin.Tuple.tupleExact _) (gC (af (au (au ⟨_,rfl,au h⟩))) c)
  | exact af (af (m:=Builtin.Tuple.tupleExact _) (gC (au (au ⟨_,rfl,au h⟩)) c))
  | exact af (af (m:=Builtin.Tuple.tupleExact _) (gC (au ⟨_,rfl,au h⟩) c))
end
end HT
namespace L2
open PySem PySem.Spec PyProof.Rows
abbrev TO:=St->Hp->(Option Int->Hp->Prop)->Prop
def PO(X:Cx)(e:Option Expr)(t:TO):Prop :=
 ∀(a:List (Addr×Obj)) (s:Shared) (σ:St) (H:Hp) (Q:Option Int->Hp->Prop),Inv X a σ H s->t σ H Q ->
  wpAny (model X.prog X.w) X.A (evalPart e X.env) (λu c=>∃o b,Inv X a σ b c/\IsPart u o/\Q o b) X.xe s
def NS:TO:=λ_ H Q=>Q none H
def X4(t:TE):TO:=λa H Q=>t a H λx b=>∃i,x=.int i/\Q (some i) b
def Cp:∀{a:List Value},Vals (ns.map V.int) a->IntsAre a ns:=by
 induction ns with
 | nil=>intro a r;rw[nE]at r;cases r;exact .nil
 | cons n ns ih =>
  intro a r;rw[aI]at r;cases r with
  | cons b c =>
   obtain⟨t,e⟩:=b;subst e;exact .cons n t (ih c)
section
variable {X:Cx} {e:Expr} {te:TE} {lo hi:Option Expr} {tl th:TO} {pos p2:Pos}
def NT:PO X none NS:=by
 intro a s b H Q I h;rw[evalPart_none];exact au ⟨none,H,I,.none,h⟩
def NU(h:PE X e te):PO X (some e) (X4 te):=by
 intro a s b H Q I hw;rw[evalPart_some];refine thn (h a s b H _ I hw) λu s1 ⟨x,H1,c,d,f⟩=>?_
 obtain⟨i,rfl,q⟩:=f;obtain⟨t,rfl⟩:=d;exact⟨some i,H1,c,.int i t,q⟩
def SlR(X:Cx)(r:V->Option Int->Option Int->Hp->VK->Prop):Prop :=
 ∀(a:List (Addr×Obj)) (s:Shared) (σ:St) (H:Hp) (x:V) (v b c:Value) (lo hi:Option Int) (d:Addr) (Q:VK),Inv X a σ H s->RelV x v->s.heap.IsSliceOf d b c .none->IsPart b lo->IsPart c hi->r x lo hi H Q ->
  ∃T id,typeLookup (.type T) "__getitem__"=pure (some (.builtin id))/\s.TypeIs v T/\wpAny (model X.prog X.w) X.A (getItem v (.ref d)) (EP X a σ Q) X.xe s
def tSl(r:V->Option Int->Option Int->Hp->VK->Prop)(te:TE)(tl th:TO):TE:=λa H Q=>te a H λx b=>tl a b λl c=>th a c λu d=>r x l u d Q
def Jn{r:V->Option Int->Option Int->Hp->VK->Prop}(i:SlR X r)(he:PE X e te)(j:PO X lo tl)(k:PO X hi th):PE X (.Subscript e (.Slice lo hi none p2) pos) (tSl r te tl th):=by
 intro a s c H Q I h;refine Subscript_ (thn (he a s c H _ I h) λv s1 ⟨x,H1,m,o,p⟩=>?_)
 refine wpAny_Slice (thn (j a s1 c H1 _ m p) λd s2 ⟨l,t,y,pl,B⟩=>thn (k a s2 c t _ y B) λf s3 ⟨u,g,C,pu,D⟩=>?_)
 rw[evalPart_none];refine au ?_;have E:Inv X a c g {s3 with heap:=s3.heap.push {cls:=.type "slice",data:=.fields #[d,f,.none]}}:=C.kept λb M q=>bg _ q
 obtain⟨T,id,J,ht,L⟩:=i a {s3 with heap:=s3.heap.push {cls:=.type "slice",data:=.fields #[d,f,.none]}} c g x v d f l u s3.heap.objs.size Q E o (Heap.IsSliceOf.new ..) pl pu D
 show wpAny (model X.prog X.w) X.A (subscriptTail e (.Slice lo hi none p2) v (.ref s3.heap.objs.size)) (EP X a c Q) X.xe {s3 with heap:=s3.heap.push {cls:=.type "slice",data:=.fields #[d,f,.none]}}
 exact tail_any ht J L (by with_unfolding_all rfl)
def yU(xs:List V)(lo hi:Option Int):List V:=(xs.drop (HT.eE xs.length 0 lo)).take (HT.eE xs.length xs.length hi-HT.eE xs.length 0 lo)
def oH(xs:List V)(lo hi:Option Int):(yU xs lo hi).length<=xs.length:=by
 unfold yU;rw[nz,List.length_drop]
 lia
def acF(K:W.Frag):V->Option Int->Option Int->Hp->VK->Prop:=λx lo hi H Q=>∃a b,x=.ref a/\gT K H a b /\
 ¬(HT.eE b.length 0 lo=0/\HT.eE b.length b.length hi=b.length)/\∀p,H p=none->Q (.ref p) (cx H p (.ao (yU b lo hi)))
def TY:SlR X (acF X.K):=by
 intro m s o H x v p t lo hi u Q I d f pl g h;obtain⟨a,c,rfl,i,hw,q⟩:=h;cases d;obtain⟨j,r,ht,k⟩:=I.tuple i;have l:j.toArray.size=c.length:=by rw[eu];exact r.length.symm
 refine⟨"tuple",_,nk.lookup,ht.typeIs,?_⟩;refine HT.lZ ht f pl g (by grind) ?_ (by grind)
 rw[l];refine⟨.ref s.heap.objs.size,_,I.laid (λb w q=>bg _ q) (aA _) ?_,rfl,q _ (I.hok.fresh (aA _))⟩
 exact⟨bK (oH c lo hi) k,_,(r.drop (HT.eE c.length 0 lo)).take (HT.eE c.length c.length hi-HT.eE c.length 0 lo),IsTup.new _ _⟩
def X5(K:W.Frag):R2:=λx y H Q=>∃a b d c,x=.ref a/\y=.ref b/\gT K H a d/\gT K H b c/\d≠[]/\d.length+c.length<=sizeLine /\
 (c=[]->Q (.ref a) H)/\(c≠[]->∀p,H p=none->Q (.ref p) (cx H p (.ao (d++c))))
def Vals.l7(r:Vals xs us):us=[]↔xs=[]:=by
 cases r with
 | nil=>simp
 | cons _ _=>simp
def NV:OpR X (binaryOp .Add) (X5 X.K):=by
 intro r s t H x y v u Q I f g h;obtain⟨a,b,B,C,rfl,rfl,i,j,k,l,m,o⟩:=h;cases f;cases g;obtain⟨D,d,p,_⟩:=I.tuple i;obtain⟨E,c,p2,_⟩:=I.tuple j;refine HT.D5 p p2 (λz=>k (d.l7.mp z)) (λz=>⟨.ref a,H,I,rfl,m (c.l7.mp z)⟩) (λz=>?_) (by rw[<-d.length,<-c.length];exact l)
 refine⟨.ref s.heap.objs.size,_,I.laid (λb J q=>bg _ q) (aA _) ?_,rfl,o (λw=>z (c.l7.mpr w)) _ (I.hok.fresh (aA _))⟩
 exact⟨by grind,_,d.append c,IsTup.new _ _⟩
end
noncomputable def NW(n:Nat)(i:Int):Option Nat:=if 0<=i then(if i<n then some i.toNat else none)else if -(n:Int)<=i then some (i+n).toNat else none
def km{a:Type}(xs:List a)(i:Int):Option a:=(NW xs.length i).bind λj=>xs[j]?
def D8(h:NW n i=some j):seqIndex? i n=some j/\j<n /\ -(n:Int)<=i/\i<n:=by
 unfold NW at h;by_cases b:0<=i
 ·rw[if_pos b]at h;by_cases a:i<n
  ·rw[if_pos a]at h;have e:=cj h;exact⟨by rw[seqIndex_of b a,e],by lia,by lia,a⟩
  ·grind
 ·rw[if_neg b]at h;by_cases a:-n<=i
  ·rw[if_pos a]at h;have e:=cj h;exact⟨by rw[seqIndex_neg (by lia) a,e],by lia,a,by lia⟩
  ·grind
def wz{a:Type}{xs:List a}{i:Int}{v:a}(h:km xs i=some v):∃j,seqIndex? i xs.length=some j/\xs[j]?=some v/\j<xs.length /\ -(xs.length:Int)<=i/\i<xs.length:=by
 unfold km at h;cases e:NW xs.length i with
 | none=>rw[e]at h;cases h
 | some j =>
  rw[e]at h;obtain⟨b,c,d,f⟩:=D8 e;exact⟨j,b,h,c,d,f⟩
def atI_nat{a:Type}{xs:List a}{j:Nat}{v:a}(h:xs[j]?=some v):km xs (j:Int)=some v:=by
 have b:=(bu.mp h).1;have e:NW xs.length j=some j:=by
  unfold NW;rw[if_pos (by lia),if_pos (by lia)];simp
 unfold km;rw[e];exact h
def pK(b:Expr):Prop:=∀o i,subscripted b false o i=operate [o,i] (getItem o i)
def WT(X:Cx)(r:R2):Prop :=
 ∀(b a:Expr) (c:List (Addr×Obj)) (s:Shared) (σ:St) (H:Hp) (x y:V) (v u:Value) (Q:VK),Inv X c σ H s->RelV x v->RelV y u->r x y H Q ->
  subscripted a false v u=operate [v,u] (getItem v u)->wpAny (model X.prog X.w) X.A (subscriptTail b a v u) (EP X c σ Q) X.xe s
def WU(X:Cx)(id:String)(r:V->List V->Hp->VK->Prop):Prop :=
 ∀(a:List (Addr×Obj)) (s:Shared) (σ:St) (H:Hp) (x:V) (xs:List V) (v:Value) (us:List Value) (Q:VK),Inv X a σ H s->RelV x v->Vals xs us->r x xs H Q ->
  wpAny (model X.prog X.w) X.A (call (.builtin id) (v::us)) (EP X a σ Q) X.xe s
section
variable {X:Cx} {a b:Expr} {ta tb:TE} {pos:Pos}
def Ra(c:WT X r)(d:PE X a ta)(e:PE X b tb)(f:pK b):PE X (.Subscript a b pos) (WR r ta tb):=by
 intro g s i H Q I h;exact Subscript_ (Ny d e I h λv u j x y k l m o q=>c a b g j i k x y v u Q l m o q (f _ _))
def acG(K:W.Frag):R2:=λx y H Q=>∃p c i v,x=.ref p/\y=.int i/\wq K H p c/\km c i=some v/\Q v H
def acH(K:W.Frag):R2:=λx y H Q=>∃p c i v,x=.ref p/\y=.int i/\gT K H p c/\km c i=some v/\Q v H
def acI:R2:=λx y H Q=>∃z i c,x=.str z/\y=.int i/\z.length<=sizeLine/\km z.cps.toList i=some c/\Q (.str ⟨#[c]⟩) H
def NX:WT X (acG X.K):=by
 intro d e k s l H x y v u Q I m o h f;obtain⟨p,R,i,z,rfl,rfl,B,he,q⟩:=h;cases m;obtain⟨t,rfl⟩:=o;obtain⟨C,r,pl,T⟩:=I.list B;obtain⟨j,c,D,Y,E,J⟩:=wz he;obtain⟨w,Z,L⟩:=r.get D;have M:=r.length;have hn:=lI;have kX:EP X k l Q w s:=⟨z,H,I,L,q⟩;by_cases g:0<=i
 ·have N:i.toNat=j:=by
   rw[seqIndex_of g J]at c;exact cj c
  exact item_listR pl.isList g (by lia) (by grind) kX f
 ·have N:(i+(C.toArray.size:Int)).toNat=j:=by
   rw[seqIndex_neg (by lia) E]at c
   rw[eu,<-M];exact cj c
  exact subscriptTail_builtinR pl.isList.typeIs slot_list_getitem.lookup
   (wpAny_getItem_list_neg pl.isList (by lia) (by grind) (by lia) (by grind) ⟨rfl,kX⟩) f
def T1:WT X (acH X.K):=by
 intro c d e s f H x y v u Q I g k h l;obtain⟨p,E,i,z,rfl,rfl,m,he,q⟩:=h;cases g;obtain⟨t,rfl⟩:=k;obtain⟨J,r,pl,L⟩:=I.tuple m;obtain⟨j,o,B,M,N,R⟩:=wz he;obtain⟨w,T,C⟩:=r.get B;have D:=r.length;have Y:=lI;have kX:EP X e f Q w s:=⟨z,H,I,C,q⟩;exact subscriptTail_builtinR pl.typeIs slot_tuple_getitem.lookup
  (getItem_tuple pl (by lia) (by lia) (by rw[eu,<-D];exact o) (by grind) ⟨rfl,kX⟩) l
def T2:WT X acI:=by
 intro d e r s w H x y v u Q I f g h k;obtain⟨z,i,c,rfl,rfl,B,he,q⟩:=h;obtain⟨t,rfl⟩:=f;obtain⟨C,rfl⟩:=g;obtain⟨j,l,D,E,m,o⟩:=wz he;have p:z.cps.toList.length=z.length:=by simp[Str.length]
 rw[p]at l m o;have J:=lI;exact tail_any (typeIs_str s z t) slot_str_getitem.lookup (getItem_str (by
  grind) (by grind) ⟨.str ⟨#[c]⟩,H,I.tok _,⟨_,rfl⟩,q⟩) k
def Cq(c:List Value)(n j:Nat)(u:Value):Obj.mapSeq (·.setIfInBounds j u) {cls:=.type "list",data:=.seq c.toArray n}={cls:=.type "list",data:=.seq (c.set j u).toArray n}:=by
 simp[Obj.mapSeq]
def Inv.lst{d:List (Addr×Obj)}{σ:St}{H:Hp}{s:Shared}{p:Addr}{xs:List V}(I:Inv X d σ H s)(h:H p=some (.lst xs)) :
  ∃(c:List Value) (n:Nat),Vals xs c/\s.heap.get? p=some {cls:=.type "list",data:=.seq c.toArray n}/\xs.length<=sizeLine:=by
 obtain⟨z,c,n,r,e⟩:=I.hok p _ h;exact⟨c,n,r,e,z⟩
def Inv.T3{j:List (Addr×Obj)}{σ:St}{H:Hp}{s:Shared}{p:Addr}{xs d:List V}{k c:List Value}{n g:Nat}{f:Obj->Obj}(I:Inv X j σ H s)(h:H p=some (.lst xs))
  (ho:s.heap.get? p=some {cls:=.type "list",data:=.seq k.toArray n}) (l:f {cls:=.type "list",data:=.seq k.toArray n}={cls:=.type "list",data:=.seq c.toArray g}) (r:Vals d c) (hz:d.length<=sizeLine) (t:Nat) :
  Inv X j σ (cx H p (.lst d)) {s with heap:=s.heap.update p f,toks:=t}:=by
 have e:(s.heap.update p f).get? p=some {cls:=.type "list",data:=.seq c.toArray g}:=by
  rw[qg f ho (by rw[l]<;>rfl),l]
 refine I.write (by rw[h];trivial) (.inl rfl) (λb u m q=>(vH _ _ (dt m)).trans q) ⟨_,e⟩ ?_
 exact⟨hz,c,g,r,e⟩
def X6:V->V->V->Hp->(Hp->Prop)->Prop:=λo i v H Q=>∃p c k j,o=.ref p/\i=.int k/\H p=some (.lst c)/\NW c.length k=some j/\Q (cx H p (.lst (c.set j v)))
def Jo:IW X X6:=by
 intro f s g H o i v E J u Q I l m w h;obtain⟨p,x,k,j,rfl,rfl,hp,y,q⟩:=h;cases l;obtain⟨t,rfl⟩:=m;obtain⟨d,n,r,ho,L⟩:=I.lst hp;obtain⟨c,M,B,C⟩:=D8 y;have D:=r.length;have N:=lI;have R:Inv X f g (cx H p (.lst (x.set j v))) {s with heap:=s.heap.update p (Obj.mapSeq (·.setIfInBounds j u))} :=
  I.T3 hp ho (Cq d n j u) (r.set w j) (by grind) s.toks
 by_cases e:0<=k
 ·have hk:k.toNat=j:=by
   rw[seqIndex_of e C]at c;exact cj c
  exact W.ki_setAt ho e (by lia) (by grind) (by grind)
 ·have hk:(k+(d.toArray.size:Int)).toNat=j:=by
   rw[seqIndex_neg (by lia) B]at c
   rw[eu,<-D];exact cj c
  exact W.ki_setBack ho (by lia) (by grind) (by lia) (by grind)
def wA(lo c:Option Int)(n:Nat):(sliceBounds lo c none n).1=((HT.eE n 0 lo:Nat):Int)/\(sliceBounds lo c none n).2.1=((HT.eE n n c:Nat):Int)/\(sliceBounds lo c none n).2.2=1:=by
 refine⟨?_,?_,rfl⟩
 ·cases lo with
  | none=>simp[sliceBounds,HT.eE]
  | some i =>
   simp only[sliceBounds,HT.eE,BQ,show 1>0 by decide,jQ]
   by_cases h:i<0
   ·grind
   ·grind
 ·cases c with
  | none=>simp[sliceBounds,HT.eE]
  | some i =>
   simp only[sliceBounds,HT.eE,BQ,show 1>0 by decide,jQ]
   by_cases h:i<0
   ·grind
   ·grind
def tP(c:List Value)(lo d:Option Int):slicePick c.toArray lo d none=((c.drop (HT.eE c.length 0 lo)).take (HT.eE c.length c.length d-HT.eE c.length 0 lo)).toArray:=by
 obtain⟨e,f,g⟩:=wA lo d c.toArray.size;unfold slicePick;rw[e,f,g];simp only[sliceRange_one,pick_run,eu]<;>rfl
def acJ(K:W.Frag):V->Option Int->Option Int->Hp->VK->Prop:=λx lo d H Q=>∃a c,x=.ref a/\wq K H a c/\∀p,H p=none->Q (.ref p) (cx H p (.lst (yU c lo d)))
def NY:SlR X (acJ X.K):=by
 intro l s m H x v o p lo d t Q I e f pl g h;obtain⟨a,c,rfl,i,q⟩:=h;cases e;obtain⟨u,r,ht,j⟩:=I.list i;have k:=r.length;refine⟨"list",_,slot_list_getitem.lookup,ht.isList.typeIs,?_⟩;refine wpAny_getItem_list_slice ht.isList f pl g .none (by simp) ?_ (by grind)
 rw[tP,<-k];refine⟨.ref s.heap.objs.size,_,I.laid (λb w q=>bg _ q) (aA _) ?_,rfl,q _ (I.hok.fresh (aA _))⟩
 exact⟨bK (oH c lo d) j,_,0,(r.drop (HT.eE c.length 0 lo)).take (HT.eE c.length c.length d-HT.eE c.length 0 lo),cO _ rfl⟩
def l8:lX X (.builtin "len") (λxs H Q=>∃p c,xs=[.ref p]/\(wq X.K H p c\/gT X.K H p c)/\Q (.int c.length) H):=by
 intro k s l H xs m Q I r h;obtain⟨p,c,rfl,d,q⟩:=h;obtain⟨u,rfl,f⟩:=jx r;cases f;have o:=lI;rcases d with d | d
 ·obtain⟨g,e,pl,i⟩:=I.list d;have j:=e.length;exact Calls.call_len_list pl.isList (by grind) ⟨.int c.length,H,I.tok _,⟨s.toks+1,by grind⟩,q⟩
 ·obtain⟨g,e,pl,i⟩:=I.tuple d;have j:=e.length;exact len_tuple pl (by grind) ⟨.int c.length,H,I.tok _,⟨s.toks+1,by grind⟩,q⟩
def wB:lX X (.builtin "len") (λxs H Q=>∃z,xs=[.str z]/\z.length<=sizeLine/\Q (.int z.length) H):=by
 intro c s d H xs e Q I r h;obtain⟨z,rfl,f,q⟩:=h;obtain⟨u,rfl,t,rfl⟩:=jx r;have g:=lI;exact len_str (by lia) ⟨.int z.length,H,I.tok _,⟨_,rfl⟩,q⟩
def kY:lX X (.type "tuple") (λxs H Q=>∃p c,xs=[.ref p]/\((wq X.K H p c/\∀l,H l=none->Q (.ref l) (cx H l (.ao c)))\/(gT X.K H p c/\Q (.ref p) H))):=by
 intro m s t H xs y Q I r h;obtain⟨p,c,rfl,h⟩:=h;obtain⟨u,rfl,v⟩:=jx r;cases v;rcases h with⟨d,q⟩ | ⟨d,q⟩
 ·obtain⟨f,g,pl,j⟩:=I.list d;have B:=g.length;refine call_tuple_list pl.isList (λi w=>?_) (by grind)
  have k:=I.kept (t':=s.toks) w;have x:Inv X m t (cx H i.objs.size (.ao c)) {s with heap:=i.push {cls:=.type "tuple",data:=.seq f.toArray}} :=
   k.laid (λb o e=>bg _ e) (aA _) (⟨j,f,g,IsTup.new _ _⟩)
  exact⟨.ref i.objs.size,_,x,rfl,q _ (k.hok.fresh (aA _))⟩
 ·obtain⟨f,g,pl,j⟩:=I.tuple d;exact call_tuple_same pl ⟨.ref p,H,I,rfl,q⟩
def tyV(K:W.Frag)(T:String)(x:V)(H:Hp):Prop:=match x with
 | .str _=>T="str"
 | .int _=>T="int"
 | .ref p=>(T="list"/\∃d,wq K H p d)\/(T="tuple"/\∃o,K.lookup p=some o/\o.cls=.type "tuple"/\o.dict=none) \/
   (T="dict"/\((∃c,H p=some (.dK c))\/∃c,H p=some (.dT c)))\/(T="set"/\∃S n,H p=some (.set S n))
 | _=>False
def Jp{h:List (Addr×Obj)}{j:St}{H:Hp}{s:Shared}{T:String}{x:V}{v:Value}(I:Inv X h j H s)(r:RelV x v)(ty:tyV X.K T x H) :
  s.TypeIs v T/\∀a,v=.ref a->∃g,s.heap.get? a=some g/\g.dict=none:=by
 cases x with
 | str z =>
  obtain⟨t,rfl⟩:=r;cases(ty);exact⟨typeIs_str s z t,λ_ e=>nomatch e⟩
 | int i =>
  obtain⟨t,rfl⟩:=r;cases(ty);exact⟨typeIs_int s i t,λ_ e=>nomatch e⟩
 | ref p =>
  cases r;rcases ty with⟨rfl,xs,k⟩ | ⟨rfl,o,hk,hc,hd⟩ | ⟨rfl,hk⟩ | ⟨rfl,S,n,hk⟩
  ·obtain⟨l,_,pl,_⟩:=I.list k;refine⟨pl.isList.typeIs,λa e=>?_⟩
   cases e;obtain⟨o,n,e,c,hd,_⟩:=pl;exact⟨o,e,hd⟩
  ·refine⟨⟨o,I.qL p o hk,hc⟩,λa e=>?_⟩
   cases e;exact⟨o,I.qL _ o hk,hd⟩
  ·have z:∃o,s.heap.get? p=some o/\o.ExactDict:=by
    rcases hk with⟨d,hk⟩ | ⟨d,hk⟩
    ·obtain⟨_,_,_,_,o,_,_,e,ex,_⟩:=I.hok p _ hk;exact⟨o,e,ex⟩
    ·obtain⟨_,_,o,_,_,e,ex,_⟩:=(I.hok p _ hk);exact⟨o,e,ex⟩
   obtain⟨o,e,ex⟩:=z;refine⟨⟨o,e,ex.1⟩,λa f=>?_⟩
   cases f;exact⟨o,e,ex.2.1⟩
  ·obtain⟨o,_,_,_,e,ex,_⟩:=I.hok p _ hk;refine⟨⟨o,e,ex.1⟩,λa f=>?_⟩
   cases f;exact⟨o,e,ex.2.1⟩
 | _=>exact False.elim ty
def X7(K:W.Frag)(T:String)(r:V->List V->Hp->VK->Prop)(to:TE):TE:=λd H Q=>to d H λx c=>tyV K T x c/\r x [] c Q
def tBM(K:W.Frag)(T:String)(r:V->List V->Hp->VK->Prop)(to:TE)(t:TA):TE:=λc H Q=>to c H λx d=>tyV K T x d/\t c d λe f=>r x e f Q
variable {o e:Expr} {es:List Expr} {to:TE} {t:TA} {name:Str} {qG kD:Pos} {T id:String} {r:V->List V->Hp->VK->Prop}
def Jq(j:PlainAttrs T)(slot:Slot T name id)(c:typeOf (.builtin id)=pure (.type "method_descriptor"))(k:WU X id r)(ho:PE X o to)
  (l:attributeBase o name X.env (eval o X.env)=eval o X.env:=by rfl) (m:(qG.endLine==kD.line)=true:=by rfl):PE X (.Call (.Attribute o name qG) [] [] kD) (X7 X.K T r to):=by
 intro d s f H Q I h;refine wpAny_Call_method0_late l m (thn (ho d s f H _ I h) λv p q=>?_)
 obtain⟨x,u,g,i,ty,w⟩:=q;obtain⟨y,B⟩:=Jp g i ty;exact⟨T,id,j,slot,c,y,B,Calls.callWith_builtin rfl (PySem.evalArgs_none (k d p f u x [] v [] Q g i .nil w))⟩
def uG(k:PlainAttrs T)(slot:Slot T name id)(c:typeOf (.builtin id)=pure (.type "method_descriptor"))(l:WU X id r)(ho:PE X o to)(m:PA X (e::es) t)
  (p:attributeBase o name X.env (eval o X.env)=eval o X.env:=by rfl)
  (q:((backTo kD (starEach (e::es) X.env)).all (λx=>!x.1)&&(backToKw kD (keywordEach [] X.env)).all (λx=>x.1.isSome)
   && decide ((e::es).length+([]:List Keyword).length+(if([]:List Keyword).isEmpty then 0 else 1)<30))=true:=by rfl)
  (u:(qG.endLine==kD.line)=true:=by rfl) (w:starEach (e::es) X.env=(false,eval e X.env)::starEach es X.env:=by rfl) (y:(backTo kD (starEach es X.env)).any (·.1)=false:=by rfl) :
  PE X (.Call (.Attribute o name qG) (e::es) [] kD) (tBM X.K T r to t):=by
 intro d s f H Q I h;refine wpAny_Call_method_late p q u rfl (thn (ho d s f H _ I h) λv B C=>?_)
 obtain⟨x,D,g,i,ty,E⟩:=C;obtain⟨J,L⟩:=Jp g i ty;refine⟨T,id,k,slot,c,J,L,?_⟩;have j:=m kD d B f D _ g E;rw[w]at j ⊢;refine Calls.callWith_builtin (by grind) (Calls.evalArgs_plain ?_)
 exact thn j (by rintro us s2 ⟨M,N,R,Y,Z⟩;exact l d s2 f N x M v us Q R i Y Z)
end
def MtM(X:Cx)(id:String)(r:V->List V->Hp->VK->Prop):Prop :=
 ∀(a:List (Addr×Obj)) (s:Shared) (σ:St) (H:Hp) (x:V) (xs:List V) (v:Value) (us:List Value) (Q:VK),Inv X a σ H s->RelV x v->Vals xs us->r x xs H Q ->
  wpAny (model X.prog X.w) X.A (call (.builtin id) (v::us)) (EP X a σ Q) X.xe s
theorem Vals.one:∀{x:V} {us:List Value},Vals [x] us->∃u,us=[u]/\RelV x u
 | _,_,.cons r .nil=>⟨_,rfl,r⟩
def Vals.two{x y:V}{a:List Value}(h:Vals [x,y] a):∃u v,a=[u,v]/\RelV x u/\RelV y v:=by
 cases h with
 | cons r h=>cases h with
  | cons q h=>cases h;exact⟨_,_,rfl,r,q⟩
theorem Vals.zero:∀{a:List Value},Vals [] a->a=[]
 | _,.nil=>rfl
theorem Vals.eraseIdx:∀{xs:List V} {us:List Value} (i:Nat),Vals xs us->Vals (xs.eraseIdx i) (us.eraseIdx i)
 | _,_,_,.nil=>.nil
 | _,_,0,.cons _ t=>t
 | _,_,i+1,.cons r t=>.cons r (Vals.eraseIdx i t)
def Vals.reverse(h:Vals xs us):Vals xs.reverse us.reverse:=by
 induction h with
 | nil=>exact .nil
 | cons r t ih=>rw[vL,vL];exact Vals.append ih (.cons r .nil)
section
variable {X:Cx} {ae:List (Addr×Obj)} {σ:St} {H:Hp} {s:Shared} {l b:Addr} {xs ys zs:List V}
def Inv.NZ{c a:List Value}{n:Nat}{f:Array Value->Array Value}{t':Nat}(I:Inv X ae σ H s)(d:H l=some (.lst xs))
  (e:s.heap.get? l=some {cls:=.type "list",data:=.seq c.toArray n}) (g:f c.toArray=a.toArray) (h:Vals ys a) (hz:ys.length<=sizeLine) :
  Inv X ae σ (cx H l (.lst ys)) {s with heap:=s.heap.update l (Obj.mapSeq f),toks:=t'}:=by
 have q:=PySem.IsL.update e f;rw[g]at q;refine I.write (by rw[d];exact trivial) (.inl rfl) (λm u j k=>(vH s.heap (Obj.mapSeq f) (dt j)).trans k) ⟨_,q⟩ ?_
 exact⟨hz,a,_,h,q⟩
def Inv.acM(I:Inv X ae σ H s)(c:Vals ys a)(hz:ys.length<=sizeLine) :
  Inv X ae σ (cx H s.heap.objs.size (.lst ys)) {s with heap:=s.heap.push {cls:=.type "list",data:=.seq a.toArray},toks:=t'} :=
 I.laid (λ_ _ q=>bg _ q) (aA _) ⟨hz,a,0,c,cO _ rfl⟩
def Inv.fresh(I:Inv X ae σ H s):H s.heap.objs.size=none:=I.hok.fresh (aA _)
def Inv.gU(I:Inv X ae σ H s)(c:H l=some (.lst xs)):xs.length<=sizeLine/\∃(a:List Value) (n:Nat),Vals xs a/\xs.length=a.length/\s.heap.get? l=some {cls:=.type "list",data:=.seq a.toArray n}:=by
 obtain⟨z,a,n,r,e⟩:=I.hok l _ c;exact⟨z,a,n,r,r.length,e⟩
def Jr(h:n<=sizeLine):Builtin.List.listTooLong n=false:=by
 unfold Builtin.List.listTooLong;exact lB (by lia)
end
section
variable {X:Cx}
def D9:V->List V->Hp->VK->Prop:=λx b H Q=>∃l a y,x=.ref l/\b=[y]/\H l=some (.lst a)/\a.length<sizeLine/\Q .bj (cx H l (.lst (a++[y])))
def Gf:MtM X "list.append" D9:=by
 intro g s i H x j v k Q I b c h;obtain⟨l,m,y,rfl,rfl,a,o,q⟩:=h;cases b;obtain⟨u,rfl,d⟩:=c.one;obtain⟨z,f,n,r,p,e⟩:=I.gU a;refine lF F.slot_list_append ⟨_,e,rfl⟩ F.entry_list_append (F.args_list_append_2 _ _) (PySem.list_append l f.toArray n u (by grind)) ⟨e,?_⟩
 refine⟨.bj,_,I.NZ a e (by simp) (r.append (.cons d .nil)) ?_,rfl,q⟩
 rw[aZ,List.length_singleton]
 lia
def yW:V->List V->Hp->VK->Prop:=λx b H Q=>∃l a,x=.ref l/\b=[]/\H l=some (.lst a)/\Q .bj (cx H l (.lst a.reverse))
def Cr:MtM X "list.reverse" yW:=by
 intro g s i H x j v k Q I c d h;obtain⟨l,m,rfl,rfl,b,q⟩:=h;cases c;have a:=d.zero;subst a;obtain⟨z,f,n,r,o,e⟩:=I.gU b;refine lF F.slot_list_reverse ⟨_,e,rfl⟩ F.entry_list_reverse (F.args_list_reverse_1 _) (AutoSeq1.list_reverse_list_0 l f.toArray n (by grind)) ⟨e,?_⟩
 refine⟨.bj,_,I.NZ b e (by simp) r.reverse ?_,rfl,q⟩
 rw[BH]
 lia
end
end L2
namespace Att
open PySem PySem.W PySem.Calls PyProof.Rows
def pe:∀(c:List Int) (vs:List Value),WellAll P h vs (c.map WData.int)->IntsAre vs c:=by
 intro c;induction c with
 | nil =>
  intro vs w;rw[nE]at w;cases w;exact .nil
 | cons n c ih =>
  intro vs w;rw[aI]at w;cases w with
  | cons a b =>
   cases a;exact .cons _ _ (ih _ b)
def Gg{l:OpenLaw}(j:l.most=some n) 
  (i:l.row.toRowW.claim.pre args=true) (f:WellAll P h k args) :
  ∃a vs b,k=[Value.ref a]/\args=[WData.list (b.map WData.int)]/\h.get? a=some {cls:=.type "list",data:=.seq vs.toArray}/\IntsAre vs b/\b.length<=n:=by
 have g:=(pre_splitW i).1;have hc:l.pre.holds [] {args:=args}=true:=(pre_splitW i).2
 obtain⟨d,r,rfl,m,o⟩:=hasAllW_cons g;obtain rfl:=hasAllW_nil o;obtain⟨y,rfl,p⟩:=hasW_list m;obtain⟨b,rfl⟩:=items_int p;have t:b.length<=n:=by
  unfold OpenLaw.pre at hc;have c:(WTm.not (.lt (.lit (.int n)) (.len (.arg 0)))).holds [] {args:=[.list (b.map .int)]}=true:=by
   have c:=(holds_andW hc).1;rw[j]at c;exact c
  have e:=condW_of c (w_not (w_lt w_lit (w_len_list (w_arg rfl))));rw[aj]at e;refine qw λq=>?_
  have u:n<(b.length:Nat):=by lia
  first
   | (rw[fg u]at e;exact absurd e (by decide))
   | (simp at e;lia)
 cases f with
 | cons v w =>
  cases w;cases v with
  | list ho x=>exact⟨_,_,b,rfl,rfl,ho,pe b _ x,t⟩
def Gi(l:OpenLaw)(args:List WData):l.row.toRowW.claim.post args (.bool true) args=true :=
 postW_of
  (show WShape.has [] (.bool true) .bool=true by first | rfl | decide | simp[WShape.has,WShape.arms,WShape.armsAll])
  (w_eq_bool (w_res rfl) w_lit) rfl
def yX{l:OpenLaw}{n:Nat}{loose:List Str}{XP:(Str->Option Value)->Heap->Prop}{YP:World->Heap->Prop}{d:DefRec}
  (u:l.most=some n) (j:d.params.defaults=[])
  (call:∀(w:World) (s₀ b:Shared) (g k:Str->Option Value) (e:Addr) (o:Obj) (m cd c:Value) (a:Addr) (vs:List Value) (h:List Int),
   Ground q loose [] XP w s₀ g k b.heap->YP w b.heap ->
   b.heap.get? e=some o->o.data=.func (docDef d.name d.params d.body d.scope m cd c)->b.heap.CodeRec cd d.name->g d.name=some (.ref e) ->
   b.heap.get? a=some {cls:=.type "list",data:=.seq vs.toArray}->IntsAre vs h->h.length<=n->b.gens=#[] ->
   codeAny (model l.prog w) callerA (.call (.ref e) ⟨[.ref a],[]⟩) (λr i=>r=.ok (.ret (.bool true))/\OldK b.heap i.heap/\i.os=b.os/\AllBare i.gens) b) :
  WalkO q loose XP YP l.row.toRowW d [] (λf vs=>PySem.call f vs):=by
 intro w s₀ b g k G Y e o m cd c v kV ho hd x t y B args X as C D E p H;obtain rfl:v=.none:=Dflts.none t j;obtain rfl:kV=.none:=Dflts.noKw t;obtain⟨a,vs,h,rfl,rfl,I,J,L⟩:=Gg u C p;refine enter_call (nF (call w s₀ b g k e o m cd c a vs h G Y ho (fd_plain hd) x y I J L B) λr i M=>?_)
 obtain⟨rfl,N,Q,R⟩:=M;exact⟨.inl ⟨.bool true,.bool true,[],rfl,λ_=>rfl,.bool true,Gi l _,λ_=>⟨List.Pairwise.nil,λ_ T=>(nomatch T)⟩⟩,N,Q,R⟩
end Att
namespace L2
open PySem PySem.Spec PyProof.Rows
theorem uH:∀{vs:List Value} {ns:List Int},IntsAre vs ns->Vals (ns.map V.int) vs
 | _,_,.nil=>.nil
 | _,_,.cons n t h=>.cons ⟨t,rfl⟩ (uH h)
def Gj{P:Program}{w:World}{K:W.Frag}{l J:Str->Option Value}{CX:HV}{k:Nat}{fa a:Addr}{fd:FuncData}{x:Str}{sp:Sp}{c:Shared}{vs:List Value}{i:List Int}{tabs:List (Addr×Str)}
  (KX:K.In c.heap) (Ju:c.heap.Ns mainGlobals l) (L:c.heap.Ns builtinsNs J) (M:∀x:Str,x≠"__name__"->J x=bootBuiltins x) (N2:c.heap.NoLimit) (hg:c.gens=#[])
  (N:∀b q,tabs.lookup b=some q->c.heap.get? b=some {cls:=.none,data:=.fields #[]}/\isCodeTable c.heap b/\K.lookup b=none) (Q:∀H:Hp,(∀b q,tabs.lookup b=some q->H b=some (.BY q))->qK K H)
  (B:c.heap.get? a=some {cls:=.type "list",data:=.seq vs.toArray}) (hi:IntsAre vs i) (hl:i.length<=sizeLine) (hr:dH k callerA)
  (F:∀f:Heap,K.In f->f.Ns mainGlobals l->FnOk P w K l f CX k fa fd [x] sp) (X9:∀(s:Shared) (u:Value),BindsTo s fd ⟨[u],[]⟩ [(x,u)])
  (NR:∀H:Hp,kW K H a (i.map V.int)->sp [.ref a] H (λv _=>v=.bl true) λ_ _ _=>False) (R:∀H e j,CX [] H c (λ_ _ _=>False) e j->False) :
  codeAny (model P w) callerA (.call (.ref fa) ⟨[.ref a],[]⟩) (λr j=>r=.ok (.ret (.bool true))/\OldK c.heap j.heap/\j.os=c.os/\AllBare j.gens) c:=by
 have rv:=uH hi;have gK:=hi.length
 let C:Obj:={cls:=.type "list",data:=.seq vs.toArray}
 let H:Hp:=λb=>if b=a/\K.lookup a=none then some (.oC C (.lst (i.map V.int)))else(tabs.lookup b).map HO.BY
 have T:∀b,H b=if b=a/\K.lookup a=none then some (.oC C (.lst (i.map V.int)))else(tabs.lookup b).map HO.BY:=λ_=>rfl
 have X:∀b q,tabs.lookup b=some q->H b=some (.BY q):=λb q e=>by
  grind
 have D:∀b u,H b=some u->(b=a/\K.lookup a=none/\u=.oC C (.lst (i.map V.int)))\/∃q,tabs.lookup b=some q/\u=.BY q:=λb u e=>by
  rw[T]at e;by_cases h:b=a/\K.lookup a=none
  ·grind
  ·rw[if_neg h]at e;cases z:tabs.lookup b with
   | none=>rw[z]at e;cases e
   | some q=>rw[z]at e;cases e;exact .inr ⟨q,rfl,rfl⟩
 have hS:kW K H a (i.map V.int):=by
  cases hk:K.lookup a with
  | some o =>
   have e:=KX a o hk;rw[B]at e;cases e;exact .inr ⟨vs,_,hk,by grind,rv⟩
  | none=>exact .inl (.inr ⟨C,by grind⟩)
 have Y:lG P w H c.heap:=λb u e=>by
  rcases D b u e with⟨rfl,_,rfl⟩ | ⟨q,hq,rfl⟩
  ·exact⟨B,by grind,vs,_,rv,B⟩
  ·exact⟨#[],(N b q hq).1,trivial,λpos cv z=>by cases z⟩
 have Z:∀{b:Addr} {o:Obj} {E:Array DictEntry} {I:Nat},c.heap.get? b=some o->o.data=.dict E I->H b=none:=λ{b o E I} e d=>by
  cases q:H b with
  | none=>rfl
  | some u =>
   rcases D b u q with⟨rfl,_,_⟩ | ⟨t,ht,_⟩
   ·grind
   ·grind
 have g:∀{b:Addr} {m:Str->Option Value},c.heap.Ns b m->(yJ c.heap H).Ns b m:=λ{b m} ⟨o,E,I,e,d,r⟩=>⟨o,E,I,hidT_get e (Z e d),d,r⟩
 have p:K.In (yJ c.heap H):=λb o e=>hidT_get (KX b o e) (by
  cases q:H b with
  | none=>rfl
  | some u =>
   rcases D b u q with⟨rfl,z,_⟩ | ⟨t,ht,_⟩
   ·grind
   ·rw[(N b t ht).2.2]at e;cases e)
 have hM:Mod K l (yJ c.heap H):=⟨p,g Ju,⟨J,g L,M⟩,let ⟨mc,h1,h2⟩:=N2;⟨mc,g h1,h2⟩⟩
 have e0:Env0 P w K l (yJ c.heap H) callerA [] c H:=⟨rfl,hM,λb o e=>of_hidT e,jb (FZ _ _),trivial,λb L=>absurd (show b∈([]:List Addr)from L) (by simp),Y,.of_eq hg,Q H X⟩
 refine nF ((F _ p (g Ju)).run callerA [] c H ⟨[.ref a],[]⟩ [.ref a] [.ref a] _ _ hr e0 (X9 c (.ref a)) (.cons rfl .nil) (NR H hS)) λr j h=>?_
 cases r with
 | error e=>exact(R H e j h).elim
 | ok fl =>
  cases fl with
  | next=>exact False.elim h
  | brk=>exact False.elim h
  | cont=>exact False.elim h
  | ret u =>
   obtain⟨v,H',os,y,un,Yb,r',q⟩:=h;have q':=q;subst q';obtain rfl:u=Value.bool true:=r';have noF:∀b:Addr,b∉nK []:=λb z=>absurd (show b∈([]:List Addr)from z) (by simp)
   refine⟨rfl,⟨λb o e=>?_,λb o e=>un.there b o e (by simp)⟩,os,y⟩
   cases q:H b with
   | none=>exact .inl (un.keep b o e q (noF b) (by simp))
   | some u =>
    rcases D b u q with⟨rfl,_,rfl⟩ | ⟨t,ht,rfl⟩
    ·obtain⟨e2,_⟩:=Yb b _ (un.frzs b _ _ q);rw[B]at e;cases e;exact .inl e2
    ·obtain⟨h1,h2,_⟩:=N b t ht;obtain⟨ps,e2,_⟩:=(Yb b _ (un.tbls b _ q));rw[h1]at e;cases e;exact .inr (.inl ⟨h2,rfl,#[],ps,rfl,by grind⟩)
abbrev E0:XK:=λ_ _ _=>False
def cK(H H':Hp):Prop:=∀b o,H b=some o->H' b=some o
def cK.refl(H:Hp):cK H H:=λ_ _ h=>h
def cK.trans(a:cK H H1)(b:cK H1 d):cK H d:=λc o h=>b c o (a c o h)
def cK.free(e:cK H H')(h:H' l=Option.none):H l=Option.none:=by
 cases q:H l with
 | none=>rfl
 | some o =>
  rw[e l o q]at h;cases h
def cK.seq{K:W.Frag}{H H':Hp}{a:Addr}{xs:List V}(e:cK H H')(h:wq K H a xs):wq K H' a xs:=by
 rcases h with(h | ⟨o,h⟩) | h
 ·exact .inl (.inl (e _ _ h))
 ·exact .inl (.inr ⟨o,e _ _ h⟩)
 ·exact .inr h
section
variable {κ:Type} [DecidableEq κ]
noncomputable def gW(kvs:List (κ×V))(k:κ):Option V:=(kvs.find? λa=>decide (a.1=k)).map (·.2)
noncomputable def putK(kvs:List (κ×V))(k:κ)(v:V):List (κ×V) :=
 if(kvs.any λa=>decide (a.1=k))=true then kvs.map (λa=>if a.1=k then(a.1,v)else a)else kvs++[(k,v)]
def l9{p:κ×V}{r:List (κ×V)}{k:κ}(e:p.1=k):gW (p::r) k=some p.2:=by simp[gW,qA,e]
def me{p:κ×V}{r:List (κ×V)}{k:κ}(e:¬p.1=k):gW (p::r) k=gW r k:=by simp[gW,qA,e]
theorem qT(k:κ):∀kvs:List (κ×V),(kvs.any λa=>decide (a.1=k))=(gW kvs k).isSome
 | []=>rfl
 | p::r=>by
  rw[ja];by_cases e:p.1=k
  ·simp only[l9 e,fg e,Bool.true_or,Option.isSome_some]
  ·rw[me e,lB e,Bool.false_or];exact qT k r
def Jv{kvs:List (κ×V)}{k:κ}(v:V)(h:gW kvs k=none):putK kvs k v=kvs++[(k,v)]:=by
 unfold putK;rw[qT,h];exact if_neg (by decide)
def qJ.uI{o:Option V}{u:Option Value}(r:qJ o u):o.isSome=u.isSome:=by
 cases o with
 | none=>cases u with
  | none=>rfl
  | some _=>exact(show False from r).elim
 | some _=>cases u with
  | none=>exact(show False from r).elim
  | some _=>rfl
def qJ.getD{o:Option V}{u:Option Value}{d:V}{a:Value}(r:qJ o u)(rd:RelV d a):RelV (o.getD d) (u.getD a):=by
 cases o with
 | none=>cases u with
  | none=>exact rd
  | some _=>exact(show False from r).elim
 | some _=>cases u with
  | none=>exact(show False from r).elim
  | some _=>exact r
def KV.val{kvs:List (κ×V)}{vs:List (κ×Value)}(r:KV kvs vs)(k:κ):qJ (gW kvs k) (valueAt vs k):=by
 unfold KV at r;induction r with
 | nil=>exact True.intro
 | @cons p q f a h t ih =>
  obtain⟨g,d⟩:=h;by_cases e:p.1=k
  ·have c:q.1=k:=by grind
   have b:valueAt (q::a) k=some q.2:=by simp[valueAt,qA,c]
   rw[l9 e,b];exact d
  ·have c:¬q.1=k:=by grind
   have b:valueAt (q::a) k=valueAt a k:=by simp[valueAt,qA,c]
   rw[me e,b];exact ih
def KV.any{kvs:List (κ×V)}{vs:List (κ×Value)}(r:KV kvs vs)(k:κ):(kvs.any λa=>decide (a.1=k))=vs.any λa=>decide (a.1=k):=by
 unfold KV at r;induction r with
 | nil=>rfl
 | cons h t ih=>rw[ja,ja,ih,h.1]
def KV.acR{kvs:List (κ×V)}{vs:List (κ×Value)}(r:KV kvs vs)(k:κ){y:V}{u:Value}(b:RelV y u) :
  KV (kvs.map λa=>if a.1=k then(a.1,y)else a) (vs.map λa=>if a.1=k then(a.1,u)else a):=by
 unfold KV at r ⊢;induction r with
 | nil=>exact .nil
 | @cons p q c d h t ih =>
  rw[aI,aI];refine .cons ?_ ih;obtain⟨f,g⟩:=h;by_cases e:p.1=k
  ·grind
  ·grind
def KV.put{kvs:List (κ×V)}{vs:List (κ×Value)}(r:KV kvs vs)(k:κ){y:V}{u:Value}(a:RelV y u):KV (putK kvs k y) (stored vs k u):=by
 unfold putK stored;rw[r.any k];by_cases e:(vs.any λb=>decide (b.1=k))=true
 ·rw[if_pos e,if_pos e];exact r.acR k a
 ·rw[if_neg e,if_neg e];exact Paired.snoc r ⟨rfl,a⟩
theorem KV.length{kvs:List (κ×V)}{vs:List (κ×Value)}(r:KV kvs vs):kvs.length=vs.length:=nC r
end
def oI{P:Program}{w:World}{k:bz}{u:Value}(r:RelV (kV k) u):(b9 P w).is k u=true:=by
 cases k with
 | inl i=>obtain⟨t,e⟩:=(show ∃t,u=Value.int i t from r);subst e;exact yH P w i t
 | inr x=>obtain⟨t,e⟩:=(show ∃t,u=Value.str x t from r);subst e;exact yI P w x t
theorem uJ{P:Program}{w:World}:∀{ks:List bz} {us:List Value},Vals (ks.map kV) us->ItemsAre (b9 P w) ks us
 | [],_,r=>by rw[nE]at r;cases r;exact .nil
 | k::ks,_,r=>by
  rw[aI]at r;cases r with
  | cons h t=>exact .cons (oI h) (uJ t)
section
variable {P:Program} {w:World} {H:Hp} {h:Heap} {a:Addr}
def Rb{u:HO}(ok:lG P w H h)(e:Rd H a u):fH P w H h a u:=e.ok ok
def Ea{kvs:List (bz×V)}(ok:lG P w H h)(e:Rd H a (.dK kvs)):kvs.length<=sizeLine/\(a==sysModules)=false/\∃vs,KV kvs vs/\h.DictOf (b9 P w) a vs :=
 show fH P w H h a (.dK kvs)from Rb ok e
def Jw{kvs:List (bz×V)}(ok:lG P w H h)(e:H a=some (.dK kvs)):kvs.length<=sizeLine/\(a==sysModules)=false/\∃vs,KV kvs vs/\h.DictOf (b9 P w) a vs:=Ea ok (.inl e)
end
section
variable {X:Cx} {ae:List (Addr×Obj)} {σ:St} {H:Hp} {s:Shared} {a b:Addr} {k:List bz} {v:V} {r:Value} {A:Around} {E:Value->Shared->Prop} {xs:List (List bz×Addr×Value)}
def key_is(I:Inv X ae σ H s)(e:gT X.K H a (k.map kV)):(tupleKind (b9 X.prog X.w)).is s.heap k a:=by
 obtain⟨c,r,⟨o,d,f,n,g⟩,_⟩:=I.tuple e;exact⟨o,c.toArray,n,d,f,g,by simpa using uJ r⟩
def uK(I:Inv X ae σ H s)(e:Rd H a (.dT xs))(hk:eU X.K H xs):xs.length<=sizeLine/\(a==sysModules)=false/\s.heap.DictOfH (tupleKind (b9 X.prog X.w)) a xs:=by
 obtain⟨z,y,o,c,d,f,g,h,i,j⟩:=(show fH X.prog X.w H s.heap a (.dT xs)from Rb I.hok e)
 exact⟨z,y,o,c,d,f,g,h,i,λx l=>key_is I (hk x l),j⟩
def Yc{Q:Value->Shared->Prop}(d:A.units+1<cLine)(I:Inv X ae σ H s)(e:Rd H a (.dT xs))(hk:eU X.K H xs)(f:gT X.K H b (k.map kV))(h:∀c,Inv X ae σ H c->Q (.bool (atKey xs k).isSome) c) :
  wpAny (model X.prog X.w) A (compareOp .In (.ref b) (.ref a)) Q E s:=by
 obtain⟨_,hd,g⟩:=uK I e hk;exact wpAny_in_heap (qk d) (key_is I f) hd g (h _ (I.tok _))
def Yd{Q:Value->Shared->Prop}(d:A.units+1<cLine)(I:Inv X ae σ H s)(e:Rd H a (.dT xs))(hk:eU X.K H xs)(f:gT X.K H b (k.map kV)) (h:∀c,Inv X ae σ H c->Q (.bool (!(atKey xs k).isSome)) c) :
  wpAny (model X.prog X.w) A (compareOp .NotIn (.ref b) (.ref a)) Q E s:=by
 obtain⟨_,hd,g⟩:=uK I e hk;exact wpAny_notIn_heap (qk d) (key_is I f) hd g (h _ (I.tok _))
def Ye{Q:Value->Shared->Prop}{p:Addr×Value}(d:A.units+1<cLine)(I:Inv X ae σ H s)(e:Rd H a (.dT xs))(hk:eU X.K H xs)(f:gT X.K H b (k.map kV))(hp:atKey xs k=some p)(h:∀c,Inv X ae σ H c->Q p.2 c) :
  wpAny (model X.prog X.w) A (getItem (.ref a) (.ref b)) Q E s:=by
 obtain⟨_,hd,g⟩:=uK I e hk;exact wpAny_getItem_heap (qk d) (key_is I f) g hp (h _ (I.tok _))
def Ct{c:Type} [DecidableEq c] (xs:List (c×Addr×Value)) (k:c) (a:Addr) (v:Value):(storedH xs k a v).length<=xs.length+1:=by
 unfold storedH;split
 ·grind
 ·grind
def T4{Q:Unit->Shared->Prop}(g:A.units+1<cLine)(I:Inv X ae σ H s)(e:H a=some (.dT xs))(hk:eU X.K H xs)(i:gT X.K H b (k.map kV))(j:xs.length<sizeLine)
  (h:∀d,Inv X ae σ (cx H a (.dT (storedH xs k b r))) d->Q () d):wpAny (model X.prog X.w) A (setItem (.ref a) (.ref b) r) Q E s:=by
 obtain⟨_,hd,l⟩:=uK I (.inl e) hk;refine wpAny_setItem_heap (hsz:=nG j) (qk g) (key_is I i) l λD m o=>h _ ?_
 obtain⟨q,p,t,f,u,y,B,_,C⟩:=m;exact I.write (x:=a) (e:=a) (by rw[e];exact True.intro) (.inl rfl) (λc J hc z=>(o.2 c hc).trans z) ⟨q,f⟩ ⟨(by have:=Ct xs k b r;lia),hd,q,p,t,f,u,y,B,C⟩
def qU(I:Inv X ae σ H s):sysModules<s.heap.objs.size:=nH (by decide) (show mainGlobals<s.heap.objs.size from(I.mod.glob.keeps I.bk).lt)
def Rc(o:HO):TE:=λ_ H Q=>∀p,H p=none->Q (.ref p) (cx H p o)
def N3{pos:Pos}:PE X (.Dict [] [] pos) (Rc (.dT [])):=λae s σ H Q I h =>
 wpAny_Dict_empty ⟨.ref s.heap.objs.size,_,I.laid (a:=s.heap.objs.size) (o:=.dT []) (t':=s.toks) (λ_ _ q=>bg _ q) (aA _)
  ⟨fj _,eR.mpr (dt (bH (qU I))),_,#[],0,cO _ rfl,⟨rfl,rfl,rfl⟩,rfl,rfl,jO⟩,rfl,h _ (I.hok.fresh (aA _))⟩
def Gk{c:Type} [DecidableEq c] (xs:List (c×Addr×Value)) (k:c):(atKey xs k).isSome=(xs.map (·.1)).any λj=>decide (j=k):=by
 unfold atKey;rw[BM,List.any_map,List.isSome_find?];rfl
end
noncomputable def Rf(CX:HV)(P:Program)(w:World)(K:W.Frag)(mg:Str->Option Value)(base:Heap)(N:List Str)(qual:Str)(a:Scope)(f:Addr)(cd:Value)(cl:List (Str×Addr))(A:Around)(ay:List Env)(s:Shared)(H:Hp)(E:XK):Cx where
 prog:=P
 w:=w
 K:=K
 mg:=mg
 base:=base
 A:=A.deeper (W.envX qual a s.heap.objs.size f cd cl)
 N:=N
 s₀:=s
 aa:=H
 env:=W.envX qual a s.heap.objs.size f cd cl
 ay:=ay
 stack:=W.envX qual a s.heap.objs.size f cd cl::ay
 ex:=[]
 calm:=true
 fn:=λ_=>false
 pn:=[]
 xe:=λe c=>wpAny (model P w) (A.deeper (W.envX qual a s.heap.objs.size f cd cl)) (leaving (W.envX qual a s.heap.objs.size f cd cl) e) (λ_ b=>CX ay H s E e b) (λd b=>CX ay H s E d b) c
structure lJ (h:Heap) (H:Hp) (scope:Scope) (cl:List (Str×Addr)) (N:List Str) (τ:St):Prop where
 inj:∀x y c,cl.lookup x=some c->cl.lookup y=some c->x=y
 has:∀x,scope.names.lookup x=some .free->∃c,cl.lookup x=some c
 cell:∀x c,cl.lookup x=some c->∃v,h.IsCell c v
 free:∀x c,cl.lookup x=some c->H c=none
 val:∀(i:Nat) (x:Str) (v:V),N[i]?=some x->τ[i]?=some (some v)->∃c u,scope.names.lookup x=some .free/\cl.lookup x=some c/\h.IsCell c (some u)/\RelV v u
 len:τ.length=N.length
def lJ.un(C:lJ h H scope cl N τ)(u:Un fs [] H H' h h'):lJ h' H' scope cl N τ where
 inj:=C.inj
 has:=C.has
 cell:=λx c e=>by
  obtain⟨v,o,ho,hd⟩:=C.cell x c e;obtain⟨a,q⟩:=u.any ho (C.free x c e) (by simp)
  exact⟨v,_,q,hd⟩
 free:=λx c e=>by
  obtain⟨v,o,ho,hd⟩:=C.cell x c e;exact u.free c o ho (C.free x c e) (by simp)
 val:=λi x v e1 b=>by
  obtain⟨c,w,k,e,⟨o,ho,hd⟩,r⟩:=C.val i x v e1 b;obtain⟨a,q⟩:=u.any ho (C.free x c e) (by simp)
  exact⟨c,w,k,e,⟨_,q,hd⟩,r⟩
 len:=C.len
def N4{K:W.Frag}
  (hk:scope.kind=.function) (t:scope.names.lookup x=some .local) (B:∀y∈scope.names,y.2≠.cell) (hd:A.handled=none) (a:Env0 P w K l base A m s H) (r:RelV v u) (C:lJ s.heap H scope cl N q)
  (D:h1.Ns s.heap.objs.size λy=>[(x,u)].reverse.lookup y) (d:∀b o,s.heap.get? b=some o->h1.get? b=some o) :
  Inv (Rf CX P w K l base (x::N) qual scope f cd cl A m s H E) [] (some v::q) H {s with heap:=h1,toks:=tk}:=by
 have g:∀b:Addr,b∉(Rf CX P w K l base (x::N) qual scope f cd cl A m s H E).ex:=λb z=>absurd (show b∈([]:List Addr)from z) (by simp)
 refine⟨⟨a.mod,hk,rfl,rfl,aA _,C.inj,λy j=>?_,λy c h _=>(by cases h),λ_=>hd,Around.frames_deeper a.frames,.inr ⟨rfl,rfl⟩,λb z=>absurd z (g b),a.bs,a.bsz,λb _ _=>g b,λb z=>absurd z (g b),a.funs,a.frf,a.tabs⟩,
  rfl,a.bare,Un.kept d,⟨_,D,λi y z h1 Q R=>?_⟩,λy c h=>?_,a.hok.fresh (aA _),λy c h=>C.free y c h,λp hp=>absurd (show p∈([]:List (Addr×Obj))from hp) (by simp),a.hok.kept d,?_⟩
 ·have j:scope.names.lookup y=some .cell\/scope.names.lookup y=some .free:=j;rcases j with j | j
  ·exact absurd rfl (B _ (d8 j))
  ·exact C.has y j
 ·cases i with
  | zero =>
   have e1:x=y:=cj (h1);have I:v=z:=by grind
   subst e1 I;exact⟨u,r,.inl ⟨t,by simp⟩⟩
  | succ i =>
   obtain⟨c,J,k,e,L,M⟩:=C.val i y z (by simpa using (show(x::N)[i+1]?=some y from h1)) (by grind)
   exact⟨J,M,.inr ⟨.inr k,c,e,L.keeps d⟩⟩
 ·obtain⟨v,z⟩:=C.cell y c h;exact⟨v,z.keeps d⟩
 ·show(some v::q).length=(x::N).length;rw[aN,aN,C.len]
def N5{K:W.Frag}
  (ho:s.heap.get? f=some o) (B:o.data=.func (W.kla_fn name qual g body scope cl pm d D)) (L:s.heap.CodeRec d qual) (l:dH (k+1) A) (h:Env0 P w K M base A m s H)
  (R:bindArgs (W.kla_fn name qual g body scope cl pm d D) ⟨[u],[]⟩=pure [(x,u)]) (r:RelV v u) (hk:scope.kind=.function) (T:scope.isCoroutine=false) (X:scope.isGenerator=false) (Y:scope.names.lookup x=some .local) (p:∀y∈scope.names,y.2≠.cell)
  (C:lJ s.heap H scope cl N Z) (hbody:∃t,PE (Rf CX P w K M base (x::N) qual scope f d cl A m s H E) body t/\t (some v::Z) H Q) :
  codeAny (model P w) A (.call (.ref f) ⟨[u],[]⟩) (CR CX m P w H s Q E) s:=by
 have i:=h.mod.nolimit.keeps λb o e=>(h.bs b o e).1
 refine W.kla_callFunE l.depth ho B T X rfl L ?_;rw[R];refine au (wpAny_newFunctionEnv p (λy hy=>?_) (λa Ju c=>⟨i.fresh _ c,?_⟩) hk)
 ·grind
 ·obtain⟨t,ht,hq⟩:=hbody;have Yg:∀b o,s.heap.get? b=some o->a.get? b=some o:=λb o e=>c.extBut b o (bH (aY e)) (bg _ e)
  have I:=N4 (CX:=CX) (qual:=qual) (f:=f) (cd:=d) (E:=E) (tk:=s.toks+1) hk Y p l.hd h r C Ju Yg;refine W.kla_codeExpr (jc (ht [] _ _ H Q I hq) (λu' s' j=>?_) λe s' j=>j)
  obtain⟨v',H',J,rv,q⟩:=j;exact⟨v',H',J.os,J.bare,J.base,J.hok,rv,q⟩
def tQ{pos p:Pos}(l:List Value)(h:TriplesOk l)(e:codeAmong p (l++[rawInt pos.line,rawInt pos.col,c])=some d):codeAmong p l=some d\/d=c:=by
 fun_induction TriplesOk l with
 | case1 =>
  simp only[fK,codeAmong,rawInt]at e;split at e
  ·cases e;exact .inr rfl
  ·cases e
 | case2 a t b u x rest ih =>
  simp only[qu,codeAmong]at e ⊢;split at e
  ·rename_i hc;rw[if_pos hc];exact .inl e
  ·rename_i hc;rw[if_neg hc];exact ih h e
 | case3 l f g=>exact h.elim
def wC:HO:=.ext λ_=>True
def Cu(e:h.get? a=some o):fH P w H h a (.oC o wC):=⟨e,trivial,⟨o,e⟩,λ_ _ _ _=>trivial⟩
def yY(c:Str->Option Value)(a:Heap):Prop:=∃b o,c "__builtins__"=some (.ref b)/\b≠builtinsNs/\b≠mainGlobals/\a.get? b=some o/\o.cls=.type "module"/\o.dict=some builtinsNs/\o.data=.plain
def Jx(H:Hp)(f:Addr)(qual:Str)(params:Arguments)(b:Expr)(a:Scope)(cl:List (Str×Addr)):Prop :=
 ∃o u h d i c e j g t,H f=some (.oC o u)/\o.data=.func (W.kla_fn "<lambda>" qual params b a cl h d i)/\d=.ref c/\H c=some (.oC e j)/\e.data=.fields g/\g[1]?=some (.str qual t)
def acS(qual:Str)(params:Arguments)(c:Expr)(a:Scope)(cl:List (Str×Addr)):TE:=λ_ H Q=>∀f d,H f=none->cK H d->(∀b o,d b=some o->H b=some o\/H b=none)->Jx d f qual params c a cl->Q (.ref f) d
section
variable {X:Cx} {x:Str} {params:Arguments} {body:Expr} {scope:Scope} {lp:Pos} {cl:List (Str×Addr)} {c T:Addr}
def T8(hx:x∈du)(ht:W.tabIn X.K x=some (c,T))(hC:W.codeHdIn X.K c T=true)(Rg:X.env.code=.ref c)(Yh:X.env.qual++"<lambda>"=yK x)(hB:yY X.mg X.base)
  (acT:defaultsOf p X.env=([],[])) (D:closureFor scope X.env=pure cl):PE X (.Lambda p body scope lp) (acS (yK x) p body scope cl):=by
 intro ae s σ H Q I h;have r:=I.tabs x hx c T ht;obtain⟨ps,hP,i,Rh⟩:=(I.hok T _ r);have C:=W.codeHd_of_K I.qL hC;have hg:=I.mod.glob.keeps I.bk;obtain⟨bm,ob,b1,b2,b3,b4,b5⟩:=hB;have ne:∀{b:Addr} {o:Obj},X.base.get? b=some o->b≠T:=λ{b o} e z=>by
  have:=(I.bs b o e).2;rw[z,r]at this;cases this
 refine W.kla_eval acT ?_;rw[Yh];cases hc:codeAmong lp ps.toList with
 | some cv =>
  obtain⟨cc,E,uc,vs,t,rfl,k1,k2,k3⟩:=Rh lp cv hc;refine W.kla_makeFunctionHit D I.ok.glob hg Rg C hP i hc ⟨bm,ob,b1,b2,b3,ne b4,(I.bs _ _ b4).1,b5⟩ λHW f tk hk J=>?_
  have hn:=I.hok.fresh J;refine⟨.ref f.objs.size,cx H f.objs.size (.oC _ wC),I.laid (λb u e=>bg _ (hk b u e)) J (Cu (cO _ rfl)),rfl,h _ _ hn (λb u e=>by rw[aK (bU e hn)];exact e) (λb o e=>?_) ?_⟩
  ·by_cases B:b=f.objs.size
   ·grind
   ·rw[aK B]at e;exact .inl e
  ·exact⟨_,_,_,_,_,cc,E,uc,vs,t,aE,rfl,rfl,by rw[aK (bU k1 hn)];exact k1,k2,k3⟩
 | none =>
  refine W.kla_makeFunction D I.ok.glob hg Rg C hP i hc (by
   obtain⟨o,es,ep,e,_⟩:=I.mod.glob;exact ne e) ⟨bm,ob,b1,b2,b3,ne b4,(I.bs _ _ b4).1,b5⟩ λg HW f tk Cv MR fE acU L=>?_
  obtain⟨agC,E,vs,t,e2,hoc,hd,hv⟩:=acU;cases e2;have j:=I.hok.fresh MR;have M:=I.hok.fresh (bK MR (nG fE));have nfc:=v3 fE;have cT:g≠T:=λz=>by rw[z,r]at j;cases j
  have fT:f.objs.size≠T:=λz=>by rw[z,r]at M;cases M
  let k:HO:=.oC E wC
  let l:Hp:=cx H g k
  have hn1:l f.objs.size=none:=by show cx H g k _=_;rw[aK nfc];exact M
  let y:Obj:=W.kla_obj "<lambda>" (yK x) p body scope cl ((X.mg "__name__").getD .none) g HW
  let N:Hp:=cx l f.objs.size (.oC y wC)
  have m:cK H l:=λb u e=>by show cx H g k b=_;rw[aK (bU e j)];exact e
  have a:cK l N:=λb u e=>by show cx l _ _ b=_;rw[aK (bU e hn1)];exact e
  have keep:∀b o,b≠T->s.heap.get? b=some o->(f.push y).get? b=some o:=λb o B e=>bg _ (Cv b o B e)
  have nT:∀b,H b=none->b≠T:=λb n z=>by rw[z,r]at n;cases n
  have lt:∀b o,s.heap.get? b=some o->b<s.heap.objs.size:=λb o e=>aY e
  have hf2:∀b o,s.heap.get? b=some o->H b=none->N b=none:=λb o e n=>by
   show cx (cx H g k) _ _ b=none;have l1:=lt b o e;rw[aK (bH (b6 l1 (bK MR (nG fE)))),aK (bH (b6 l1 MR))];exact n
  have un:Un X.fs [] H N s.heap (f.push y):=⟨λb o e n _ _=>keep b o (nT b n) e,λb o e n _ _=>⟨o.slots,keep b o (nT b n) e⟩,λb o e n _=>hf2 b o e n,λb o e _=>by
    by_cases B:b=T
    ·subst B;exact⟨_,bg _ L⟩
    ·exact⟨o,keep b o B e⟩,λb xs e=>a _ _ (m _ _ e),λb o u e=>a _ _ (m _ _ e),λb q e=>a _ _ (m _ _ e)⟩
  have hok:lG X.prog X.w N (f.push y):=λb u e=>by
   by_cases R:b=f.objs.size
   ·subst R;have e:cx l f.objs.size (.oC y wC) f.objs.size=some u:=e;rw[aE]at e;cases e;exact Cu (cO _ rfl)
   ·have e:cx l f.objs.size (.oC y wC) b=some u:=e;rw[aK R]at e;by_cases Y:b=g
    ·subst Y;have e:cx H b k b=some u:=e;rw[aE]at e;cases e;exact Cu (bg _ hoc)
    ·have e:cx H g k b=some u:=e;rw[aK Y]at e;by_cases Z:b=T
     ·subst Z;rw[r]at e;cases e;refine⟨_,bg _ L,?_,λpos cv z=>?_⟩
      ·simpa using TriplesOk_snoc lp.line lp.col (.ref g) ps.toList i
      ·rcases tQ ps.toList i (by simpa using z)with z | z
       ·obtain⟨cc,oc',uc,wD,t',q1,q2,q3⟩:=Rh pos cv z;exact⟨cc,oc',uc,wD,t',q1,a _ _ (m _ _ q2),q3⟩
       ·exact⟨g,E,wC,vs,t,z,a _ _ (by show cx H g k g=_;exact aE),hd,hv⟩
     ·refine(I.hok b u e).we (λd v tK q=>keep d v ?_ q) (λd q=>a _ _ (m _ _ q)) (λd xs q=>a _ _ (m _ _ q)) λd ob' v q=>a _ _ (m _ _ q)
      rcases tK with rfl | tK
      ·exact Z
      ·rintro rfl
       rw[r]at tK;cases tK
  refine⟨.ref f.objs.size,N,I.un un hok,rfl,h _ _ M (m.trans a) (λb o e=>?_) ?_⟩
  ·by_cases R:b=f.objs.size
   ·rw[R];exact .inr M
   ·have e:cx l f.objs.size (.oC y wC) b=some o:=e;rw[aK R]at e;by_cases Y:b=g
    ·rw[Y];exact .inr j
    ·have e:cx H g k b=some o:=e;rw[aK Y]at e;exact .inl e
  ·exact⟨_,_,_,_,_,g,E,wC,vs,t,(aE),rfl,rfl,a _ _ (aE),hd,hv⟩
end
def Yl{K:W.Frag}{st:Stmt}(L:BZ K x qual st f fd)(S:dD N ps (aw st))
  (p:dH (k+1) A) (h:Env0 P w K i base A c s H) (M:BindsTo s fd args (ps.zip us)) (r:Vals vs us) (R:vs.length=ps.length)
  (hbody:∀d:Value,∃t,PSs (eZ CX P w K i base N qual (aw st) f d A c s H E) (dm st) t/\t {nx:=λ_ H'=>Q .bj H',rt:=Q} (hJ N vs) H) :
  codeAny (model P w) A (.call (.ref f) args) (CR CX c P w H s Q E) s:=by
 obtain⟨oc,od,kV,T,pm,an,d,ct,yr,rfl,X,Y⟩:=L.ex;have g:∀b o,base.get? b=some o->s.heap.get? b=some o:=λb o e=>(h.bs b o e).1
 have B:=h.mod.kin.keeps g;have Z:∀y∈ps.zip us,(aw st).names.lookup y.1=some .local\/((aw st).names.lookup y.1=some .cell/\((cellsFrom (s.heap.objs.size+1) (aw st).names []).lookup y.1).isSome=true):=λy hy=>by
  rcases S.par y.1 (vU hy).1 with q | q
  ·exact .inl q
  ·exact .inr ⟨q,W.cellsFrom_some _ _ _ (.inl q)⟩
 refine codeAny_call_function p.depth (B _ _ X) rfl S.co S.gen rfl (W.codeRec_of B Y) (M _ _ _ _ (Iu S.kind Z λenv he C D=>?_))
 subst he;refine⟨(h.mod.nolimit.keeps g).keeps D.toInCall.keep,codeAny_func ?_⟩;obtain⟨t,ht,hq⟩:=hbody d;have I:Inv (eZ CX P w K i base N qual (aw st) f d A c s H E) [] (hJ N vs) H C:=uF S p.hd h R r D;refine jc (ht [] C (hJ N vs) H _ I hq) (λfl j a=>?_) λe j a=>a
 have kX:∀{l:St} {H':Hp} {v:V} {u:Value},Inv (eZ CX P w K i base N qual (aw st) f d A c s H E) [] l H' j->RelV v u->Q v H'->CE c P w H s Q u j:=λ{_ H' v _} J m q=>⟨v,H',J.os,J.bare,J.base,J.hok,m,q⟩
 cases fl with
 | ret u=>obtain⟨v,l,H',J,m,q⟩:=a;exact kX J m q
 | next=>obtain⟨l,H',J,q⟩:=a;exact kX (v:=V.bj) J rfl q
 | brk=>obtain⟨_,_,_,q⟩:=a;exact False.elim q
 | cont=>obtain⟨_,_,_,q⟩:=a;exact False.elim q
end L2
namespace L2.U
open PySem PySem.Spec PyProof.Rows
def nw{b:Sort u}(a:b):∃x,x=a:=⟨_,rfl⟩
noncomputable abbrev PV.lst (ps:List PV):PV:=.nd .lst ps
structure Gr (F F':Fz):Prop where
 s:cK F.F F'.F
 m:∀(n:Nat) (a:Addr),F.μ[n]?=some a->F'.μ[n]?=some a
def Gr.refl(F:Fz):Gr F F:=⟨cK.refl _,λ_ _ h=>h⟩
def Gr.trans(a:Gr F F1)(b:Gr F1 F2):Gr F F2:=⟨a.s.trans b.s,λn c h=>b.m n c (a.m n c h)⟩
def bt{K:W.Frag}(e:cK H H')(h:gT K H a xs):gT K H' a xs:=by
 rcases h with(h | ⟨o,h⟩) | h
 ·exact .inl (.inl (e _ _ h))
 ·exact .inl (.inr ⟨o,e _ _ h⟩)
 ·exact .inr h
def N6(e:cK H H')(h:Rd H a u):Rd H' a u:=h.imp (e _ _) (by rintro⟨o,q⟩;exact⟨o,e _ _ q⟩)
def yZ{K:W.Frag}(e:cK H H')(h:kW K H a xs):kW K H' a xs:=h.imp (N6 e) id
def _root_.L2.kW.of{K:W.Frag}(h:H a=some (.lst xs)):kW K H a xs:=.inl (.inl h)
section
variable {K:W.Frag} {F F':Fz}
def kC.to(h:kC K G H a x k vs)(g:cK G l)(e:∀o,H a=some o->H' a=some o)(m:y=true->x=true):kC K l H' a y k vs:=by
 have d:∀{f:List (List bz×Addr×Value)},eU K G f->eU K l f:=λhk z p=>bt g (hk z p)
 match k,h with
 | .ao,⟨c,b⟩ =>
  refine⟨?_,?_⟩
  ·grind
  ·rcases b with(b | ⟨o,b⟩) | b
   ·exact .inl (.inl (e _ b))
   ·exact .inl (.inr ⟨o,e _ b⟩)
   ·exact .inr b
 | .lst,h =>
  cases y with
  | true=>rw[m rfl]at h;exact e _ h
  | false =>
   cases x with
   | true=>exact kW.of (e _ h)
   | false =>
    rcases(h)with(h | ⟨o,h⟩) | h
    ·exact .inl (.inl (e _ h))
    ·exact .inl (.inr ⟨o,e _ h⟩)
    ·exact .inr h
 | .oA C ns,⟨q,r,fs,c,b,i,t,u⟩=>exact⟨q,r,fs,c,b,i,e _ t,u⟩
 | .fu false ks,⟨j,c,b⟩=>exact⟨j,e _ c,b⟩
 | .fu true ks,⟨f,c,b,i⟩=>exact⟨f,e _ c,d b,i⟩
mutual
theorem bN.mono(e:Gr F F'):∀{p:PV} {v:V},bN K F p v->bN K F' p v
 | .bj,_,h=>by simpa only[bN]using h
 | .bl _,_,h=>by simpa only[bN]using h
 | .int _,_,h=>by simpa only[bN]using h
 | .str _,_,h=>by simpa only[bN]using h
 | .fn _,_,h=>by simpa only[bN]using h
 | .ref n,_,h=>by
  simp only[bN]at h ⊢;obtain⟨a,b,c⟩:=h;exact⟨a,e.m _ _ b,c⟩
 | .nd k g,_,h=>by
  simp only[bN]at h ⊢;obtain⟨a,d,b,c,f⟩:=h;exact⟨a,d,b,c.to e.s (λo q=>e.s _ _ q) id,aB.mono e f⟩
theorem aB.mono(e:Gr F F'):∀{ps:List PV} {vs:List V},aB K F ps vs->aB K F' ps vs
 | [],_,h=>by simpa only[aB]using h
 | _::_,_,h=>by
  simp only[aB]at h ⊢;obtain⟨v,r,a,b,c⟩:=h;exact⟨v,r,a,b.mono e,aB.mono e c⟩
end
def aB.cy(h:aB K F (p::ps) vs):∃v r,vs=v::r/\bN K F p v/\aB K F ps r:=by
 simpa only[aB]using h
def aB.cW(h:aB K F [] vs):vs=[]:=by simpa only[aB]using h
theorem qV:∀{ps:List PV} {vs:List V},aB K F ps vs↔Paired (bN K F) ps vs
 | [],vs=>⟨λh=>by rw[h.cW];exact .nil,λh=>by cases h;exact .nil⟩
 | p::ps,vs=>⟨λh=>by obtain⟨v,r,rfl,a,b⟩:=h.cy;exact .cons a (qV.mp b),λh=>by cases h with | cons a b=>exact .cons a (qV.mpr b)⟩
def aB.length(h:aB K F ps vs):ps.length=vs.length:=nC (qV.mp h)
theorem aB.append:∀{ps a:List PV} {vs ws:List V},aB K F ps vs->aB K F a ws->aB K F (ps++a) (vs++ws)
 | [],_,_,_,h,t=>by rw[h.cW];exact t
 | _::_,_,_,_,h,t=>by
  obtain⟨v,r,rfl,b,c⟩:=h.cy;exact .cons b (c.append t)
theorem aB.get:∀{ps:List PV} {vs:List V} {i:Nat} {p:PV},aB K F ps vs->ps[i]?=some p->∃v,vs[i]?=some v/\bN K F p v
 | [],_,_,_,_,e=>by cases e
 | _::_,_,0,_,h,e=>by
  obtain⟨v,r,rfl,a,_⟩:=h.cy;cases e;exact⟨v,rfl,a⟩
 | _::_,_,_+1,_,h,e=>by
  obtain⟨v,r,rfl,_,b⟩:=h.cy;exact b.get e
theorem aB.take:∀{ps:List PV} {vs:List V} (n:Nat),aB K F ps vs->aB K F (ps.take n) (vs.take n)
 | _,_,0,_=>by simp only[List.take_zero];exact .nil
 | [],_,_+1,h=>by rw[h.cW];simp only[List.take_nil];exact .nil
 | _::_,_,n+1,h=>by
  obtain⟨v,r,rfl,a,b⟩:=h.cy;exact .cons a (b.take n)
theorem aB.drop:∀{ps:List PV} {vs:List V} (n:Nat),aB K F ps vs->aB K F (ps.drop n) (vs.drop n)
 | _,_,0,h=>h
 | [],_,_+1,h=>by rw[h.cW];simp only[List.drop_nil];exact .nil
 | _::_,_,n+1,h=>by
  obtain⟨v,r,rfl,_,a⟩:=h.cy;exact a.drop n
theorem aB.set(r:bN K F p v):∀{ps:List PV} {vs:List V} (i:Nat),aB K F ps vs->aB K F (ps.set i p) (vs.set i v)
 | [],_,_,h=>by rw[h.cW];exact .nil
 | _::_,_,0,h=>by
  obtain⟨v,b,rfl,_,a⟩:=h.cy;exact .cons r a
 | _::_,_,i+1,h=>by
  obtain⟨v,b,rfl,c,a⟩:=h.cy;exact .cons c (a.set r i)
theorem aB.reverse:∀{ps:List PV} {vs:List V},aB K F ps vs->aB K F ps.reverse vs.reverse
 | [],_,h=>by rw[h.cW];exact .nil
 | _::_,_,h=>by
  obtain⟨v,r,rfl,a,b⟩:=h.cy;rw[vL,vL];exact b.reverse.append (.cons a .nil)
def c8:bN K F (.ref n) v↔∃a,F.μ[n]?=some a/\v=.ref a:=by simp only[bN]
def qW:bN K F (.fn x) v↔∃a,v=.ref a/\W.nsIn K mainGlobals x=some (some (.ref a)):=by simp only[bN]
def gu:bN K F (.lst ps) v↔∃a vs,v=.ref a/\kW K F.F a vs/\aB K F ps vs:=je
end
structure ak where
 k:Kd
 ps:List PV
structure cz where
 ρ:List (Option PV)
 h:List ak
noncomputable def live(c:ak):Bool:=match c.k with | .ao=>false | _=>true
structure kq (K:W.Frag) (aa:Hp) (ab F:Fz) (h:List ak) (H:Hp):Prop where
 sub:cK F.F H
 keep:cK aa H
 base:Gr ab F
 fresh:∀a o,F.F a=some o->ab.F a=some o\/aa a=none
 new:∀(n:Nat) (a:Addr),F.μ[n]?=some a->aa a=none/\∃o,H a=some o
 hl:h.length=F.μ.length
 nd:F.μ.Nodup
 cell:∀(n:Nat) (c:ak) (a:Addr),h[n]?=some c->F.μ[n]?=some a->live c=true->F.F a=none/\∃vs,kC K F.F H a true c.k vs/\aB K F c.ps vs
structure Lc (K:W.Frag) (F:Fz) (ρ:List (Option PV)) (σ:St):Prop where
 av:∀(i:Nat) (p:PV),ρ[i]?=some (some p)->∃v,σ[i]?=some (some v)/\bN K F p v
 len:ρ.length=σ.length
structure Rep (K:W.Frag) (aa:Hp) (ab F:Fz) (st:cz) (σ:St) (H:Hp):Prop where
 c:kq K aa ab F st.h H
 l:Lc K F st.ρ σ
def eF(h:H p=none):cK H (cx H p o):=λb u q=>by rw[aK (bU q h)];exact q
section
variable {K:W.Frag} {aa H H':Hp} {ab F F':Fz} {h:List ak} {st:cz} {σ:St}
def Lc.mono(L:Lc K F ρ σ)(e:Gr F F'):Lc K F' ρ σ:=⟨λi p z=>let ⟨v,a,b⟩:=L.av i p z;⟨v,a,b.mono e⟩,L.len⟩
def kq.after(R:kq K aa ab F h H)(e:cK H H')(f:cK F.F F'.F)(m:F'.μ=F.μ)(s:cK F'.F H')(n:∀a o,F'.F a=some o->F.F a=some o\/H a=none):kq K aa ab F' h H' where
 sub:=s
 keep:=R.keep.trans e
 base:=R.base.trans ⟨f,λ_ _ q=>by rw[m];exact q⟩
 fresh:=λa o q=>by
  rcases n a o q with z | z
  ·exact R.fresh a o z
  ·exact .inr (R.keep.free z)
 new:=λn a q=>by rw[m]at q;obtain⟨b,o,d⟩:=R.new n a q;exact⟨b,o,e _ _ d⟩
 hl:=by rw[m];exact R.hl
 nd:=by rw[m];exact R.nd
 cell:=λi c a hc g hk=>by
  rw[m]at g;obtain⟨b,j,d,k⟩:=R.cell i c a hc g hk;refine⟨?_,j,d.to f (λo q=>e _ _ q) id,k.mono ⟨f,λ_ _ q=>by rw[m];exact q⟩⟩
  obtain⟨_,o,ho⟩:=R.new i a g;cases q:F'.F a with
  | none=>rfl
  | some u =>
   rcases n a u q with z | z
   ·rw[b]at z;cases z
   ·rw[ho]at z;cases z
def Rep.after(R:Rep K aa ab F st σ H)(e:cK H H')(f:cK F.F F'.F)(m:F'.μ=F.μ)(s:cK F'.F H')(n:∀a o,F'.F a=some o->F.F a=some o\/H a=none):Rep K aa ab F' st σ H' :=
 ⟨R.c.after e f m s n,R.l.mono ⟨f,λ_ _ q=>by grind⟩⟩
def Rep.sub(R:Rep K aa ab F st σ H):cK F.F H:=R.c.sub
def Rep.laid(R:Rep K aa ab F st σ H)(o:HO)(hp:H p=none):Rep K aa ab ⟨cx F.F p o,F.μ⟩ st σ (cx H p o)/\Gr F ⟨cx F.F p o,F.μ⟩:=by
 have d:=R.sub.free hp;refine⟨R.after (eF hp) (eF d) rfl (λb u q=>?_) (λb u q=>?_),eF d,λ_ _ q=>q⟩
 ·by_cases a:b=p
  ·subst a;rw[show(Fz.mk (cx F.F b o) F.μ).F b=cx F.F b o b from rfl,aE]at q;rw[aE];exact q
  ·rw[show(Fz.mk (cx F.F p o) F.μ).F b=cx F.F p o b from rfl,aK a]at q;rw[aK a];exact R.sub _ _ q
 ·by_cases a:b=p
  ·grind
  ·rw[show(Fz.mk (cx F.F p o) F.μ).F b=cx F.F p o b from rfl,aK a]at q;exact .inl q
def kq.alloc(R:kq K aa ab F h H)(hp:H p=none)(f:kC K F.F (cx H p o) p true c.k vs)(e:aB K F c.ps vs) :
  kq K aa ab ⟨F.F,F.μ++[p]⟩ (h++[c]) (cx H p o)/\Gr F ⟨F.F,F.μ++[p]⟩/\(F.μ++[p])[h.length]?=some p:=by
 have g:Gr F ⟨F.F,F.μ++[p]⟩:=⟨cK.refl _,λn a q=>by
  grind⟩
 have m:∀n a,(F.μ++[p])[n]?=some a->F.μ[n]?=some a\/n=F.μ.length/\a=p:=λn a q=>by
  grind
 have r:∀n a,F.μ[n]?=some a->a≠p:=λn a q z=>by
  subst z;obtain⟨_,o,ho⟩:=R.new n a q;rw[hp]at ho;cases ho
 refine⟨⟨λb u q=>by rw[aK (bU (R.sub _ _ q) hp)];exact R.sub _ _ q,R.keep.trans (eF hp),R.base.trans g,R.fresh,λn a q=>?_,by simp[R.hl],?_,λn d a hd i hk=>?_⟩,g,by rw[R.hl];simp⟩
 ·rcases m n a q with z | ⟨_,rfl⟩
  ·obtain⟨j,u,l⟩:=R.new n a z;exact⟨j,u,eF hp _ _ l⟩
  ·exact⟨R.keep.free hp,o,aE⟩
 ·rw[qm];refine⟨R.nd,by simp,λa i b e z=>?_⟩
  obtain⟨n,f⟩:=qh.mp i;rw[ax]at e;exact r n a f (z.trans e)
 ·rcases m n a i with z | ⟨rfl,rfl⟩
  ·rw[cU (by rw[R.hl];exact(bu.mp z).1)]at hd
   obtain⟨j,ws,l,t⟩:=R.cell n d a hd z hk;exact⟨j,ws,l.to (cK.refl _) (λu q=>eF hp _ _ q) id,t.mono g⟩
  ·rw[<-R.hl,iX (aA _),qB]at hd;cases hd;exact⟨R.sub.free hp,vs,f,e.mono g⟩
def kq.write(R:kq K aa ab F h H)(hc:h[n]?=some c)(r:live c=true)(f:F.μ[n]?=some a)(w:kC K F.F (cx H a o) a true d.k vs)(g:aB K F d.ps vs) :
  kq K aa ab F (h.set n d) (cx H a o):=by
 obtain⟨hF,_⟩:=R.cell n c a hc f r;refine⟨λb u q=>by rw[aK (λz=>by grind)];exact R.sub _ _ q,λb u q=>?_,R.base,R.fresh,λm b q=>?_,by rw[lA];exact R.hl,R.nd,λm e b he l hk=>?_⟩
 ·rw[aK (λz=>by subst z;rw[(R.new n b f).1]at q;cases q)];exact R.keep _ _ q
 ·obtain⟨i,u,j⟩:=R.new m b q;refine⟨i,?_⟩;by_cases g:b=a
  ·subst g;exact⟨o,aE⟩
  ·exact⟨u,by rw[aK g];exact j⟩
 ·by_cases p:n=m
  ·grind
  ·rw[c9 p]at he;obtain⟨i,ws,j,t⟩:=R.cell m e b he l hk;have ne:b≠a:=λz=>by
    subst z;obtain⟨x,e1⟩:=bu.mp l;obtain⟨y,v⟩:=bu.mp f;exact p ((qy R.nd).mp (v.trans e1.symm))
   exact⟨i,ws,j.to (cK.refl _) (λu q=>by rw[aK ne];exact q) id,t⟩
end
def _root_.L2.PE.imp(h:PE X e t)(b:∀a H Q,t' a H Q->t a H Q):PE X e t':=λc s a H Q I hw=>h c s a H Q I (b _ _ _ hw)
def _root_.L2.PT.imp(h:PT X e t)(b:∀a H Q,t' a H Q->t a H Q):PT X e t':=λc s a H Q I hw=>h c s a H Q I (b _ _ _ hw)
def _root_.L2.PW.imp(h:PW X e t)(b:∀a H Q,t' a H Q->t a H Q):PW X e t':=λw c s a H Q I hw=>h w c s a H Q I (b _ _ _ hw)
def _root_.L2.PA.imp(h:PA X e t)(b:∀a H Q,t' a H Q->t a H Q):PA X e t':=λpos c s a H Q I hw=>h pos c s a H Q I (b _ _ _ hw)
def _root_.L2.PS.imp{st:Stmt}(h:PS X st t)(b:∀D a H,t' D a H->t D a H):PS X st t':=λc s a H D I hw=>h c s a H D I (b _ _ _ hw)
def _root_.L2.PSs.imp{st:List Stmt}(h:PSs X st t)(b:∀D a H,t' D a H->t D a H):PSs X st t':=λc s a H D I hw=>h c s a H D I (b _ _ _ hw)
def _root_.L2.PG.imp(h:PG X e t)(b:∀v a H Q,t' v a H Q->t v a H Q):PG X e t':=λc s a H v u Q I r hw=>h c s a H v u Q I r (b _ _ _ _ hw)
def _root_.L2.PGs.imp(h:PGs X e t)(b:∀v a H Q,t' v a H Q->t v a H Q):PGs X e t':=λc s a H v u Q I r hw=>h c s a H v u Q I r (b _ _ _ _ hw)
def _root_.L2.PI.imp(h:PI X b e t)(c:∀a H Q,t' a H Q->t a H Q):PI X b e t':=λd s a H R I hw=>h d s a H R I (c _ _ _ hw)
inductive Rs (α:Type) where
 | ok (a:α) | ex (m:Bool) (C:Str)
abbrev Gx(a:Type):=cz->Option (Rs a×cz)
noncomputable def Yo{b c:Type}(k:b->Gx c):Rs b×cz->Option (Rs c×cz)
 | (.ok a,st)=>k a st
 | (.ex m C,st)=>some (.ex m C,st)
def bnd{a b:Type}(f:Gx a)(k:a->Gx b):Gx b:=λc=>(f c).bind (Yo k)
noncomputable def aW{b:Type}(a:b):Gx b:=λc=>some (.ok a,c)
noncomputable def hp{b:Type}(g:List ak->Option b):Gx b:=λc=>(g c.h).map λa=>(.ok a,c)
noncomputable def jS{b:Type}(o:Option b):Gx b:=λc=>o.map λa=>(.ok a,c)
def Dm(H H':Hp):Prop:=∀b o,H b=some o->∃a,H' b=some a
def iH(P:Program)(w:World):HV:=λh H s E e c=>∃a d i B f,e=.ref a/\c.os=s.os/\AllBare c.gens/\Un (nK h) [] H f s.heap c.heap/\lG P w f c.heap/\Dm H f/\E d none f /\
 Heap.FlyingW B h a d i c.heap/\(∀b o,f b=some o->∃g,B.get? b=some g)/\∀b g,s.heap.get? b=some g->H b=none->b∉nK h->B.get? b=some g
def y0:Cm (iH P w) X E0:=(by rintro _ _ _ _ _ _ _ ⟨_,_,_,_,_,_,_,_,_,_,_,h,_⟩;exact h.elim)
def Jy(X:Cx)(g:Hp)(h F:Fz)(C:Str)(st:cz):Bool->Prop
 | true=>∀c d i f s j a b o,Rep X.K g h c st d i->Gr F c->Inv X f d i s->ClsAt X.K C b->Heap.MadeExcOf s.heap j a b o->X.xe (.ref a) {s with heap:=j}
 | false=>∀d f k l e m,Inv X f d k l->iH X.prog X.w X.stack k l (λb _ p=>ClsAt X.K C b/\∃c,Rep X.K g h c st d p/\Gr F c) e m->X.xe e m
section
variable {X:Cx} {aa H:Hp} {ab F F1:Fz} {st bf:cz} {σ:St} {α β γ δ:Type}
def Jy.mono(h:Jy X aa ab F C st m)(s:Gr F F1):Jy X aa ab F1 C st m:=by
 cases m with
 | true=>exact λd f g i j k a b l R z=>h d f g i j k a b l R (s.trans z)
 | false =>
  rintro f i H1 j e o I ⟨a,b,p,B,g,k,q,r,t,u,v,⟨c,d,R,z⟩,w⟩
  exact h f i H1 j e o I ⟨a,b,p,B,g,k,q,r,t,u,v,⟨c,d,R,s.trans z⟩,w⟩
def Jz(X:Cx)(aa:Hp)(ab F:Fz)(P:α->cz->Prop):Rs α×cz->Prop
 | (.ok a,st)=>P a st
 | (.ex m C,st)=>Jy X aa ab F C st m
def At(X:Cx)(aa:Hp)(ab F:Fz)(st:cz)(f:Gx α)(P:α->cz->Prop):Prop:=∃r,f st=some r/\Jz X aa ab F P r
def Jz.imp(h:Jz X aa ab F P r)(g:Gr F F1)(i:∀a b,P a b->c a b):Jz X aa ab F1 c r:=by
 match r,h with
 | (.ok a,st),h=>exact i a st h
 | (.ex m C,st),h=>exact Jy.mono h g
def At.imp(h:At X aa ab F st f P)(g:Gr F F1)(i:∀a b,P a b->c a b):At X aa ab F1 st f c :=
 let ⟨r,d,e⟩:=h;⟨r,d,e.imp g i⟩
def aR(h:o.bind f=some b):∃a,o=some a/\f a=some b:=by
 cases o with
 | none=>cases h
 | some a=>exact⟨a,rfl,h⟩
def br(h:o.map f=some b):∃a,o=some a/\f a=b:=by
 simp_all
def At.bnd(h:At X aa ab F st (bnd f k) P):At X aa ab F st f (λa bf=>At X aa ab F bf (k a) P):=by
 obtain⟨r,d,c⟩:=h;obtain⟨q,e1,b⟩:=aR d;refine⟨q,e1,?_⟩
 match q,b with
 | (.ok a,s1),b=>exact⟨r,b,c⟩
 | (.ex m C,s1),b=>cases b;exact c
def At.aW(h:At X aa ab F st (aW a) P):P a st:=by
 obtain⟨r,b,c⟩:=h;cases b;exact c
def At.hp(h:At X aa ab F st (hp g) P):∃a,g st.h=some a/\P a st:=by
 obtain⟨r,b,c⟩:=h;obtain⟨a,e1,d⟩:=br b;subst d;exact⟨a,e1,c⟩
def At.jS(h:At X aa ab F st (jS g) P):∃a,g=some a/\P a st:=by
 obtain⟨r,b,c⟩:=h;obtain⟨a,e1,d⟩:=br b;subst d;exact⟨a,e1,c⟩
def Tx(X:Cx)(aa:Hp)(ab:Fz)(e:Fz->α->β->Prop)(F:Fz)(st:cz)(f:Gx α)(σ:St)(Q:β->Hp->Prop):Prop :=
 At X aa ab F st f λa g=>∀b d c,Rep X.K aa ab c g σ d->Gr F c->e c a b->Q b d
def tX(X:Cx)(aa:Hp)(ab:Fz)(a:Fz->α->β->Prop)(f:Gx α):St->Hp->(β->Hp->Prop)->Prop:=λσ H Q=>∃F st,Rep X.K aa ab F st σ H/\Tx X aa ab a F st f σ Q
def Tx.mono(h:Tx X aa ab c F st f σ Q)(g:Gr F F1)(i:∀b H',Q b H'->d b H'):Tx X aa ab c F1 st f σ d :=
 At.imp h g λa j q b H' e R s r=>i _ _ (q b H' e R (g.trans s) r)
def Tx.bnd(h:Tx X aa ab d F st (bnd f k) σ Q)
  (i:∀a b F1 bf c,Rep X.K aa ab F1 bf σ c->Gr F F1->g F1 a b->Tx X aa ab d F1 bf (k a) σ Q->j b c):Tx X aa ab g F st f σ j :=
 At.imp (At.bnd h) (Gr.refl F) λa bf q b c F1 l e m=>i a b F1 bf c l e m (Tx.mono (q) e λ_ _ z=>z)
def Tx.aW(h:Tx X aa ab c F st (aW a) σ Q):∀b H' F',Rep X.K aa ab F' st σ H'->Gr F F'->c F' a b->Q b H':=At.aW h
def Tx.hp(h:Tx X aa ab c F st (hp g) σ Q):∃a,g st.h=some a/\∀b H' F',Rep X.K aa ab F' st σ H'->Gr F F'->c F' a b->Q b H':=At.hp h
def Tx.jS(h:Tx X aa ab c F st (jS g) σ Q):∃a,g=some a/\∀b H' F',Rep X.K aa ab F' st σ H'->Gr F F'->c F' a b->Q b H':=At.jS h
end
abbrev rB:Fz->Bool->Bool->Prop:=λ_ a b=>a=b
abbrev tE(X:Cx)(a:Hp)(b:Fz)(f:Gx PV):TE:=tX X a b (bN X.K) f
abbrev tT(X:Cx)(a:Hp)(b:Fz)(f:Gx Bool):TT:=tX X a b rB f
abbrev tA(X:Cx)(a:Hp)(b:Fz)(f:Gx (List PV)):TA:=tX X a b (aB X.K) f
section
variable {X:Cx} {aa:Hp} {ab:Fz} {a b c e:Expr} {es rest:List Expr} {fa fb fc:Gx PV} {ga gb:Gx Bool} {ts:Gx (List PV)} {pos:Pos}
noncomputable def rd(i:Nat):Gx PV:=λd=>(d.ρ[i]?).join.map λp=>(.ok p,d)
def Rj(i:Nat)(h:PE X (.Name x pos) (Nh i)):PE X (.Name x pos) (tE X aa ab (rd i)):=h.imp <| by
 rintro σ H Q ⟨F,st,R,r,d,f⟩
 obtain⟨p,e1,g⟩:=br d;subst g;cases z:st.ρ[i]? with
 | none=>rw[z]at e1;cases e1
 | some o =>
  rw[z]at e1;cases o with
  | none=>cases e1
  | some m =>
   cases e1;obtain⟨v,j,k⟩:=R.l.av i p z;exact⟨v,j,f v H F R (Gr.refl F) k⟩
def za(h:PE X e (tC v))(d:∀F,bN X.K F p v):PE X e (tE X aa ab (aW p)):=h.imp (by rintro σ H Q ⟨F,st,R,q⟩;exact q.aW v H F R (Gr.refl F) (d F))
def Yp{j pos}:PE X (.Constant (.int i) j pos) (tE X aa ab (aW (.int i))):=za S7 λ_=>aH.mpr rfl
def acV{j pos}:PE X (.Constant (.bool i) j pos) (tE X aa ab (aW (.bl i))):=za XA λ_=>b8.mpr rfl
def Yq{j pos}:PE X (.Constant .none j pos) (tE X aa ab (aW .bj)):=za S8 λ_=>dn.mpr rfl
def Yr{j pos}:PE X (.Constant (.str i) j pos) (tE X aa ab (aW (.str i))):=za S9 λ_=>cL.mpr rfl
abbrev G2:=List ak->PV->PV->Option PV
def rT(K:W.Frag)(g:G2):R2:=λx y H Q=>∃aa ab F d i j k p,g d.h j k=some p/\Rep K aa ab F d i H/\bN K F j x/\bN K F k y/\∀v l f,Rep K aa ab f d i l->Gr F f->bN K f p v->Q v l
abbrev uL(X:Cx)(f:Value->Value->Sem Value)(g:G2):Prop:=OpR X f (rT X.K g)
def op2(g:G2)(fa fb:Gx PV):Gx PV:=bnd fa λx=>bnd fb λy=>hp λh=>g h x y
def pM(h:tE X aa ab (op2 g fa fb) σ H Q):WR (rT X.K g) (tE X aa ab fa) (tE X aa ab fb) σ H Q:=by
 obtain⟨F,d,R,h⟩:=h;refine⟨F,d,R,h.bnd λp v F1 f t i u j k=>⟨F1,f,i,k.bnd λq w F2 l x R2 m b2 r=>?_⟩⟩
 obtain⟨o,e,z⟩:=r.hp;exact⟨aa,ab,F2,l,σ,p,q,o,e,R2,j.mono m,b2,z⟩
def acW(ho:uL X (binaryOp op) g)(d:PE X a (tE X aa ab fa))(f:PE X b (tE X aa ab fb)):PE X (.BinOp a op b pos) (tE X aa ab (op2 g fa fb)):=(XQ ho d f).imp λ_ _ _ h=>pM h
def Ys(ho:uL X (compareOp op) g)(d:PE X a (tE X aa ab fa))(f:PE X b (tE X aa ab fb))(i:behindInMarks op b=false):PE X (.Compare a [op] [b] pos) (tE X aa ab (op2 g fa fb)):=(NC ho d f i).imp λ_ _ _ h=>pM h
def Eb:PV->Option Bool | .bl b=>some b | _=>none
def qX{b:Bool}(h:Eb p=some b):p=.bl b:=by
 cases p<;>first | (cases h;rfl) | cases h
def toB(f:Gx PV):Gx Bool:=bnd f λp=>jS (Eb p)
def toB_imp(h:tT X aa ab (toB fa) σ H Q):tE X aa ab fa σ H λv d=>∃k,v=.bl k/\Q k d:=by
 obtain⟨F,g,R,h⟩:=h;refine⟨F,g,R,h.bnd λp v F1 l d i m f j=>?_⟩
 obtain⟨k,e,z⟩:=j.jS;rw[qX e]at f;exact⟨k,b8.mp f,z k d F1 i (Gr.refl _) rfl⟩
def Yt(ho:uL X (compareOp op) g)(d:PE X a (tE X aa ab fa))(f:PE X b (tE X aa ab fb))(i:behindInMarks op b=false):PT X (.Compare a [op] [b] pos) (tT X aa ab (toB (op2 g fa fb))) :=
 (ND ho d f i).imp λ_ _ _ h=>pM (toB_imp h)
def chain(g d:G2)(fa fb fc:Gx PV):Gx PV:=bnd fa λx=>bnd fb λy=>bnd (hp λh=>(g h x y).bind Eb) λk=>if k=true then bnd fc λz=>hp λh=>d h y z else aW (.bl false)
def uM(h:tE X aa ab (chain g i fa fb fc) σ H Q):Cc (rT X.K g) (rT X.K i) (tE X aa ab fa) (tE X aa ab fb) (tE X aa ab fc) σ H Q:=by
 obtain⟨F,m,R,h⟩:=h;refine⟨F,m,R,h.bnd λp v F1 r H1 x g1 B C=>⟨F1,r,x,C.bnd λq w F2 d H2 R2 D b2 E=>?_⟩⟩
 obtain⟨k,e,z⟩:=At.hp (At.bnd E);obtain⟨o,e1,I⟩:=aR e;rw[qX I]at e1;refine⟨aa,ab,F2,d,σ,p,q,_,e1,R2,B.mono D,b2,λu J j l f L=>⟨k,b8.mp L,?_⟩⟩
 cases k with
 | true =>
  have z:Tx X aa ab (bN X.K) F2 d (bnd fc λz=>hp λh=>i h q z) σ Q:=z
  refine⟨j,d,l,(z.mono f λ_ _ y=>y).bnd λt o M N H4 T Y Z h4=>?_⟩
  obtain⟨o,e,z⟩:=h4.hp;exact⟨aa,ab,M,N,σ,q,t,o,e,T,b2.mono (f.trans Y),Z,z⟩
 | false=>exact Tx.aW z _ J j l f (b8.mpr rfl)
def N7(ho:uL X (compareOp op) g)(f:uL X (compareOp d) i)(j:PE X a (tE X aa ab fa))(k:PE X b (tE X aa ab fb))(hc:PE X c (tE X aa ab fc))
  (l:lastMarks [op,d] [b,c]=false):PE X (.Compare a [op,d] [b,c] pos) (tE X aa ab (chain g i fa fb fc)):=(Je ho f j k hc l).imp λ_ _ _ h=>uM h
end
def cw(h:List ak):PV->Option (Kd×List PV)
 | .nd k a=>some (k,a)
 | .ref n=>(h[n]?).bind λc=>if live c=true then some (c.k,c.ps)else none
 | _=>none
def bP{a:Type}{c:Prop} [Decidable c] {x:Option a} {y:a} (h:(if c then x else none)=some y):c/\x=some y:=by
 grind
def aM{a:Type}{c:Prop} [Decidable c] {x y:a} (h:(if c then some x else none)=some y):c/\x=y:=by
 grind
section
variable {K:W.Frag} {aa H:Hp} {ab F:Fz} {st:cz} {σ:St}
def Rep.at(R:Rep K aa ab F st σ H){p:PV}{k:Kd}{ps:List PV}{v:V}(e:cw st.h p=some (k,ps))(b:bN K F p v):∃a vs,v=.ref a/\kC K F.F H a false k vs/\aB K F ps vs:=by
 cases p with
 | nd t u =>
  cases e;obtain⟨a,vs,d,f,g⟩:=je.mp b;exact⟨a,vs,d,f.to (cK.refl _) (λo q=>R.sub _ _ q) id,g⟩
 | ref n =>
  obtain⟨c,e1,i⟩:=aR e;obtain⟨j,m⟩:=aM i;cases m;obtain⟨a,d,f⟩:=c8.mp b;obtain⟨_,vs,g,r⟩:=R.c.cell n c a e1 d j;exact⟨a,vs,f,g.to (cK.refl _) (λo q=>q) (λz=>by cases z),r⟩
 | _=>cases e
def Cw(h:List ak)(p:PV):Option (List PV):=match cw h p with
 | some (.ao,a)=>some a
 | some (.lst,a)=>some a
 | _=>none
def Rep.seq(R:Rep K aa ab F st σ H){p:PV}{ps:List PV}{v:V}(e:Cw st.h p=some ps)(b:bN K F p v):∃a vs,v=.ref a/\(gT K H a vs\/kW K H a vs)/\aB K F ps vs:=by
 unfold Cw at e;split at e
 ·rename_i z;cases e;obtain⟨a,vs,d,f,g⟩:=R.at z b;exact⟨a,vs,d,.inl f.2,g⟩
 ·rename_i z;cases e;obtain⟨a,vs,d,f,g⟩:=R.at z b;exact⟨a,vs,d,.inr f,g⟩
 ·cases e
def zb(h:List ak):PV->Option Bool
 | .bj=>some false
 | .bl b=>some b
 | .int i=>some (i != 0)
 | p=>match cw h p with
  | some (.ao,a)=>some !a.isEmpty
  | some (.lst,a)=>some !a.isEmpty
  | some (.fu false _,a)=>some !a.isEmpty
  | _=>none
def qY{ps:List PV}{vs:List V}(h:aB K F ps vs):ps.isEmpty=vs.isEmpty:=by
 cases ps with
 | nil=>rw[h.cW];rfl
 | cons p ps=>obtain⟨v,r,rfl,_,_⟩:=h.cy;rfl
def Rep.Rl(R:Rep K aa ab F st σ H){p:PV}{k:Bool}{v:V}(e:zb st.h p=some k)(b:bN K F p v):NF K v H k:=by
 have d:(match cw st.h p with
  | some (.ao,f)=>some !f.isEmpty
  | some (.lst,f)=>some !f.isEmpty
  | some (.fu false _,f)=>some !f.isEmpty
  | _=>none)=some k->NF K v H k:=λe=>by
  split at e
  ·rename_i z;cases e;obtain⟨a,m,rfl,g,j⟩:=R.at z b;exact .inr (.inl ⟨m,g.2,by rw[qY j]⟩)
  ·rename_i z;cases e;obtain⟨a,m,rfl,g,j⟩:=R.at z b;exact .inl ⟨m,kW.sq g,by rw[qY j]⟩
  ·rename_i z;cases e;obtain⟨a,m,rfl,⟨o,g,_,q⟩,j⟩:=R.at z b;refine .inr (.inr ⟨o,g,?_⟩);rw[qY j,<-q,List.isEmpty_map]
  ·cases e
 cases p with
 | bj=>rw[dn.mp b];exact(cj e).symm
 | bl c=>rw[b8.mp b];exact(cj e).symm
 | int i=>rw[aH.mp b];exact(cj e).symm
 | str x=>exact d e
 | ref n=>exact d e
 | fn x=>exact d e
 | nd k f=>exact d e
end
section
variable {X:Cx} {aa:Hp} {ab:Fz} {a b c e:Expr} {es rest:List Expr} {fa fb fc:Gx PV} {ga gb:Gx Bool} {ts:Gx (List PV)} {pos:Pos}
def fX(f:Gx PV):Gx Bool:=bnd f λp=>hp λh=>zb h p
def Yu(h:PE X e (tE X aa ab fa))(he:∀d,isTrue e X.env d=(do let v <-d;standAt e.pos;holding [v] (truthy v))):PT X e (tT X aa ab (fX fa)) :=
 (Jh h he).imp λσ H Q ⟨F,st,R,h⟩=>⟨F,st,R,h.bnd λp v F1 l g f m i j=>by
  obtain⟨k,e,z⟩:=j.hp;exact⟨k,f.Rl e i,z k g F1 f (Gr.refl _) rfl⟩⟩
def N8{d f:CmpOp}{g i:G2}(ho:uL X (compareOp d) g)(j:uL X (compareOp f) i)(k:PE X a (tE X aa ab fa))(l:PE X b (tE X aa ab fb))(hc:PE X c (tE X aa ab fc))
  (m:lastMarks [d,f] [b,c]=false):PT X (.Compare a [d,f] [b,c] pos) (tT X aa ab (toB (chain g i fa fb fc))):=(Jf ho j k l hc m).imp λ_ _ _ h=>uM (toB_imp h)
def dN{d:Type}(h:Gx Bool)(f g:Gx d):Gx d:=bnd h λx=>if x=true then f else g
def wF{k l:Type}{i:Fz->k->l->Prop}{f g:Gx k}{d:St}{H:Hp}{Q:l->Hp->Prop}(h:tX X aa ab i (dN ga f g) d H Q):tT X aa ab ga d H λc j=>if c=true then tX X aa ab i f d j Q else tX X aa ab i g d j Q:=by
 obtain⟨F,q,R,h⟩:=h;refine⟨F,q,R,h.bnd λx y F1 m j o t r p=>?_⟩
 cases r;cases x with
 | true=>exact⟨F1,m,o,p⟩
 | false=>exact⟨F1,m,o,p⟩
def wG{f d:Type}{g:Fz->f->d->Prop}{a:f}{b:d}{i:St}{H:Hp}{Q:d->Hp->Prop}(h:tX X aa ab g (aW a) i H Q)(j:∀F,g F a b):Q b H:=by
 obtain⟨F,k,R,h⟩:=h;exact h.aW b H F R (Gr.refl _) (j F)
def zc{P d Q f:Prop}{c:Bool}(h:if c=true then P else Q)(h1:P->d)(h2:Q->f):if c=true then d else f:=by
 grind
def Ec{d g:Type}{j:Fz->d->g->Prop}{f:Gx d}{k:St}{H:Hp}{Q l:g->Hp->Prop}(h:tX X aa ab j f k H Q)(i:∀b H',Q b H'->l b H'):tX X aa ab j f k H l:=let ⟨F,st,R,h⟩:=h;⟨F,st,R,h.mono (Gr.refl _) i⟩
def Yv(d:PT X a (tT X aa ab ga))(f:PW X (.BoolOp .And (b::rest) pos) (tT X aa ab gb)):PW X (.BoolOp .And (a::b::rest) pos) (tT X aa ab (dN ga gb (aW false))) :=
 (Tb d f).imp λg H Q h=>Ec (wF h) λ_ _ z=>zc z id λz=>wG z λ_=>rfl
def acX(d:PT X a (tT X aa ab ga))(f:PW X (.BoolOp .Or (b::rest) pos) (tT X aa ab gb)):PW X (.BoolOp .Or (a::b::rest) pos) (tT X aa ab (dN ga (aW true) gb)) :=
 (XB d f).imp λg H Q h=>Ec (wF h) λ_ _ z=>zc z (λz=>wG z λ_=>rfl) id
def zd(f:Gx Bool):Gx Bool:=bnd f λx=>aW !x
def Yw(d:PT X a (tT X aa ab ga)):PT X (.UnaryOp .Not a pos) (tT X aa ab (zd ga)):=(Tc d).imp λσ H Q ⟨F,st,R,h⟩=>⟨F,st,R,h.bnd λx y F1 k f g l i j=>by
 cases i;exact j.aW _ f F1 g (Gr.refl _) rfl⟩
def T9(fa fb:Gx PV):Gx PV:=bnd fa λx=>bnd (hp λh=>zb h x) λk=>if k=true then fb else aW x
def orG(fa fb:Gx PV):Gx PV:=bnd fa λx=>bnd (hp λh=>zb h x) λk=>if k=true then aW x else fb
def JA{f g:PV->Gx PV}{m:List (Addr×Obj)}{s:Shared}{d:St}{H:Hp}{Q:VK}(u:PE X a (tE X aa ab fa))(I:Inv X m d H s)
  (h:tE X aa ab (bnd fa λx=>bnd (hp λh=>zb h x) λk=>if k=true then f x else g x) d H Q) :
  wpAny (model X.prog X.w) X.A (eval a X.env) (λv s1=>wpAny (model X.prog X.w) X.A (truthy v) (λk s2=>∃p l F1 i j,Inv X m d j s2/\RelV l v/\Rep X.K aa ab F1 i d j/\bN X.K F1 p l/\Tx X aa ab (bN X.K) F1 i (if k=true then f p else g p) d Q) X.xe s1) X.xe s:=by
 obtain⟨F,y,R,h⟩:=h;refine thn (u m s d H (λv j=>∃F1 i p,Rep X.K aa ab F1 i d j/\bN X.K F1 p v/\Tx X aa ab (bN X.K) F1 i (bnd (hp λh=>zb h p) λk=>if k=true then f p else g p) d Q) I
  ⟨F,y,R,h.bnd λp v F1 i j o N q r=>⟨F1,i,p,o,q,r⟩⟩) λv s1 ⟨l,j,B,t,F1,i,p,o,q,r⟩=>?_
 obtain⟨k,e,z⟩:=At.hp (At.bnd r);exact thn (Jg m s1 d j l v (λC D=>C=k/\D=j) B t ⟨k,o.Rl e q,rfl,rfl⟩) <| by
  rintro c s2 ⟨E,J,L,M⟩
  subst L M;exact⟨p,l,F1,i,E,J,t,o,q,z⟩
def acY(g:PE X a (tE X aa ab fa))(i:PE X (.BoolOp .Or (b::rest) pos) (tE X aa ab fb)):PE X (.BoolOp .Or (a::b::rest) pos) (tE X aa ab (orG fa fb)):=λj s l H Q I h =>
 BoolOp_or (thn (JA g I h) λv t z=>thn z <| by
  rintro k s2 ⟨p,m,F1,o,H1,d,q,f,r,z⟩
  cases k with
  | true=>exact⟨m,H1,d,q,Tx.aW (z) _ H1 F1 f (Gr.refl _) r⟩
  | false=>exact i j s2 l H1 Q d ⟨F1,o,f,z⟩)
def Yx(g:PE X a (tE X aa ab fa))(i:PE X (.BoolOp .And (b::rest) pos) (tE X aa ab fb)):PE X (.BoolOp .And (a::b::rest) pos) (tE X aa ab (T9 fa fb)):=λj s l H Q I h =>
 BoolOp_and (thn (JA g I h) λv t z=>thn z <| by
  rintro k s2 ⟨p,m,F1,o,H1,d,q,f,r,z⟩
  cases k with
  | false=>exact⟨m,H1,d,q,Tx.aW (z) _ H1 F1 f (Gr.refl _) r⟩
  | true=>exact i j s2 l H1 Q d ⟨F1,o,f,z⟩)
def Ua(fa:Gx PV):Gx PV:=bnd (toB fa) λx=>aW (.bl !x)
def Yy(d:PE X a (tE X aa ab fa)):PE X (.UnaryOp .Not a pos) (tE X aa ab (Ua fa)):=(Td d).imp λσ H Q ⟨F,st,R,h⟩ =>
 toB_imp ⟨F,st,R,h.bnd λx y F1 k f g l i j=>by
  cases i;exact j.aW _ f F1 g (Gr.refl _) (b8.mpr rfl)⟩
def acZ(hc:PT X c (tT X aa ab ga))(d:PE X a (tE X aa ab fa))(f:PE X b (tE X aa ab fb)):PE X (.IfExp c a b pos) (tE X aa ab (dN ga fa fb)):=(IS hc d f).imp λ_ _ _ h=>wF h
def aq(f:Gx PV)(g:Gx (List PV)):Gx (List PV):=bnd f λx=>bnd g λd=>aW (x::d)
def Yz:PA X [] (tA X aa ab (aW [])):=qQ.imp λd H Q h=>wG h λ_=>.nil
def Ub(d:PE X e (tE X aa ab fa))(f:PA X es (tA X aa ab ts))(g:starEach (e::es) X.env=(false,eval e X.env)::starEach es X.env:=by rfl):PA X (e::es) (tA X aa ab (aq fa ts)) :=
 (ji d f g).imp (by rintro σ H Q ⟨F,st,R,h⟩;exact⟨F,st,R,h.bnd λp v F1 i r j t k l=>⟨F1,i,j,l.bnd λu w F2 x m R2 o b2 q=>q.aW _ m F2 R2 (Gr.refl _) (.cons (k.mono o) b2)⟩⟩)
noncomputable def fD:Nat:=4000000
def fx{n:Nat}(h:n<=fD):n<=sizeLine:=bK h (by decide)
def small(ps:List PV)(p:PV):Option PV:=if ps.length<=fD then some p else none
def kF(k:Kd)(ts:Gx (List PV)):Gx PV:=bnd ts λd=>jS (small d (.nd k d))
def YA{i}(h:PA X es (tA X aa ab ts)):PE X (.Tuple es i pos) (tE X aa ab (kF .ao ts)):=(TV h).imp λσ H Q ⟨F,st,R,h⟩=>⟨F,st,R,h.bnd λo d F1 q r j t f k=>by
 obtain⟨p,e,z⟩:=k.jS;obtain⟨l,rfl⟩:=aM e;refine⟨fx (by rw[<-f.length];exact l),λa m=>?_⟩
 obtain⟨R2,g⟩:=j.laid (.ao d) m;exact z _ _ _ R2 g (cq.mpr ⟨a,d,rfl,gT.of aE,f.mono g⟩)⟩
def YB(h:PA X es (tA X aa ab ts)):PE X (.List es pos) (tE X aa ab (kF .lst ts)):=(Jj h).imp λσ H Q ⟨F,st,R,h⟩=>⟨F,st,R,h.bnd λm d F1 o q i r f j=>by
 obtain⟨p,e,z⟩:=j.jS;obtain⟨k,rfl⟩:=aM e;refine⟨fx (by rw[<-f.length];exact k),λa l=>?_⟩
 obtain⟨R2,g⟩:=i.laid (.lst d) l;exact z _ _ _ R2 g (gu.mpr ⟨a,d,rfl,kW.of aE,f.mono g⟩)⟩
noncomputable def kG(c:ak):Gx PV:=λd=>some (.ok (.ref d.h.length),⟨d.ρ,d.h++[c]⟩)
def Tx.kG{c:ak}{F:Fz}{st:cz}{d:St}{H:Hp}{Q:VK}{p:Addr}{o:HO}{vs:List V}(h:Tx X aa ab (bN X.K) F st (kG c) d Q)(R:Rep X.K aa ab F st d H)(hp:H p=none)
  (f:kC X.K F.F (cx H p o) p true c.k vs) (i:aB X.K F c.ps vs):Q (.ref p) (cx H p o):=by
 obtain⟨r,j,m⟩:=h;cases j;obtain⟨C,g,q⟩:=R.c.alloc hp f i;exact m _ _ _ ⟨C,R.l.mono g⟩ g (c8.mpr ⟨p,q,rfl⟩)
def zf(ts:Gx (List PV)):Gx PV:=bnd ts λd=>bnd (jS (small d .bj)) λ_=>kG ⟨.lst,d⟩
def Uc(h:PA X es (tA X aa ab ts)):PE X (.List es pos) (tE X aa ab (zf ts)):=(Jj h).imp λσ H Q ⟨F,st,R,h⟩=>⟨F,st,R,h.bnd λk l F1 m o f q d g=>by
 obtain⟨p,e,z⟩:=At.jS (At.bnd g);obtain⟨i,rfl⟩:=aM e;exact⟨fx (by rw[<-d.length];exact i),λa j=>Tx.kG z f j aE d⟩⟩
end
inductive dE where
 | nx | bk | ct | rt (p:PV)
def zg(X:Cx)(d:Hp)(e F:Fz)(D:tM):dE->cz->Prop
 | .nx,st=>∀a c b,Rep X.K d e a st c b->Gr F a->D.nx c b
 | .bk,st=>∀a c b,Rep X.K d e a st c b->Gr F a->D.bk c b
 | .ct,st=>∀a c b,Rep X.K d e a st c b->Gr F a->D.ct c b
 | .rt p,st=>∀v a b,kq X.K d e a st.h b->Gr F a->bN X.K a p v->D.rt v b
def Sa(X:Cx)(a:Hp)(b F:Fz)(D:tM)(st:cz)(f:Gx dE):Prop:=At X a b F st f (zg X a b F D)
def tS(X:Cx)(a:Hp)(b:Fz)(f:Gx dE):TS:=λD d H=>∃F c,Rep X.K a b F c d H/\Sa X a b F D c f
section
variable {X:Cx} {aa:Hp} {ab F F1:Fz} {D:tM} {st:cz} {α β:Type}
theorem zg.mono(g:Gr F F1):∀(o:dE) (st:cz),zg X aa ab F D o st->zg X aa ab F1 D o st
 | .nx,_,h=>λa c b R z=>h a c b R (g.trans z)
 | .bk,_,h=>λa c b R z=>h a c b R (g.trans z)
 | .ct,_,h=>λa c b R z=>h a c b R (g.trans z)
 | .rt _,_,h=>λv a b R z=>h v a b R (g.trans z)
def Sa.mono(h:Sa X aa ab F D st f)(g:Gr F F1):Sa X aa ab F1 D st f:=At.imp h g (zg.mono g)
def Sa.bnd(h:Sa X aa ab F D st (bnd f k))
  (i:∀a b F1 c d,Rep X.K aa ab F1 c σ d->Gr F F1->g F1 a b->Sa X aa ab F1 D c (k a)->Q b d):Tx X aa ab g F st f σ Q :=
 At.imp (At.bnd h) (Gr.refl F) λa c q b d F1 j e l=>i a b F1 c d j e l (Sa.mono q e)
end
section
variable {X:Cx} {aa:Hp} {ab:Fz} {a b c e tg iter:Expr} {es:List Expr} {fe:Gx PV} {gc:Gx Bool} {pos:Pos} {s:Stmt} {ss body:List Stmt} {f g fb:Gx dE}
def onK(g:Gx dE):dE->Gx dE
 | .nx=>g
 | .bk=>aW .bk
 | .ct=>aW .ct
 | .rt p=>aW (.rt p)
def dW(f g:Gx dE):Gx dE:=bnd f (onK g)
def Ud:PSs X [] (tS X aa ab (aW .nx)):=Nk.imp (by rintro D σ H ⟨F,st,R,h⟩;exact At.aW h F σ H R (Gr.refl F))
def N9(h1:PS X s (tS X aa ab f))(h2:PSs X ss (tS X aa ab g)):PSs X (s::ss) (tS X aa ab (dW f g)):=(IT h1 h2).imp λD σ H ⟨F,st,R,h⟩ =>
 ⟨F,st,R,At.imp (At.bnd h) (Gr.refl F) λo k q=>match o,q with
  | .nx,q=>λF1 r t l m=>⟨F1,k,l,Sa.mono q m⟩
  | .bk,q=>λd j i=>At.aW q d j i
  | .ct,q=>λd j i=>At.aW q d j i
  | .rt p,q=>λv d i=>At.aW q v d i⟩
def Ue(h1:PS X s (tS X aa ab f)):PSs X [s] (tS X aa ab f):=Nl h1
def Ug:PS X (.Pass pos) (tS X aa ab (aW .nx)):=Nn.imp (by rintro D σ H ⟨F,st,R,h⟩;exact At.aW h F σ H R (Gr.refl F))
def Oa:PS X (.Break pos) (tS X aa ab (aW .bk)):=IU.imp (by rintro D σ H ⟨F,st,R,h⟩;exact At.aW h F σ H R (Gr.refl F))
def Uh:PS X (.Continue pos) (tS X aa ab (aW .ct)):=yN.imp (by rintro D σ H ⟨F,st,R,h⟩;exact At.aW h F σ H R (Gr.refl F))
def retS(fe:Gx PV):Gx dE:=bnd fe λp=>aW (.rt p)
def YC(he:PE X e (tE X aa ab fe)):PS X (.Return (some e) pos) (tS X aa ab (retS fe)):=(Tf he).imp (by rintro D σ H ⟨F,st,R,h⟩;exact⟨F,st,R,h.bnd λp v F1 l d i m j k=>At.aW k v F1 d i.c (Gr.refl _) j⟩)
def Ui:PS X (.Return none pos) (tS X aa ab (aW (.rt .bj))):=Nq.imp (by rintro D σ H ⟨F,st,R,h⟩;exact At.aW h _ F H R.c (Gr.refl _) (dn.mpr rfl))
def ac0(hc:PT X c (tT X aa ab gc))(k:PSs X p (tS X aa ab f))(l:PSs X r (tS X aa ab g)):PS X (.If c p r pos) (tS X aa ab (dN gc f g)) :=
 (XG hc k l).imp λD σ H ⟨F,st,R,h⟩=>⟨F,st,R,h.bnd λx y F1 d o i q m j=>by
  cases m;cases x with
  | true=>exact⟨F1,d,i,j⟩
  | false=>exact⟨F1,d,i,j⟩⟩
def gq(fe:Gx PV):Gx dE:=bnd fe λ_=>aW .nx
def Uj(he:PE X e (tE X aa ab fe))(d:swapsWith e none pos.line X.env=pure false:=by rfl):PS X (.Expr e pos) (tS X aa ab (gq fe)):=(Np he d).imp λD σ H ⟨F,st,R,h⟩ =>
 ⟨F,st,R,h.bnd λp v F1 l i j m o k=>At.aW k F1 σ i j (Gr.refl _)⟩
abbrev Tg:=PV->cz->Option cz
abbrev WV:=List PV->cz->Option cz
def tG(K:W.Frag)(aa:Hp)(ab:Fz)(g:Tg):TG:=λv l H Q=>∃F d p h,Rep K aa ab F d l H/\bN K F p v/\g p d=some h/\∀i j k,Rep K aa ab k h i j->Gr F k->Q i j
def YD(K:W.Frag)(aa:Hp)(ab:Fz)(g:WV):Th:=λm o H Q=>∃F d h i,Rep K aa ab F d o H/\aB K F h m/\g h d=some i/\∀j k l,Rep K aa ab l i j k->Gr F l->Q j k
noncomputable def aV(i:Nat):Tg:=λp d=>if i<d.ρ.length then some ⟨d.ρ.set i (some p),d.h⟩else none
def Lc.set{K:W.Frag}(L:Lc K F ρ σ)(d:i<ρ.length)(k:bN K F p v):Lc K F (ρ.set i (some p)) (σ.set i (some v)) where
 av:=λj q e=>by
  by_cases h:i=j
  ·subst h;rw[gh d]at e;cases e;exact⟨v,gh (by rw[<-L.len];exact d),k⟩
  ·rw[c9 h]at e;rw[c9 h];exact L.av j q e
 len:=by rw[lA,lA];exact L.len
def Uk(i:Nat)(h:PG X (.Name x pos) (gName i)):PG X (.Name x pos) (tG X.K aa ab (aV i)):=h.imp <| by
 rintro v σ H Q ⟨F,st,p,k,R,d,hf,q⟩
 obtain⟨j,rfl⟩:=aM hf;exact q _ _ _ ⟨R.c,R.l.set j d⟩ (Gr.refl F)
def lK:WV:=λd h=>match d with | []=>some h | _=>none
def cR(g:Tg)(r:WV):WV:=λd h=>match d with | p::d=>(g p h).bind λi=>r d i | []=>none
def Ul:PGs X [] (YD X.K aa ab lK):=Nt.imp <| by
 rintro i σ H Q ⟨F,st,d,j,R,h,hf,q⟩
 cases d with
 | nil=>cases hf;exact⟨h.cW,q _ _ _ R (Gr.refl F)⟩
 | cons _ _=>cases hf
def Ob(h1:PG X e (tG X.K aa ab t))(h2:PGs X es (YD X.K aa ab u))(j:(assignEach (e::es) X.env).map (·.2)=assign e X.env::(assignEach es X.env).map (·.2):=by rfl) :
  PGs X (e::es) (YD X.K aa ab (cR t u)):=(IX h1 h2 j).imp <| by
 rintro C σ H Q ⟨F,st,d,k,R,l,hf,q⟩
 cases d with
 | nil=>cases hf
 | cons p d =>
  obtain⟨v,r,rfl,m,b2⟩:=l.cy;obtain⟨h,e1,o⟩:=aR hf;exact⟨v,r,rfl,F,st,p,h,R,m,e1,λD E F1 w i=>⟨F1,h,d,k,w,b2.mono i,o,λx y F2 R2 B=>q x y F2 R2 (i.trans B)⟩⟩
noncomputable def gj(n:Nat)(t:WV):Tg:=λp h=>match p with | .nd .ao d=>if d.length=n then t d h else none | _=>none
def YE(hc:X.calm=true)(h:PGs X es (YD X.K aa ab t))(j:(assignEach es X.env).length=n:=by rfl)(l:(assignEach es X.env).findIdx? (·.1)=none:=by rfl) :
  PG X (.Tuple es k pos) (tG X.K aa ab (gj n t)):=(Ti hc h j l).imp <| by
 rintro v σ H Q ⟨F,st,p,m,R,o,d,q⟩
 unfold gj at d;split at d
 ·rename_i r;obtain⟨u,d⟩:=bP d;obtain⟨a,w,rfl,x,i⟩:=cq.mp o;exact⟨a,w,rfl,bt R.sub x,by rw[<-i.length];exact u,F,st,r,m,R,i,d,q⟩
 ·cases d
noncomputable def stp(g:cz->Option cz):Gx dE:=λd=>(g d).map λh=>(.ok .nx,h)
def Sa.stp{st:cz}{g:cz->Option cz}(h:Sa X aa ab F D st (stp g)):∃d,g st=some d/\∀F' i H',Rep X.K aa ab F' d i H'->Gr F F'->D.nx i H':=by
 obtain⟨r,j,k⟩:=h;obtain⟨d,e1,l⟩:=br j;subst l;exact⟨d,e1,k⟩
def dh(fe:Gx PV)(g:Tg):Gx dE:=bnd fe λp=>stp (g p)
def Oc{g:Tg}(h:tS X aa ab (dh fe g) D σ H):Nu (tE X aa ab fe) (tG X.K aa ab g) D σ H:=by
 obtain⟨F,d,R,h⟩:=h;refine⟨F,d,R,h.bnd λp v F1 i t j u k l=>?_⟩
 obtain⟨m,e,z⟩:=l.stp;exact⟨F1,i,p,m,j,k,e,λo q F2 R2 r=>z F2 o q R2 r⟩
def YF{g:Tg}(he:PE X e (tE X aa ab fe))(d:PG X tg (tG X.K aa ab g))(i:swapsWithSole [tg] e pos.line X.env=pure false:=by rfl)(hw:swappedStores [tg] e X.env=pure none:=by rfl)
  (h1:(assignEach [tg] X.env).map (·.2)=[assign tg X.env]:=by rfl):PS X (.Assign [tg] e pos) (tS X aa ab (dh fe g)):=(IY he d i hw h1).imp λ_ _ _ h=>Oc h
def Walk(K:W.Frag)(F:Fz)(ps:List PV)(J:It):Prop:=∀(aa:Hp) (ab d:Fz) (st:cz) (σ:St) (H:Hp),Rep K aa ab d st σ H->Gr F d->∀i:Nat,
 (∀p,ps[i]?=some p->J.go i H/\∀x j,J.yld i H x j->∃h,Rep K aa ab h st σ j/\Gr d h/\bN K h p x)/\(ps[i]?=none->J.stop i H)
abbrev tI(X:Cx)(aa:Hp)(ab:Fz)(f:Gx (List PV)):TI:=tX X aa ab (Walk X.K) f
def uN(r:Gx dE):dE->Gx dE
 | .nx=>r
 | .ct=>r
 | .bk=>aW .nx
 | .rt p=>aW (.rt p)
def dv(g:Tg)(body:Gx dE):List PV->Gx dE
 | []=>aW .nx
 | p::d=>bnd (stp (g p)) λ_=>bnd body (uN (dv g body d))
def Sa.lH{st:cz}(N:St->Hp->Prop)(hN:∀F1 j d i,Rep X.K aa ab F1 j d i->Gr F F1->Sa X aa ab F1 D j r->N d i)(h:Sa X aa ab F D st (U.bnd fb (uN r))):Sa X aa ab F {D with nx:=N,ct:=N,bk:=D.nx} st fb :=
 At.imp (At.bnd h) (Gr.refl F) λo j q=>match o,q with
  | .nx,q=>λF1 d i l k=>hN F1 j d i l k (Sa.mono q k)
  | .ct,q=>λF1 d i l k=>hN F1 j d i l k (Sa.mono q k)
  | .bk,q=>λm u t=>At.aW q m u t
  | .rt p,q=>λv m t=>At.aW q v m t
def jk(gc:Gx Bool)(body:Gx dE):Nat->Gx dE
 | 0=>λ_=>none
 | n+1=>bnd gc λc=>if c=true then bnd body (uN (jk gc body n))else aW .nx
def Od(n:Nat)(hp:PassesOwn (model X.prog X.w) X.A X.env X.xe)(hc:PT X c (tT X aa ab gc))(v:PSs X body (tS X aa ab fb)):PS X (.While c body [] pos) (tS X aa ab (jk gc fb n)) :=
 (IZ hp hc v).imp <| by
 rintro D σ H ⟨F,st,R,h⟩
 refine⟨λm j k=>∃d i,Rep X.K aa ab d i j k/\Sa X aa ab d D i (jk gc fb m),⟨n,F,st,R,h⟩,λm j k ⟨d,i,B,l⟩=>?_⟩
 cases m with
 | zero=>obtain⟨r,e,_⟩:=l;cases e
 | succ m =>
  refine⟨d,i,B,Sa.bnd l λx y F1 C E o Q I p=>?_⟩
  cases I;cases x with
  | false=>exact At.aW p F1 j E o (Gr.refl _)
  | true=>exact⟨λq t=>∃F2 u,Rep X.K aa ab F2 u q t/\Sa X aa ab F2 D u (jk gc fb m),λq t J=>⟨m,qx m,J⟩,F1,C,o,Sa.lH _ (λL M T Y N Z z=>⟨L,M,N,z⟩) p⟩
end
def _root_.L2.Inv.Ee(I:Inv X c σ H s)(h:kW X.K H a xs):∃(b:List Value) (n:Nat),Vals xs b/\s.heap.get? a=some {cls:=.type "list",data:=.seq b.toArray n}/\xs.length<=sizeLine:=by
 rcases h with h | ⟨b,n,e,z,r⟩
 ·obtain⟨z,b,n,r,e⟩:=h.ok I.hok;exact⟨b,n,r,e,z⟩
 ·exact⟨b,n,r,I.qL a _ e,by rw[r.length];exact z⟩
def sizeOk(n:Nat)(p:PV):Option PV:=if n<=fD then some p else none
def jT(h:sizeOk n p=some q):n<=sizeLine/\p=q:=by
 obtain⟨a,b⟩:=aM h;exact⟨fx a,b⟩
def qZ(h:List ak)(p:PV):Option (List PV):=match cw h p with | some (.lst,a)=>some a | _=>none
def iI(e:qZ h p=some ps):cw h p=some (.lst,ps):=by
 unfold qZ at e;split at e
 ·grind
 ·cases e
def eG:G2:=λh p q=>match p,q with
 | .int i,.int j=>some (.int (i+j))
 | .str x,.str y=>sizeOk (x.length+y.length) (.str (x++y))
 | .nd .ao a,.nd .ao b=>sizeOk (a.length+b.length) (.ao (a++b))
 | p,q=>(qZ h p).bind λa=>(qZ h q).bind λb=>sizeOk (a.length+b.length) (.lst (a++b))
noncomputable def q8(c:Int->Int->Bool)(f:Int->Int->PV):G2:=λ_ p q=>match p,q with
 | .int i,.int j=>if c i j=true then some (f i j)else none
 | _,_=>none
def Ef:Int:=18446744073709551616
def YG:G2:=q8 (λ_ _=>true) λi j=>.int (i-j)
def tV:G2:=q8 (λi j=>decide ((-Ef<i/\i<Ef)\/(-Ef<j/\j<Ef))) λi j=>.int (i*j)
def iJ:G2:=q8 (λ_ j=>decide (0<j/\j<1073741824)) λi j=>.int (i/j)
def gk:G2:=q8 (λ_ j=>decide (0<j)) λi j=>.int (i%j)
def Og:G2:=q8 (λi j=>decide (0<=j/\j<=1000/\i.natAbs<1000)) λi j=>.int (i^j.toNat)
def JC:G2:=q8 (λ_ _=>true) λi j=>.bl (decide (i<j))
def leO:G2:=q8 (λ_ _=>true) λi j=>.bl (decide (i<=j))
def geO:G2:=q8 (λ_ _=>true) λi j=>.bl (decide (j<=i))
section
variable {X:Cx}
def JD{ws:List Value}(ht:IsTup s.heap t ([]:List Value).toArray)(h:IsTup s.heap b ws.toArray)(h1:Q (.ref b) s):wpAny (model prog w) A (binaryOp .Add (.ref t) (.ref b)) Q E s:=by
 obtain⟨⟨i,j,e,k⟩,ho,hc,n,hd⟩:=id ht;obtain⟨⟨l,c,o,d⟩,a,f,m,g⟩:=id h;simp only at hc hd f g;subst hc hd f g;exact concat_meets ⟨_,ho,rfl⟩ ⟨_,a,rfl⟩ BO seq_tuple_add Bt Br (Bp _ _) (tuple_addW0 t b _ ws.toArray n m j c k d (by simp)) ⟨ho,a,h1⟩
def Oh:uL X (binaryOp .Add) eG:=by
 rintro w s σ H x y v u Q I d f ⟨aa,ab,F,st,τ,pa,pb,p,e,R,l,m,k⟩
 unfold eG at e;split at e
 ·cases e;rw[aH.mp l]at d;rw[aH.mp m]at f;exact Tw w s σ H _ _ v u Q I d f ⟨_,_,rfl,rfl,k _ H F R (Gr.refl F) (aH.mpr rfl)⟩
 ·obtain⟨i,rfl⟩:=jT e;rw[cL.mp l]at d;rw[cL.mp m]at f;exact Cf w s σ H _ _ v u Q I d f ⟨_,_,rfl,rfl,i,k _ H F R (Gr.refl F) (cL.mpr rfl)⟩
 ·rename_i L N;obtain⟨i,rfl⟩:=jT e;obtain⟨a,h,rfl,o,c⟩:=cq.mp l;obtain⟨b,ws,rfl,t,g⟩:=cq.mp m;have B:=bt R.sub o;have M:=bt R.sub t;cases L with
  | nil =>
   rw[c.cW]at B;cases d;cases f;obtain⟨C,T,Y,_⟩:=I.tuple B;obtain⟨D,E,Z,_⟩:=I.tuple M;cases T;exact JD Y Z ⟨.ref b,H,I,rfl,k _ H F R (Gr.refl F) (cq.mpr ⟨b,ws,rfl,t,g⟩)⟩
  | cons x0 xr =>
   refine NV w s σ H _ _ v u Q I d f ⟨a,b,h,ws,rfl,rfl,B,M,?_,by rw[<-c.length,<-g.length];exact i,λz=>?_,λz q hq=>?_⟩
   ·intro z;have:=c.length;rw[z]at this;cases this
   ·subst z;have hy:=nq g.length;subst hy;rw[dB]at k;exact k _ H F R (Gr.refl F) (cq.mpr ⟨a,h,rfl,o,c⟩)
   ·obtain⟨R2,j⟩:=R.laid (.ao (h++ws)) hq;exact k _ _ _ R2 j (cq.mpr ⟨q,_,rfl,gT.of aE,(c.append g).mono j⟩)
 ·obtain⟨L,e1,e⟩:=aR e;obtain⟨N,J,e⟩:=aR e;obtain⟨i,rfl⟩:=jT e;obtain⟨a,h,rfl,o,c⟩:=R.at (iI e1) l;obtain⟨b,ws,rfl,t,g⟩:=R.at (iI J) m;cases d;cases f;obtain⟨C,n,r,e1,z1⟩:=I.Ee o;obtain⟨D,n2,E,J,z2⟩:=I.Ee t;have hl:=r.length;have hl2:=E.length;have hz':h.length+ws.length<=sizeLine:=by rw[<-c.length,<-g.length];exact i
  refine PySem.P.add_list e1 J ?_ (by grind)
  have ea:C.toArray++D.toArray=(C++D).toArray:=by simp
  rw[ea];obtain⟨R2,j⟩:=R.laid (.lst (h++ws)) I.fresh;exact⟨.ref _,_,I.acM (r.append E) (by grind),rfl,k _ _ _ R2 j (gu.mpr ⟨_,_,rfl,kW.of aE,(c.append g).mono j⟩)⟩
def gv(ho:OpR X f (rI C h))(hc:∀i j,c i j=true->C i j)(d:∀i j F,bN X.K F (g i j) (h i j)):uL X f (q8 c g):=by
 rintro l s σ H x y v u Q I a b ⟨r,t,F,st,w,B,D,p,e,R,m,o,k⟩
 unfold q8 at e;split at e
 ·obtain⟨q,rfl⟩:=aM e;rw[aH.mp m]at a;rw[aH.mp o]at b;exact ho l s σ H _ _ v u Q I a b ⟨_,_,rfl,rfl,hc _ _ q,k _ H F R (Gr.refl F) (d _ _ F)⟩
 ·cases e
def zh(ho:OpR X f (Nx h)):OpR X f (rI (λ_ _=>True) h):=(by rintro a s σ H x y v u Q I b c ⟨i,j,d,e,_,q⟩;exact ho a s σ H x y v u Q I b c ⟨i,j,d,e,q⟩)
end
def Uo:Operator->Option G2
 | .Add=>some eG
 | .Sub=>some YG
 | .Mult=>some tV
 | .FloorDiv=>some iJ
 | .Mod=>some gk
 | .Pow=>some Og
 | _=>none
def Oj(h:Uo op=some g):uL X (binaryOp op) g:=by
 unfold Uo at h;split at h<;>cases h
 ·exact Oh
 ·exact gv (zh Tz) (by grind) λ_ _ _=>aH.mpr rfl
 ·exact gv TC (λi j e=>show(-Ef<i/\i<Ef)\/(-Ef<j/\j<Ef)from d9 e) λ_ _ _=>aH.mpr rfl
 ·exact gv Nz (λ_ j e=>show 0<j/\j<1073741824 from d9 e) λ_ _ _=>aH.mpr rfl
 ·exact gv TF (λ_ _ e=>d9 e) λ_ _ _=>aH.mpr rfl
 ·exact gv TJ (λ_ _ e=>let ⟨a,c,b⟩:=d9 e;⟨a,by lia,nH b (by decide)⟩) λ_ _ _=>aH.mpr rfl
inductive Tr where
 | bj | bl (b:Bool) | int (i:Int) | str (x:Str) | ao (xs:List Tr) | lst (xs:List Tr)
mutual
def eqT:Tr->Tr->Bool
 | .bj,.bj=>true
 | .bl a,.bl b=>a==b
 | .bl a,.int b=>(if a then 1 else 0)==b
 | .int a,.bl b=>a==(if b then 1 else 0)
 | .int a,.int b=>a==b
 | .str a,.str b=>a==b
 | .ao xs,.ao c=>mf xs c
 | .lst xs,.lst c=>mf xs c
 | _,_=>false
def mf:List Tr->List Tr->Bool
 | [],[]=>true
 | x::xs,y::a=>eqT x y&&mf xs a
 | _,_=>false
end
mutual
def dep:Tr->Nat
 | .ao xs=>kH xs+1
 | .lst xs=>kH xs+1
 | _=>0
def kH:List Tr->Nat
 | []=>0
 | x::xs=>max (dep x) (kH xs)
end
mutual
theorem iK:∀p:Tr,eqT p p=true
 | .bj=>rfl
 | .bl b=>ly b
 | .int b=>ly b
 | .str b=>ly b
 | .ao xs=>nN xs
 | .lst xs=>nN xs
theorem nN:∀ps:List Tr,mf ps ps=true
 | []=>rfl
 | x::xs=>fI.mpr ⟨iK x,nN xs⟩
end
theorem mh:∀{xs a:List Tr},xs.length≠a.length->mf xs a=false
 | [],[],h=>absurd rfl h
 | [],_::_,_=>rfl
 | _::_,[],_=>rfl
 | x::xs,y::a,h=>by show(eqT x y&&mf xs a)=false;rw[mh (by simpa using h),Bool.and_false]
noncomputable def q9(xs a:List Tr)(j:Nat):Bool:=match xs[j]?,a[j]? with
 | some x,some y=>eqT x y
 | _,_=>true
theorem mi:∀{xs a:List Tr},xs.length=a.length->(List.range xs.length).all (q9 xs a)=mf xs a
 | [],[],_=>rfl
 | [],_::_,h=>by cases h
 | _::_,[],h=>by cases h
 | x::xs,y::a,h=>by
  have ih:=mi (by simpa using h)
  rw[aN,Bu,gi,List.all_map];have b:q9 (x::xs) (y::a) 0=eqT x y:=rfl;have e1:(q9 (x::xs) (y::a) ∘ Nat.succ)=q9 xs a:=by
   funext j
   simp[q9,Function.comp]
  rw[b,e1,ih];rfl
def Eg(h1:xs.length=m)(h2:a.length=n):((List.range (min m n)).all (q9 xs a)&&(m==n))=mf xs a:=by
 subst h1 h2;by_cases h:xs.length=a.length
 ·rw[<-h,Nat.min_self,mi h];simp
 ·rw[mh h];simp[h]
mutual
def dF(s:Shared):Tr->Value->Prop
 | .bj,u=>u=.none
 | .bl b,u=>u=.bool b
 | .int i,u=>∃t,u=.int i t
 | .str x,u=>∃t,u=.str x t
 | .ao d,u=>∃a c,u=.ref a/\s.heap.IsTuple a c.toArray/\cB s d c
 | .lst d,u=>∃a c,u=.ref a/\s.heap.IsList a c.toArray/\cB s d c
def cB(s:Shared):List Tr->List Value->Prop
 | [],us=>us=[]
 | t::a,us=>∃u r,us=u::r/\dF s t u/\cB s a r
end
section
variable {A:Around} {s:Shared}
theorem cB.len:∀{a:List Tr} {us:List Value},cB s a us->a.length=us.length
 | [],_,h=>by simp only[cB]at h;rw[h];rfl
 | _::_,_,h=>by
  simp only[cB]at h;obtain⟨u,r,rfl,_,h⟩:=h;simp[cB.len h]
def kj(h1:s.heap.IsTuple a x)(h2:s.heap.IsTuple a y):x=y:=by
 obtain⟨o,e,_,n,d⟩:=h1;obtain⟨f,b,_,g,c⟩:=h2;rw[e]at b;cases b;rw[d]at c;cases c;rfl
def lW(h1:s.heap.IsList a x)(h2:s.heap.IsList a y):x=y:=by
 obtain⟨o,e,_,n,d⟩:=h1;obtain⟨f,b,_,g,c⟩:=h2;rw[e]at b;cases b;rw[d]at c;cases c;rfl
def rf(h1:s.heap.IsTuple a x)(h2:s.heap.IsList a y):False:=by
 obtain⟨o,e,c,n,d⟩:=h1;obtain⟨g,b,f,h,i⟩:=h2;rw[e]at b;cases b;rw[c]at f;simp at f
mutual
theorem dF.inj:∀{p q:Tr} {u:Value},dF s p u->dF s q u->p=q
 | .bj,q,u,h,c=>by cases q<;>simp_all [dF]
 | .bl b,q,u,h,c=>by cases q<;>simp_all [dF]
 | .int b,q,u,h,c=>by
  simp only[dF]at h;obtain⟨t,rfl⟩:=h;cases q<;>simp_all [dF]
 | .str b,q,u,h,c=>by
  simp only[dF]at h;obtain⟨t,rfl⟩:=h;cases q<;>simp_all [dF]
 | .ao xs,q,u,h,c=>by
  simp only[dF]at h;obtain⟨a,j,rfl,f,k⟩:=h;cases q with
  | ao l =>
   simp only[dF]at c;obtain⟨b,g,e,d,i⟩:=c;cases e;have:=kj f d;have e:j=g:=by simpa using this
   subst e;rw[cB.inj k i]
  | lst l =>
   simp only[dF]at c;obtain⟨b,g,e,d,i⟩:=c;cases e;exact(rf f d).elim
  | _=>simp[dF]at c
 | .lst xs,q,u,h,c=>by
  simp only[dF]at h;obtain⟨a,j,rfl,f,k⟩:=h;cases q with
  | lst l =>
   simp only[dF]at c;obtain⟨b,g,e,d,i⟩:=c;cases e;have:=lW f d;have e:j=g:=by simpa using this
   subst e;rw[cB.inj k i]
  | ao l =>
   simp only[dF]at c;obtain⟨b,g,e,d,i⟩:=c;cases e;exact(rf d f).elim
  | _=>simp[dF]at c
theorem cB.inj:∀{ps a:List Tr} {us:List Value},cB s ps us->cB s a us->ps=a
 | [],a,us,h,b=>by
  simp only[cB]at h;subst h;cases a with
  | nil=>rfl
  | cons _ _=>simp[cB]at b
 | p::ps,a,us,h,b=>by
  simp only[cB]at h;obtain⟨u,r,rfl,c,d⟩:=h;cases a with
  | nil=>simp[cB]at b
  | cons q a =>
   simp only[cB]at b;obtain⟨i,j,e,f,g⟩:=b;cases e;rw[dF.inj c f,cB.inj d g]
end
def rg(h:b=c)(r:SeqAt.RcAt A s u w b):SeqAt.RcAt A s u w c:=h▸r
def lL(h:b = !c)(r:SeqAt.RcNeAt A s u w b):SeqAt.RcNeAt A s u w (!c):=h▸r
def Eh(c:∀x t,u≠.float x t)(h:SeqAt.RcAt A s u w b)(d:u=w->b=true):SeqAt.EqAt A s u w b:=λprog v E Q a=>by
 unfold eqBool;refine fM ?_;refine wpAny_ite_split (λz=>?_) (λ_=>?_)
 ·rw[d (bc z)]at a;exact af (qF (au a))
 ·cases u with
  | float x t=>exact absurd rfl (c x t)
  | _=>exact af (h prog v E _ (lx a))
def dF.Rm(h:dF s p u):∀y t,u≠.float y t:=λy t z=>by
 subst z;cases p<;>simp[dF]at h
mutual
theorem wH:∀(p q:Tr) (A:Around) (u w:Value),dF s p u->dF s q w->A.units+dep p<cLine->SeqAt.RcAt A s u w (eqT p q)/\SeqAt.RcNeAt A s u w (!(eqT p q))
 | .bj,q,A,u,w,e,c,f=>by
  have b:A.units<cLine := ‹_›;subst e;cases q with
  | bj=>cases c;exact⟨.none_none,.none_none⟩
  | bl=>cases c;exact⟨(.none_bool _),(.none_bool _)⟩
  | int=>obtain⟨t,rfl⟩:=c;exact⟨(.none_int _ _),(.none_int _ _)⟩
  | str=>obtain⟨t,rfl⟩:=c;exact⟨(.none_str _ _),(.none_str _ _)⟩
  | ao=>obtain⟨a,g,rfl,d,_⟩:=c;exact⟨(.none_tuple d b),(.none_tuple d b)⟩
  | lst=>obtain⟨a,g,rfl,d,_⟩:=c;exact⟨(.none_list d b),(.none_list d b)⟩
 | .bl k,q,A,u,w,e,c,f=>by
  have b:A.units<cLine := ‹_›;subst e;cases q with
  | bj=>cases c;exact⟨(.bool_none _),(.bool_none _)⟩
  | bl=>cases c;exact⟨(.bool_bool _ _),(.bool_bool _ _)⟩
  | int=>obtain⟨t,rfl⟩:=c;exact⟨(.bool_int _ _ _),(.bool_int _ _ _)⟩
  | str=>obtain⟨t,rfl⟩:=c;exact⟨(.bool_str _ _ _),(.bool_str _ _ _)⟩
  | ao=>obtain⟨a,g,rfl,d,_⟩:=c;exact⟨(.bool_tuple _ d b),(.bool_tuple _ d b)⟩
  | lst=>obtain⟨a,g,rfl,d,_⟩:=c;exact⟨(.bool_list _ d b),(.bool_list _ d b)⟩
 | .int k,q,A,u,w,e,c,f=>by
  have b:A.units<cLine := ‹_›;obtain⟨B,rfl⟩:=e;cases q with
  | bj=>cases c;exact⟨(.int_none _ _),(.int_none _ _)⟩
  | bl=>cases c;exact⟨(.int_bool _ _ _),(.int_bool _ _ _)⟩
  | int=>obtain⟨t,rfl⟩:=c;exact⟨(.int_int _ _ _ _),(.int_int _ _ _ _)⟩
  | str=>obtain⟨t,rfl⟩:=c;exact⟨(.int_str _ _ _ _),(.int_str _ _ _ _)⟩
  | ao=>obtain⟨a,g,rfl,d,_⟩:=c;exact⟨(.int_tuple _ _ d b),(.int_tuple _ _ d b)⟩
  | lst=>obtain⟨a,g,rfl,d,_⟩:=c;exact⟨(.int_list _ _ d b),(.int_list _ _ d b)⟩
 | .str k,q,A,u,w,e,c,f=>by
  have b:A.units<cLine := ‹_›;obtain⟨B,rfl⟩:=e;cases q with
  | bj=>cases c;exact⟨(.str_none _ _),(.str_none _ _)⟩
  | bl=>cases c;exact⟨(.str_bool _ _ _),(.str_bool _ _ _)⟩
  | int=>obtain⟨t,rfl⟩:=c;exact⟨(.str_int _ _ _ _),(.str_int _ _ _ _)⟩
  | str=>obtain⟨t,rfl⟩:=c;exact⟨(.str_str _ _ _ _),(.str_str _ _ _ _)⟩
  | ao=>obtain⟨a,g,rfl,d,_⟩:=c;exact⟨(.str_tuple _ _ d b),(.str_tuple _ _ d b)⟩
  | lst=>obtain⟨a,g,rfl,d,_⟩:=c;exact⟨(.str_list _ _ d b),(.str_list _ _ d b)⟩
 | .ao xs,q,A,u,w,e,c,f=>by
  have b:A.units<cLine:=by lia
  obtain⟨C,h,rfl,pL,o⟩:=e;cases q with
  | bj=>cases c;exact⟨(.tuple_none pL b),(.tuple_none pL b)⟩
  | bl=>cases c;exact⟨(.tuple_bool _ pL b),(.tuple_bool _ pL b)⟩
  | int=>obtain⟨t,rfl⟩:=c;exact⟨(.tuple_int _ _ pL b),(.tuple_int _ _ pL b)⟩
  | str=>obtain⟨t,rfl⟩:=c;exact⟨(.tuple_str _ _ pL b),(.tuple_str _ _ pL b)⟩
  | lst=>obtain⟨a,g,rfl,d,_⟩:=c;exact⟨(.tuple_list pL d b),(.tuple_list pL d b)⟩
  | ao l =>
   obtain⟨a,i,rfl,d,tR⟩:=c;have e1:xs.length=h.toArray.size:=by rw[eu,o.len]
   have r:l.length=i.toArray.size:=by rw[eu,tR.len]
   have v:=λj (x:j<h.toArray.size) (y:j<i.toArray.size)=>wI xs l A.in1 h i o tR (by rw[vP];have f:_+(kH _+1)<_:=f;lia) j (by simpa using x) (by simpa using y)
   exact⟨rg (Eg e1 r) (.tuples pL d b v),lL (by rw[Eg e1 r];rfl) (.tuples pL d b v)⟩
 | .lst xs,q,A,u,w,e,c,f=>by
  have b:A.units<cLine:=by lia
  obtain⟨C,h,rfl,pL,o⟩:=e;cases q with
  | bj=>cases c;exact⟨(.list_none pL b),(.list_none pL b)⟩
  | bl=>cases c;exact⟨(.list_bool _ pL b),(.list_bool _ pL b)⟩
  | int=>obtain⟨t,rfl⟩:=c;exact⟨(.list_int _ _ pL b),(.list_int _ _ pL b)⟩
  | str=>obtain⟨t,rfl⟩:=c;exact⟨(.list_str _ _ pL b),(.list_str _ _ pL b)⟩
  | ao=>obtain⟨a,g,rfl,d,_⟩:=c;exact⟨(.list_tuple pL d b),(.list_tuple pL d b)⟩
  | lst l =>
   obtain⟨a,i,rfl,d,tR⟩:=c;have e1:h.toArray.size=xs.length:=by rw[eu,o.len]
   have r:i.toArray.size=l.length:=by rw[eu,tR.len]
   by_cases m:xs.length=l.length
   ·have sz:h.toArray.size=i.toArray.size:=by rw[e1,r];exact m
    have v:=λj (x:j<h.toArray.size) (y:j<i.toArray.size)=>wI xs l A.in1 h i o tR (by rw[vP];have f:_+(kH _+1)<_:=f;lia) j (by simpa using x) (by simpa using y)
    exact⟨rg (by rw[e1,mi m];rfl) (.lists pL d sz b v),lL (by rw[e1,mi m];rfl) (.lists pL d sz b v)⟩
   ·have sz:(h.toArray.size != i.toArray.size)=true:=by rw[e1,r];simpa using m
    exact⟨rg (mh m).symm (.lists_lengths pL d sz b),lL (cV not (mh m)).symm (.lists_lengths pL d sz b)⟩
theorem wI:∀(ps a:List Tr) A (us zs:List Value),cB s ps us->cB s a zs->A.units+kH ps<cLine ->
  ∀j h1 (h2:j<zs.length),SeqAt.EqAt A s us[j] zs[j] (q9 ps a j)
 | [],a,A,us,zs,b,b2,d=>λj h1 h2=>by
  simp only[cB]at b;subst b;cases h1
 | p::ps,a,A,us,zs,b,b2,d=>λj h1 h2=>by
  simp only[cB]at b;obtain⟨u,k,rfl,c,h⟩:=b;cases a with
  | nil =>
   simp only[cB]at b2;subst b2;cases h2
  | cons q a =>
   simp only[cB]at b2;obtain⟨z,l,rfl,f,i⟩:=b2;have g:A.units+dep p<cLine/\A.units+kH ps<cLine:=by
    simp only[kH]at d
    lia
   cases j with
   | zero =>
    refine Eh c.Rm (wH p q A _ _ c f g.1).1 λe=>?_
    simp only[List.getElem_cons_zero]at e;rw[e]at c;rw[c.inj f];exact iK q
   | succ j=>exact wI ps a A _ _ h i g.2 j (by simpa using h1) (by simpa using h2)
end
def Up(a:dF s p u)(b2:dF s q w)(b:A.units+dep p<cLine):SeqAt.EqAt A s u w (eqT p q):=by
 refine Eh a.Rm (wH p q A _ _ a b2 b).1 λz=>?_
 rw[z]at a;rw[a.inj b2];exact iK q
end
noncomputable def cb{a b:Type}(f:a->Option b):List a->Option (List b)
 | []=>some []
 | x::xs=>(f x).bind λy=>(cb f xs).map λc=>y::c
def JE:Kd->List Tr->Option Tr
 | .ao,a=>some (.ao a)
 | .lst,a=>some (.lst a)
 | _,_=>none
def toT(h:List ak):Nat->PV->Option Tr
 | 0,_=>none
 | n+1,p=>match p with
  | .bj=>some .bj
  | .bl b=>some (.bl b)
  | .int i=>some (.int i)
  | .str x=>some (.str x)
  | .fn _=>none
  | p=>(cw h p).bind λq=>(cb (toT h n) q.2).bind (JE q.1)
def dX(h:cb f (x::xs)=some a):∃y r,f x=some y/\cb f xs=some r/\a=y::r:=by
 obtain⟨y,b,c⟩:=aR h;obtain⟨r,d,e⟩:=br c;exact⟨y,r,b,d,e.symm⟩
theorem wJ(h:List ak):∀(n:Nat) (p:PV) (t:Tr),toT h n p=some t->dep t<=n
 | 0,_,_,e=>by cases e
 | n+1,p,t,e=>by
  have d:((cw h p).bind λq=>(cb (toT h n) q.2).bind (JE q.1))=some t->dep t<=n+1:=λe=>by
   obtain⟨q,_,e⟩:=aR e;obtain⟨a,e1,c⟩:=aR e;have hd:∀b a,cb (toT h n) b=some a->kH a<=n:=by
    intro b;induction b with
    | nil=>intro a z;cases z;simp[kH]
    | cons p b ih =>
     intro a z;obtain⟨y,r,f,g,rfl⟩:=dX z;have:=wJ h n p y f;have:=ih r g;simp only[kH];lia
   have:=hd _ _ e1;unfold JE at c;split at c<;>cases c<;>simp only[dep]<;>lia
  unfold toT at e;split at e<;>first | (cases e;simp[dep];done) | (cases e;done) | exact d e
section
variable {X:Cx} {ae:List (Addr×Obj)} {σ τ:St} {s:Shared} {aa H:Hp} {ab F:Fz} {st:cz}
theorem Rep.tree(R:Rep X.K aa ab F st τ H)(I:Inv X ae σ H s):∀(n:Nat) (p:PV) (t:Tr) (v:V) (u:Value),toT st.h n p=some t->bN X.K F p v->RelV v u->dF s t u
 | 0,_,_,_,_,e,_,_=>by cases e
 | n+1,p,t,v,u,e,b,r=>by
  have C:((cw st.h p).bind λq=>(cb (toT st.h n) q.2).bind (JE q.1))=some t->dF s t u:=λe=>by
   obtain⟨⟨k,f⟩,D,e⟩:=aR e;obtain⟨g,e1,i⟩:=aR e;obtain⟨a,j,rfl,d,B⟩:=R.at D b;have hd:∀f g j o,cb (toT st.h n) f=some g->aB X.K F f j->Vals j o->cB s g o:=by
    intro f;induction f with
    | nil=>intro g j o z b r;cases z;rw[b.cW]at r;cases r;simp[cB]
    | cons p f ih =>
     intro g j o z b r;obtain⟨y,q,E,d,rfl⟩:=dX z;obtain⟨v,w,rfl,J,b2⟩:=b.cy;cases r with
     | cons L m =>
      simp only[cB];exact⟨_,_,rfl,R.tree I n p y v _ E J L,ih q w _ d b2 m⟩
   cases r
   match k,i,d with
   | .ao,i,d =>
    cases i;obtain⟨x,m,pl,_⟩:=I.tuple d.2;simp only[dF];exact⟨a,x,rfl,pl,hd _ _ _ _ e1 B m⟩
   | .lst,i,d =>
    cases i;obtain⟨x,m,pl,_⟩:=I.list (kW.sq d);simp only[dF];exact⟨a,x,rfl,pl.isList,hd _ _ _ _ e1 B m⟩
  unfold toT at e;split at e
  ·cases e;rw[dn.mp b]at r;cases r;simp[dF]
  ·cases e;rw[b8.mp b]at r;cases r;simp[dF]
  ·cases e;rw[aH.mp b]at r;obtain⟨t,rfl⟩:=r;simp[dF]
  ·cases e;rw[cL.mp b]at r;obtain⟨t,rfl⟩:=r;simp[dF]
  ·cases e
  ·exact C e
end
def e9:Nat:=1000
def eqB(h:List ak)(p q:PV):Option Bool:=(toT h e9 p).bind λx=>(toT h e9 q).map λy=>eqT x y
def iL:G2:=λh p q=>(eqB h p q).map .bl
def JF:G2:=λh p q=>(eqB h p q).map λb=>.bl !b
noncomputable def JG:PV->Bool
 | .bj=>true
 | _=>false
def YI:G2:=λ_ p q=>match q with | .bj=>some (.bl (JG p)) | _=>none
def Oo(h:List ak)(p:PV)(ps:List PV):Option Bool:=(toT h e9 p).bind λx=>(cb (toT h e9) ps).map λa=>a.any λy=>eqT y x
section
variable {X:Cx}
def zi(e:eqB h p q=some b):∃x y,toT h e9 p=some x/\toT h e9 q=some y/\b=eqT x y:=by
 obtain⟨x,e1,e⟩:=aR e;obtain⟨y,a,c⟩:=br e;exact⟨x,y,e1,a,c.symm⟩
def Uq(l:X.A.units+1150<cLine):uL X (compareOp .Eq) iL:=by
 rintro m s σ H x y v u Q I a c ⟨o,q,F,st,r,t,B,p,e,R,d,f,k⟩
 obtain⟨b,g,rfl⟩:=br e;obtain⟨h,i,e1,j,rfl⟩:=zi g;have hd:=wJ _ _ _ _ e1;exact(wH h i X.A v u (R.tree I _ _ _ _ _ e1 d a) (R.tree I _ _ _ _ _ j f c) (by unfold e9 at hd;lia)).1 X.prog X.w X.xe _ ⟨.bl _,H,I,rfl,k _ H F R (Gr.refl F) (b8.mpr rfl)⟩
def Ur(l:X.A.units+1150<cLine):uL X (compareOp .NotEq) JF:=by
 rintro m s σ H x y v u Q I a c ⟨o,q,F,st,r,t,B,p,e,R,d,f,k⟩
 obtain⟨b,g,rfl⟩:=br e;obtain⟨h,i,e1,j,rfl⟩:=zi g;have hd:=wJ _ _ _ _ e1;exact(wH h i X.A v u (R.tree I _ _ _ _ _ e1 d a) (R.tree I _ _ _ _ _ j f c) (by unfold e9 at hd;lia)).2 X.prog X.w X.xe _ ⟨.bl _,H,I,rfl,k _ H F R (Gr.refl F) (b8.mpr rfl)⟩
def Ei{K:W.Frag}(b:bN K F p x):decide (x=.bj)=JG p:=by
 cases p with
 | bj=>rw[dn.mp b];rfl
 | bl _=>rw[b8.mp b];rfl
 | int _=>rw[aH.mp b];rfl
 | str _=>rw[cL.mp b];rfl
 | ref _=>obtain⟨_,_,rfl⟩:=c8.mp b;rfl
 | fn _=>obtain⟨_,rfl,_⟩:=qW.mp b;rfl
 | nd _ _=>obtain⟨_,_,rfl,_⟩:=je.mp b;rfl
def Us:uL X (compareOp .Is) YI:=by
 rintro a s σ H x y v u Q I b c ⟨g,h,F,st,i,j,l,p,e,R,d,f,k⟩
 unfold YI at e;split at e
 ·cases e;exact TL a s σ H x y v u Q I b c ⟨dn.mp f,k _ H F R (Gr.refl F) (b8.mpr (by rw[Ei d]))⟩
 ·cases e
open Classical in
noncomputable def mj (s:Shared) (p:Tr) (u:Value):Bool:=if h:∃q,dF s q u then eqT h.choose p else false
def Ej(b:dF s q u):mj s p u=eqT q p:=by
 have h:∃q,dF s q u:=⟨q,b⟩
 unfold mj;rw[dif_pos h,dF.inj h.choose_spec b]
theorem wK:∀{a:List Tr} {us:List Value},cB s a us->us.any (mj s p)=a.any λy=>eqT y p
 | [],_,b=>by simp only[cB]at b;subst b;rfl
 | q::a,_,b=>by
  simp only[cB]at b;obtain⟨u,r,rfl,c,d⟩:=b;rw[ja,ja,Ej c,wK d]
theorem wL(d:dF s p w):∀{c:List Tr} {us:List Value},cB s c us->A.units+kH c<cLine->∀u∈us,SeqAt.EqAt A s u w (mj s p u)
 | [],_,b,_=>λu a=>by simp only[cB]at b;subst b;cases a
 | q::c,_,b,f=>λu a=>by
  simp only[cB]at b;obtain⟨h,r,rfl,e,g⟩:=b;simp only[kH]at f;rcases aF.mp a with rfl | a
  ·rw[Ej e];exact Up e d (by lia)
  ·exact wL d g (by lia) u a
theorem Rep.trees{st:cz}(R:Rep X.K k m F st o H)(I:Inv X t σ H s)(n:Nat):∀(ps:List PV) (a:List Tr) (vs:List V) (us:List Value),cb (toT st.h n) ps=some a->aB X.K F ps vs->Vals vs us->cB s a us/\kH a<=n
 | [],a,vs,us,z,b,r=>by cases z;rw[b.cW]at r;cases r;simp[cB,kH]
 | p::ps,a,vs,us,z,b,r=>by
  obtain⟨y,q,d,e,rfl⟩:=dX z;obtain⟨v,w,rfl,f,b2⟩:=b.cy;cases r with
  | cons g i =>
   obtain⟨j,u⟩:=R.trees I n ps q w _ e b2 i;have:=wJ _ _ _ _ d;simp only[kH];exact⟨⟨_,_,rfl,R.tree I n p y v _ d f g,j⟩,by lia⟩
def JH(e:Oo h p ps=some b):∃x a,toT h e9 p=some x/\cb (toT h e9) ps=some a/\b=a.any λy=>eqT y x:=by
 obtain⟨x,e1,e⟩:=aR e;obtain⟨y,c,d⟩:=br e;exact⟨x,y,e1,c,d.symm⟩
def JI(N:X.A.units+1150<cLine){st:cz}(I:Inv X i σ H s)(o:RelV x v)(p:RelV y u)(R:Rep X.K T Y F st Z H)(B:bN X.K F C x)(D:bN X.K F E y)
  (J:Cw st.h E=some ps) (L:Oo st.h C ps=some b) :
  (Q (.bl b) H->wpAny (model X.prog X.w) X.A (compareOp .In v u) (EP X i σ Q) X.xe s)/\(Q (.bl !b) H->wpAny (model X.prog X.w) X.A (compareOp .NotIn v u) (EP X i σ Q) X.xe s):=by
 obtain⟨t,j,e1,k,rfl⟩:=JH L;obtain⟨a,vs,rfl,d,l⟩:=R.seq J D;have m:=R.tree I _ _ _ _ _ e1 B o;cases p;rcases d with d | d
 ·obtain⟨c,r,pl,_⟩:=I.tuple d;obtain⟨e,g⟩:=R.trees I _ _ _ _ _ k l r;have f:=λw (hw:w∈c.toArray)=>wL (A:=X.A.in1) m e (by rw[vP];unfold e9 at g;lia) w (by grind)
  have M:c.toArray.any (mj s t)=j.any λy=>eqT y t:=by rw[show c.toArray.any (mj s t)=c.any (mj s t) by simp,wK e]
  exact⟨λq=>SeqAt.in_tupleAt (mj s t) pl f ⟨.bl _,H,I,rfl,by grind⟩,λq=>SeqAt.notIn_tupleAt (mj s t) pl f ⟨.bl _,H,I,rfl,by grind⟩⟩
 ·obtain⟨c,r,pl,_⟩:=I.list d.sq;obtain⟨e,g⟩:=R.trees I _ _ _ _ _ k l r;have f:=λw (hw:w∈c.toArray)=>wL (A:=X.A.in1) m e (by rw[vP];unfold e9 at g;lia) w (by grind)
  have M:c.toArray.any (mj s t)=j.any λy=>eqT y t:=by rw[show c.toArray.any (mj s t)=c.any (mj s t) by simp,wK e]
  exact⟨λq=>SeqAt.in_listAt (mj s t) pl.isList f ⟨.bl _,H,I,rfl,by grind⟩,λq=>SeqAt.notIn_listAt (mj s t) pl.isList f ⟨.bl _,H,I,rfl,by grind⟩⟩
end
section
variable {K:W.Frag} {F:Fz}
def aB.km{ps:List PV}{vs:List V}{i:Int}{p:PV}(h:aB K F ps vs)(e:L2.km ps i=some p):∃v,L2.km vs i=some v/\bN K F p v:=by
 unfold L2.km at e ⊢;rw[<-h.length];cases z:NW ps.length i with
 | none=>rw[z]at e;cases e
 | some j =>
  rw[z]at e;exact h.get e
def jU(xs:List PV)(lo a:Option Int):List PV:=(xs.drop (HT.eE xs.length 0 lo)).take (HT.eE xs.length xs.length a-HT.eE xs.length 0 lo)
def aB.cut{ps:List PV}{vs:List V}(h:aB K F ps vs)(lo a:Option Int):aB K F (jU ps lo a) (yU vs lo a):=by
 unfold jU yU;rw[h.length];exact(h.drop _).take _
def dG{p:PV}{vs:List V}(b:aB K F [p] vs):∃v,vs=[v]/\bN K F p v:=by
 obtain⟨v,r,rfl,c,d⟩:=b.cy;rw[d.cW];exact⟨v,rfl,c⟩
def jl{p q:PV}{vs:List V}(b:aB K F [p,q] vs):∃v w,vs=[v,w]/\bN K F p v/\bN K F q w:=by
 obtain⟨v,r,rfl,c,d⟩:=b.cy;obtain⟨w,rfl,e⟩:=dG d;exact⟨v,w,rfl,c,e⟩
end
def mn{prog:Program}{w:World}{A:Around}{E:Value->Shared->Prop}{s:Shared}{t c:Addr}{a:Array Value}{d e:Value}{lo b:Option Int}{Q:Value->Shared->Prop}(ht:IsTup s.heap t a)(f:s.heap.IsSliceOf c d e .none)(pl:IsPart d lo)(g:IsPart e b)
  (i:HT.eE a.size 0 lo=0) (h1:HT.eE a.size a.size b=a.size) (h:Q (.ref t) s):wpAny (model prog w) A (getItem (.ref t) (.ref c)) Q E s:=by
 obtain⟨j,k,l,o⟩:=id f;have m:s.TypeIs (.ref c) "slice":=⟨j,k,l⟩;unfold getItem
 try with_reducible refine fM ?_
 first | refine af (au ?_) | skip
 refine af (wpAny_sequenceKey ht.typeIs (by decide) ?_)
 refine af (lj ht.typeIs nk (iq nk ht.typeIs entry_tuple_getitem ?_ (args_tuple_getitem _ _)));show wpAny _ _ (Builtin.Tuple.tupleItemsOf (.ref t) >>= _) _ _ s;refine af (tupleItemsOf_ ht (af (qC m ?_)));refine af (HT.iG f pl g ?_);have hc:(((HT.eE a.size 0 lo:Nat):Int)==0&&(1:Int)==1&&(HT.eE a.size a.size b-HT.eE a.size 0 lo)==a.size)=true:=by
  rw[i,h1];simp
 show wpAny _ _ (if(((HT.eE a.size 0 lo:Nat):Int)==0&&1==1&&(HT.eE a.size a.size b-HT.eE a.size 0 lo)==a.size)=true then _ else _) _ _ s
 rw[if_pos hc];unfold Builtin.Tuple.tupleIsExact;refine af (af (qC ht.typeIs (au ?_)));exact af (qF (au ⟨_,rfl,au h⟩))
def Gn(h:List ak)(lo b:Option Int)(p:PV):Option PV:=match cw h p with
 | some (.lst,a)=>some (.lst (jU a lo b))
 | some (.ao,a)=>some (.ao (jU a lo b))
 | _=>none
section
variable {X:Cx} {aa:Hp} {ab:Fz} {a b e:Expr} {es:List Expr} {fa fb:Gx PV} {ts:Gx (List PV)} {pos p1 p2:Pos} {lo hi:Option Expr}
def rSl(K:W.Frag):V->Option Int->Option Int->Hp->VK->Prop:=λx lo hi H Q=>∃aa ab F c f g p,Gn c.h lo hi g=some p/\Rep K aa ab F c f H/\bN K F g x/\∀v i d,Rep K aa ab d c f i->Gr F d->bN K d p v->Q v i
def slT:SlR X (rSl X.K):=by
 rintro t s σ H x v u w lo hi y Q I i j pl pu ⟨aa,ab,F,st,J,C,p,e,R,l,k⟩
 unfold Gn at e;split at e
 ·rename_i z;cases e;obtain⟨a,d,rfl,h,f⟩:=R.at z l;refine NY t s σ H _ v u w lo hi y Q I i j pl pu ⟨a,d,rfl,kW.sq h,λq m=>?_⟩
  obtain⟨R2,g⟩:=R.laid (.lst (yU d lo hi)) m;exact k _ _ _ R2 g (gu.mpr ⟨q,_,rfl,kW.of aE,(f.cut lo hi).mono g⟩)
 ·rename_i B z;cases e;cases C with
  | nd kk pp =>
   cases z;obtain⟨a,d,rfl,h,f⟩:=cq.mp l;by_cases hw:HT.eE d.length 0 lo=0/\HT.eE d.length d.length hi=d.length
   ·cases i;obtain⟨D,r,ht,L⟩:=I.tuple (bt R.sub h);have M:D.toArray.size=d.length:=by rw[eu];exact r.length.symm
    refine⟨"tuple",_,nk.lookup,ht.typeIs,?_⟩;refine mn ht j pl pu (by grind) (by grind) ⟨.ref a,H,I,rfl,k _ H F R (Gr.refl F) ?_⟩
    have hc:jU B lo hi=B:=by
     unfold jU;rw[f.length,hw.1,hw.2,List.drop_zero,Nat.sub_zero,<-f.length,List.take_length]
    rw[hc];exact l
   ·refine TY t s σ H _ v u w lo hi y Q I i j pl pu ⟨a,d,rfl,bt R.sub h,hw,λq m=>?_⟩
    obtain⟨R2,g⟩:=R.laid (.ao (yU d lo hi)) m;exact k _ _ _ R2 g (cq.mpr ⟨q,_,rfl,gT.of aE,(f.cut lo hi).mono g⟩)
  | ref n =>
   obtain⟨c,e1,E⟩:=aR z;obtain⟨o,N⟩:=aM E;have hk:c.k=.ao:=by grind
   unfold live at o;rw[hk]at o;cases o
  | _=>cases z
 ·cases e
abbrev Ut(X:Cx)(aa:Hp)(ab:Fz)(f:Gx (Option Int)):TO:=tX X aa ab (λ_ a b=>a=b) f
def _root_.L2.PO.imp{X:Cx}{e:Option Expr}{t t':TO}(h:PO X e t)(hi:∀c H Q,t' c H Q->t c H Q):PO X e t':=λd s c H Q I hw=>h d s c H Q I (hi _ _ _ hw)
def kJ:PV->Option Int | .int i=>some i | _=>none
def fO{p:PV}{i:Int}(h:kJ p=some i):p=.int i:=by
 cases p<;>first | (cases h;rfl) | cases h
def rh(fe:Gx PV):Gx (Option Int):=bnd fe λp=>jS ((kJ p).map some)
def Uu:PO X none (Ut X aa ab (aW none)):=NT.imp λc H Q h=>wG h λ_=>rfl
def Uv(h:PE X e (tE X aa ab fa)):PO X (some e) (Ut X aa ab (rh fa)):=(NU h).imp λσ H Q ⟨F,st,R,h⟩=>⟨F,st,R,h.bnd λp v F1 j d f k c g=>by
 obtain⟨o,e,z⟩:=g.jS;obtain⟨i,e1,rfl⟩:=br e;rw[fO e1]at c;exact⟨i,aH.mp c,z _ d F1 f (Gr.refl _) rfl⟩⟩
def cutE(fa:Gx PV)(c d:Gx (Option Int)):Gx PV:=bnd fa λp=>bnd c λl=>bnd d λr=>hp λh=>Gn h l r p
def YJ{c d:Gx (Option Int)}(f:PE X e (tE X aa ab fa))(g:PO X lo (Ut X aa ab c))(i:PO X hi (Ut X aa ab d)):PE X (.Subscript e (.Slice lo hi none p2) pos) (tE X aa ab (cutE fa c d)):=(Jn slT f g i).imp λσ H Q ⟨F,st,R,h⟩ =>
 ⟨F,st,R,h.bnd λp v F1 j I k J m q=>⟨F1,j,k,q.bnd λl L F2 t M R2 u b2 w=>⟨F2,t,R2,w.bnd λr N x y T B C D E=>by
  cases b2;cases D;obtain⟨o,e,z⟩:=E.hp;exact⟨aa,ab,x,y,σ,p,o,e,B,m.mono (u.trans C),z⟩⟩⟩⟩
abbrev GC:=List ak->List PV->Option PV
def rC(K:W.Frag)(g:GC):List V->Hp->VK->Prop:=λk H Q=>∃aa ab F c f i p,g c.h i=some p/\Rep K aa ab F c f H/\aB K F i k/\∀v j d,Rep K aa ab d c f j->Gr F d->bN K d p v->Q v j
abbrev JJ(X:Cx)(f:Value)(g:GC):Prop:=lX X f (rC X.K g)
def gw(g:GC)(ts:Gx (List PV)):Gx PV:=bnd ts λc=>hp λh=>g h c
def mq{g:GC}{c:St}{H:Hp}{Q:VK}(h:tE X aa ab (gw g ts) c H Q):tCB (rC X.K g) (tA X aa ab ts) c H Q:=by
 obtain⟨F,d,R,h⟩:=h;refine⟨F,d,R,h.bnd λf m F1 i p j q k l=>?_⟩
 obtain⟨o,e,z⟩:=l.hp;exact⟨aa,ab,F1,i,c,f,o,e,j,k,z⟩
def YK(h:List ak)(p:PV):Option Nat:=match cw h p with
 | some (.ao,c)=>some c.length
 | some (.lst,c)=>some c.length
 | some (.fu _ ks,_)=>some ks.length
 | _=>none
def gK:GC:=λh c=>match c with
 | [.str z]=>if z.length<=fD then some (.int z.length)else none
 | [p]=>(YK h p).map λn=>.int n
 | _=>none
def Gp:GC:=λh d=>match d with
 | [.nd .ao c]=>some (.ao c)
 | [p]=>(qZ h p).map λc=>.ao c
 | _=>none
noncomputable def Gq:GC:=λ_ c=>match c with
 | [.int i]=>some (.int i)
 | [.bl b]=>some (.int (if b then 1 else 0))
 | _=>none
noncomputable def Gs:GC:=λ_ c=>match c with
 | [.int i]=>if 0<=i/\i<1000 then some (.str (toString i))else none
 | _=>none
def uO(ps:List PV):Option (List Int):=cb kJ ps
def Gu:GC:=λh c=>match c with
 | [p]=>(qZ h p).bind λd=>(uO d).map λf=>.int f.sum
 | _=>none
def zj{A:Around}{E:Value->Shared->Prop}{s:Shared}{d:Addr}{o:Obj}{es:Array DictEntry}{f n:Nat}{Q:Value->Shared->Prop}(hd:(d==sysModules)=false)(ho:s.heap.get? d=some o)(hc:o.ExactDict)(g:o.data=.dict es f)(i:es.size=n)(j:(n:Int)<2^63)
  (h:Q (.int n (s.toks+1)) {s with toks:=s.toks+1+1}):wpAny (model X.prog X.w) A (call (.builtin "len") [.ref d]) Q E s:=by
 have ty:s.TypeIs (.ref d) "dict":=⟨o,ho,hc.1⟩;have k:MeetsIn X.prog X.w (Builtin.«dict.__len__» ⟨[.ref d],[]⟩) (λ_ R c=>c.heap.get? d=some o/\R (.ok (.ret (.int n c.toks))) {c with toks:=c.toks+1}):=.of_wp <| by
  rintro A R c ⟨l,m⟩
  show wpAny _ _ (dictSize d >>= _) _ _ c;refine af (af (qp l g (au ?_)));refine af (wpAny_pendingCount_other hd ?_);refine wpAny_ret_mkInt ?_;rw[Nat.add_zero,i];exact m
 refine Calls.call_function_entry kind_len plain_len entry_len (args_len1 _) ?_;refine af (au ?_);refine af (lj ty F.slot_dict_len (call_meetsIn F.slot_dict_len ty F.entry_dict_len (F.args_dict_len_1 _) k ⟨ho,?_⟩));show wpAny _ _ _ _ _ {s with toks:=s.toks+1}
 refine af (fM (au ?_));refine af (wpAny_letGo ?_);show wpAny _ _ (if((n:Nat):Int)>=2^63 then _ else _) _ _ _
 rw[if_neg (by lia)]
 exact af (wpAny_mkInt (au ⟨_,rfl,h⟩))
def El{n:Nat}(h:n<=sizeLine):(n:Int)<2^63:=by
 have d:n<=2^62:=bK h (by decide)
 have c:2^62=4611686018427387904:=by decide
 lia
def Oq{k:List (Addr×Obj)}{s:Shared}{l:St}{H:Hp}{a:Addr}{t:Bool}{ks:List (List bz)}{vs:List V}{m:List Value}{Q:VK}{F:Hp}(I:Inv X k l H s)(x:Vals [V.ref a] m)(h:kC X.K F H a false (.fu t ks) vs)(q:Q (.int ks.length) H):wpAny (model X.prog X.w) X.A (call (.builtin "len") m) (λu B=>∃v H',Inv X k l H' B/\RelV v u/\Q v H') X.xe s:=by
 obtain⟨u,rfl,C⟩:=jx x;cases C;cases t with
 | false =>
  obtain⟨c,d,D,M⟩:=h;obtain⟨z,y,ws,hk,o,es,E,f,g,i,p,r,N⟩:=(I.hok a _ d);have j:ks.length=c.length:=by grind
  have J:es.size=ks.length:=by rw[j,nC hk,<-r.length,ip]
  exact zj y f g i J (El (by grind)) ⟨.int ks.length,H,I.tok _,⟨_,rfl⟩,q⟩
 | true =>
  obtain⟨L,d,_,D,_⟩:=h;obtain⟨z,y,o,es,E,f,g,i,p,r⟩:=(I.hok a _ d);have j:ks.length=L.length:=by grind
  exact zj y f g i (by rw[<-ip,p,aj,j]) (El (by grind)) ⟨.int ks.length,H,I.tok _,⟨_,rfl⟩,q⟩
def Gv:JJ X (.builtin "len") gK:=by
 rintro g s σ H xs us Q I rs ⟨aa,ab,F,st,i,j,p,e,R,bs,k⟩
 unfold gK at e;split at e
 ·obtain⟨h,rfl⟩:=aM e;obtain⟨v,rfl,b⟩:=dG bs;rw[cL.mp b]at rs;exact wB g s σ H _ us Q I rs ⟨_,rfl,fx h,k _ H F R (Gr.refl F) (aH.mpr rfl)⟩
 ·obtain⟨n,e1,rfl⟩:=br e;obtain⟨v,rfl,b⟩:=dG bs;unfold YK at e1;split at e1
  ·rename_i z;cases e1;obtain⟨a,d,rfl,c,f⟩:=R.at z b;exact l8 g s σ H _ us Q I rs ⟨a,d,rfl,.inr c.2,k _ H F R (Gr.refl F) (aH.mpr (by rw[f.length]))⟩
  ·rename_i z;cases e1;obtain⟨a,d,rfl,c,f⟩:=R.at z b;exact l8 g s σ H _ us Q I rs ⟨a,d,rfl,.inl (kW.sq c),k _ H F R (Gr.refl F) (aH.mpr (by rw[f.length]))⟩
  ·rename_i z;cases e1;obtain⟨a,d,rfl,c,f⟩:=R.at z b;exact Oq I rs c (k _ H F R (Gr.refl F) (aH.mpr rfl))
  ·cases e1
 ·cases e
def Gw:JJ X (.type "tuple") Gp:=by
 rintro f s σ H xs us Q I rs ⟨aa,ab,F,st,j,l,p,e,R,bs,k⟩
 unfold Gp at e;split at e
 ·cases e;obtain⟨v,rfl,b⟩:=dG bs;obtain⟨a,c,rfl,d,g⟩:=cq.mp b;exact kY f s σ H _ us Q I rs ⟨a,c,rfl,.inr ⟨bt R.sub d,k _ H F R (Gr.refl F) b⟩⟩
 ·obtain⟨m,e1,rfl⟩:=br e;obtain⟨v,rfl,b⟩:=dG bs;obtain⟨a,c,rfl,d,g⟩:=R.at (iI e1) b;refine kY f s σ H _ us Q I rs ⟨a,c,rfl,.inl ⟨kW.sq d,λq i=>?_⟩⟩
  obtain⟨R2,h⟩:=R.laid (.ao c) i;exact k _ _ _ R2 h (cq.mpr ⟨q,_,rfl,gT.of aE,g.mono h⟩)
 ·cases e
def Gy:JJ X (.type "int") Gq:=by
 rintro c s σ H xs us Q I rs ⟨aa,ab,F,st,d,f,p,e,R,bs,k⟩
 unfold Gq at e;split at e
 ·cases e;obtain⟨v,rfl,b⟩:=dG bs;rw[aH.mp b]at rs;exact uA c s σ H _ us Q I rs (.inl ⟨_,rfl,k _ H F R (Gr.refl F) (aH.mpr rfl)⟩)
 ·cases e;obtain⟨v,rfl,b⟩:=dG bs;rw[b8.mp b]at rs;exact uA c s σ H _ us Q I rs (.inr ⟨_,rfl,k _ H F R (Gr.refl F) (aH.mpr rfl)⟩)
 ·cases e
def Gz:JJ X (.type "str") Gs:=by
 rintro c s σ H xs us Q I rs ⟨aa,ab,F,st,d,f,p,e,R,bs,k⟩
 unfold Gs at e;split at e
 ·rename_i i;obtain⟨⟨g,j⟩,rfl⟩:=aM e;obtain⟨v,rfl,b⟩:=dG bs;rw[aH.mp b]at rs;exact wu c s σ H _ us Q I rs ⟨i,rfl,(by
   by_cases h:i.natAbs=0
   ·simp_all
   ·exact ny (Nat.log2_le_self _) (by lia)),k _ H F R (Gr.refl F) (cL.mpr rfl)⟩
 ·cases e
theorem zm{K:W.Frag}{F:Fz}:∀{ps:List PV} {ns:List Int} {vs:List V},uO ps=some ns->aB K F ps vs->vs=ns.map V.int
 | [],ns,vs,h,b=>by cases h;exact b.cW
 | p::r,ns,vs,h,b=>by
  obtain⟨i,j,f,g,rfl⟩:=dX h;obtain⟨v,k,rfl,c,d⟩:=b.cy;rw[fO f]at c;rw[aH.mp c,zm g d];rfl
def Ot{d:List (Addr×Obj)}{f:St}{H:Hp}{s:Shared}{F:Fz}(I:Inv X d f H s){a:Addr}{vs:List V}{ps:List PV}{c:List Int}(g:uO ps=some c)(h:kW X.K H a vs)(i:aB X.K F ps vs) :
  ∃xs:Array (Int×Tok),s.heap.IsList a (intItems xs)/\c=xs.toList.map (·.1):=by
 obtain⟨k,r,pl,_⟩:=I.list h.sq;have j:=zm g i;subst j;have hi:=Cp r;obtain⟨xs,ex⟩:=hi.allInts.items;exact⟨xs,by rw[<-ex];exact pl.isList,by rw[<-hi.numsOf,<-nums_intItems,<-ex]⟩
def GA(hc:X.A.handled=none):JJ X (.builtin "sum") Gu:=by
 rintro o s σ H c us Q I rs ⟨aa,ab,F,st,q,r,p,e,R,bs,k⟩
 unfold Gu at e;split at e
 ·obtain⟨t,e1,e⟩:=aR e;obtain⟨d,f,rfl⟩:=br e;obtain⟨v,rfl,b⟩:=dG bs;obtain⟨a,w,rfl,g,h⟩:=R.at (iI e1) b;obtain⟨c,i,j⟩:=Ot I f g h;obtain⟨u,rfl,l⟩:=jx rs;cases l;refine sum_intListG hc i λx y m hk=>⟨.int d.sum,H,I.kept hk,⟨m,?_⟩,k _ H F R (Gr.refl F) (aH.mpr rfl)⟩
  rw[preSum_eq,qf (by simp),j]
 ·cases e
inductive Ty where
 | int | str | bool | tuple | list
noncomputable def Ty.nm:Ty->String
 | .int=>"int" | .str=>"str" | .bool=>"bool" | .tuple=>"tuple" | .list=>"list"
def YL(h:List ak):PV->Option String
 | .bj=>some "NoneType"
 | .bl _=>some "bool"
 | .int _=>some "int"
 | .str _=>some "str"
 | p=>match cw h p with
  | some (.ao,_)=>some "tuple"
  | some (.lst,_)=>some "list"
  | _=>none
def Uw(t:Ty)(y:String):Bool:=y==t.nm || (t.nm=="int"&&y=="bool")
def Ux(t:Ty)(fa:Gx PV):Gx PV:=bnd fa λp=>hp λh=>(YL h p).map λy=>.bl (Uw t y)
def rIs(K:W.Frag)(t:Ty):List V->Hp->VK->Prop:=λd H Q=>∃aa ab F c f p x y,d=[x,.ty t.nm]/\Rep K aa ab F c f H/\bN K F p x/\YL c.h p=some y/\Q (.bl (Uw t y)) H
def Ou(t:Ty):lX X (.builtin "isinstance") (rIs X.K t):=by
 rintro m s σ H xs us Q I rs ⟨aa,ab,F,st,D,p,x,y,ex,R,b,c,q⟩
 subst ex;obtain⟨u,w,rfl,f,r⟩:=QX rs;cases r;have kX:∀g,EP X m σ Q (.bool (Uw t y)) {s with toks:=g}:=λg=>⟨.bl _,H,I.tok g,rfl,q⟩
 have d:(match cw st.h p with
  | some (.ao,_)=>some "tuple"
  | some (.lst,_)=>some "list"
  | _=>none)=some y->wpAny (model X.prog X.w) X.A (call (.builtin "isinstance") [u,.type t.nm]) (EP X m σ Q) X.xe s:=λc=>by
  split at c
  ·rename_i z;cases c;obtain⟨a,v,rfl,j,B⟩:=R.at z b;cases f;obtain⟨C,_,⟨o,l,j,_⟩,_⟩:=I.tuple j.2;exact W.kia_one W.kitx_tuple I.qL ⟨o,l,j⟩ (by cases t<;>kernel_rfl) (λz=>nomatch z) kX
  ·rename_i z;cases c;obtain⟨a,v,rfl,j,B⟩:=R.at z b;cases f;obtain⟨C,n,_,l,_⟩:=I.Ee j;exact W.kia_one W.kitx_list I.qL ⟨_,l,rfl⟩ (by cases t<;>kernel_rfl) (λz=>nomatch z) kX
  ·cases c
 cases p with
 | bj =>
  cases c;rw[dn.mp b]at f;cases f;exact W.kia_one W.kitx_none I.qL True.intro (by cases t<;>kernel_rfl) (λz=>nomatch z) kX
 | bl y =>
  cases c;rw[b8.mp b]at f;cases f;exact W.kia_one W.kitx_bool I.qL True.intro (by cases t<;>kernel_rfl) (λz=>nomatch z) kX
 | int i =>
  cases c;rw[aH.mp b]at f;obtain⟨g,rfl⟩:=f;exact W.kia_one W.kitx_int I.qL True.intro (by cases t<;>kernel_rfl) (λz=>nomatch z) kX
 | str y =>
  cases c;rw[cL.mp b]at f;obtain⟨g,rfl⟩:=f;exact W.kia_one W.kitx_str I.qL True.intro (by cases t<;>kernel_rfl) (λz=>nomatch z) kX
 | ref n=>exact d c
 | fn x=>exact d c
 | nd k E=>exact d c
def pf:bootBuiltins "isinstance"=some (.builtin "isinstance"):=by kernel_rfl
def kr(t:Ty):bootBuiltins (Str.ofString t.nm)=some (.type t.nm):=by cases t<;>kernel_rfl
noncomputable def tys:List Ty:=[.int,.str,.bool,.tuple,.list]
def Em(x:Str):Option Ty:=tys.find? λt=>x==Str.ofString t.nm
def JK{x:Str}{t:Ty}(h:Em x=some t):x=Str.ofString t.nm:=by
 have:=List.find?_some h;exact bc this
def ac2{x:Str}{t:Ty}(ht:Em x=some t)(i:Gl X "isinstance")(j:X.mg "isinstance"=none)(c:Gl X x)(d:X.mg x=none)(k:PE X a (tE X aa ab fa))(f:∀es,starEach (a::es) X.env=(false,eval a X.env)::starEach es X.env) :
  PE X (.Call (.Name "isinstance" p1) [a,.Name x p2] [] pos) (tE X aa ab (Ux t fa)):=by
 have l:=JK ht;subst l;refine(qR (Ou t) i j pf (ji k (ji (Ni (v:=.ty t.nm) c d (kr t) rfl (by cases t<;>decide) (by cases t<;>decide)) qQ rfl) (f _)) (by decide) (by decide) (f _)).imp λσ H Q ⟨F,st,R,h⟩=>?_
 refine⟨F,st,R,h.bnd λp v F1 m q g w r u=>?_⟩
 obtain⟨o,e,z⟩:=u.hp;obtain⟨y,e1,rfl⟩:=br e;exact⟨aa,ab,F1,m,σ,p,v,y,rfl,g,r,e1,z _ q F1 g (Gr.refl _) (b8.mpr rfl)⟩
def zq(fa:Gx PV):Gx PV:=bnd fa λp=>jS ((kJ p).map λi=>.int (-i))
def YM(d:PE X a (tE X aa ab fa)):PE X (.UnaryOp .USub a pos) (tE X aa ab (zq fa)):=(XR TK d).imp λσ H Q ⟨F,st,R,h⟩=>⟨F,st,R,h.bnd λp v F1 k f g l c j=>by
 obtain⟨o,e,z⟩:=j.jS;obtain⟨i,e1,rfl⟩:=br e;rw[fO e1]at c;exact⟨i,aH.mp c,z _ f F1 g (Gr.refl _) (aH.mpr rfl)⟩⟩
end
noncomputable def zu:PV->Option bz
 | .int i=>some (.inl i)
 | .str x=>some (.inr x)
 | _=>none
def gM:Bool->PV->Option (List bz)
 | false,p=>(zu p).map λk=>[k]
 | true,.nd .ao a=>if a.length<1000 then cb zu a else none
 | true,_=>none
noncomputable def jC(k:List bz)(ks:List (List bz)):Bool:=ks.any λj=>decide (j=k)
noncomputable def eH(k:List bz):List (List bz)->List PV->Option PV
 | j::ks,p::a=>if j=k then some p else eH k ks a
 | _,_=>none
noncomputable def tW(k:List bz)(q:PV):List (List bz)->List PV->List PV
 | j::ks,p::a=>(if j=k then q else p)::tW k q ks a
 | _,a=>a
def rj:tW k q [] ps=ps:=by cases ps<;>rfl
def mr(t:Bool)(k:List bz)(q:PV)(ks:List (List bz))(ps:List PV):ak:=if jC k ks=true then⟨.fu t ks,tW k q ks ps⟩else⟨.fu t (ks++[k]),ps++[q]⟩
section
variable {K:W.Frag} {F:Fz}
def rm(h:zu p=some k)(b:bN K F p v):v=kV k:=by
 cases p<;>cases h
 ·exact aH.mp b
 ·exact cL.mp b
theorem uP:∀{ps:List PV} {ks:List bz} {vs:List V},cb zu ps=some ks->aB K F ps vs->vs=ks.map kV
 | [],_,_,h,b=>by cases h;exact b.cW
 | _::_,_,_,h,b=>by
  obtain⟨k,r,a,c,rfl⟩:=dX h;obtain⟨v,w,rfl,d,b2⟩:=b.cy;rw[rm a d,uP c b2];rfl
def iM(h:gM false p=some k)(b:bN K F p v):∃j,k=[j]/\v=kV j:=by
 obtain⟨j,e,rfl⟩:=br h;exact⟨j,rfl,rm e b⟩
def jV(h:gM true p=some k)(b:bN K F p v):∃c,v=.ref c/\gT K F.F c (k.map kV):=by
 unfold gM at h;split at h
 ·grind
 ·obtain⟨_,h⟩:=bP h;obtain⟨c,e,rfl,a,d⟩:=cq.mp b;rw[uP h d]at a;exact⟨c,rfl,a⟩
 ·cases h
theorem jW(j:bz):∀kvs:List (bz×V),jC [j] (kvs.map λy=>[y.1])=(gW kvs j).isSome
 | []=>rfl
 | (i,v)::r=>by
  have ih:=jW j r;unfold jC at ih ⊢;rw[aI,ja,ih];by_cases h:i=j
  ·subst h;rw[l9 rfl];simp
  ·rw[me h];simp[h]
theorem pN:∀{kvs:List (bz×V)} {ps:List PV} {p:PV},eH [j] (kvs.map λy=>[y.1]) ps=some p->aB K F ps (kvs.map (·.2))->∃v,gW kvs j=some v/\bN K F p v
 | [],_,_,h,_=>by cases h
 | (i,v)::r,[],_,h,_=>by cases h
 | (i,v)::r,q::ps,p,h,b=>by
  obtain⟨d,w,e,c,b2⟩:=b.cy;cases e;have h:(if [i]=[j]then some q else eH [j] (r.map λy=>[y.1]) ps)=some p:=h
  by_cases a:i=j
  ·subst a;rw[if_pos rfl]at h;cases h;exact⟨v,l9 rfl,c⟩
  ·rw[if_neg (by grind)]at h
   rw[me a];exact pN h b2
def JL(a:bN K F q v)(b:aB K F ps (kvs.map (·.2))) :
  ∃c d,mr false [j] q (kvs.map λy=>[y.1]) ps=⟨.fu false c,d⟩/\(putK kvs j v).map (λy=>[y.1])=c/\aB K F d ((putK kvs j v).map (·.2)):=by
 unfold mr putK;rw[jW,qT];cases e:(gW kvs j).isSome with
 | false=>exact⟨_,_,rfl,by simp,by simpa using b.append (.cons a .nil)⟩
 | true =>
  refine⟨_,_,rfl,?_,?_⟩
  ·rw[if_pos rfl,c6];exact BG λy _=>by grind
  ·rw[if_pos rfl];clear e;induction kvs generalizing ps with
   | nil=>rw[nE,rj];exact b
   | cons y r ih =>
    cases ps with
    | nil=>have:=b.length;simp at this
    | cons p ps =>
     obtain⟨h,w,e,g,b2⟩:=b.cy;simp only[aI,BV]at e;obtain⟨rfl,rfl⟩:=e;have ih:=ih b2;by_cases f:y.1=j
     ·simpa only[aI,tW,f,jQ]using aB.cons a ih
     ·have:¬ [y.1]=[j]:=by grind
      simpa only[aI,tW,f,this,fq]using aB.cons g ih
def Cz(k:List bz)(xs:List (List bz×Addr×Value)):jC k (xs.map (·.1))=(atKey xs k).isSome:=(Gk xs k).symm
theorem En:∀{xs:List (List bz×Addr×Value)} {ps:List PV} {vs:List V} {p:PV},eH k (xs.map (·.1)) ps=some p->aB K F ps vs->Vals vs (xs.map (·.2.2))->∃a r v,atKey xs k=some (a,r)/\RelV v r/\bN K F p v
 | [],_,_,_,h,_,_=>by cases h
 | x::r,[],_,_,h,_,_=>by cases h
 | x::r,q::ps,vs,p,h,b,e=>by
  obtain⟨f,w,rfl,g,b2⟩:=b.cy;cases e with
  | cons i j =>
   have h:(if x.1=k then some q else eH k (r.map (·.1)) ps)=some p:=h
   by_cases c:x.1=k
   ·rw[if_pos c]at h;cases h;exact⟨x.2.1,x.2.2,f,by simp[atKey,c],i,g⟩
   ·rw[if_neg c]at h;obtain⟨a,l,v,d,m,o⟩:=En h b2 j;exact⟨a,l,v,by unfold atKey at d ⊢;rw[qA,lB c];exact d,m,o⟩
def Uy(l:bN K F q v)(m:RelV v r)(hc:gT K F.F c (k.map kV))(hk:eU K F.F xs)(b:aB K F ps vs)(f:Vals vs (xs.map (·.2.2))) :
  ∃o t d,mr true k q (xs.map (·.1)) ps=⟨.fu true o,t⟩/\(storedH xs k c r).map (·.1)=o/\eU K F.F (storedH xs k c r)/\aB K F t d/\Vals d ((storedH xs k c r).map (·.2.2)):=by
 unfold mr storedH;rw[Cz];cases e:(atKey xs k).isSome with
 | false =>
  refine⟨_,_,vs++[v],rfl,by simp,λx a=>?_,b.append (.cons l .nil),by simpa using f.append (.cons m .nil)⟩
  simp only[jM,fq,aX,ax]at a;rcases a with a | rfl
  ·exact hk x a
  ·exact hc
 | true =>
  simp only[jQ];have u:(xs.map (putAt k r)).map (·.1)=xs.map (·.1):=by
   rw[c6];exact BG λy _=>by simp only[Function.comp,putAt];split<;>rfl
  have g:eU K F.F (xs.map (putAt k r)):=λx a=>by
   obtain⟨y,B,rfl⟩:=az.mp a;have:=hk y B;unfold putAt;split<;>exact this
  suffices h:∃d,aB K F (tW k q (xs.map (·.1)) ps) d/\Vals d ((xs.map (putAt k r)).map (·.2.2)) by
   obtain⟨d,i,j⟩:=h;exact⟨_,_,d,rfl,u,g,i,j⟩
  clear e hk u g;induction xs generalizing ps vs with
  | nil=>exact⟨vs,by rw[nE,rj];exact b,f⟩
  | cons x xs ih =>
   cases ps with
   | nil=>rw[b.cW]at f;cases f
   | cons p ps =>
    obtain⟨C,w,rfl,D,b2⟩:=b.cy;cases f with
    | cons E H =>
     obtain⟨d,i,j⟩:=ih b2 H;by_cases a:x.1=k
     ·exact⟨v::d,by simpa only[aI,tW,a,jQ]using aB.cons l i,by simpa only[aI,putAt,a,jQ]using Paired.cons m j⟩
     ·exact⟨C::d,by simpa only[aI,tW,a,fq]using aB.cons D i,by simpa only[aI,putAt,a,fq]using Paired.cons E j⟩
end
def bR:G2:=λh p q=>match p with
 | .str z=>(kJ q).bind λi=>if z.length<=fD then(km z.cps.toList i).map λc=>.str ⟨#[c]⟩else none
 | p=>match cw h p with
  | some (.ao,a)=>(kJ q).bind (km a)
  | some (.lst,a)=>(kJ q).bind (km a)
  | some (.fu t ks,a)=>(gM t q).bind λk=>eH k ks a
  | _=>none
section
variable {X:Cx} {aa:Hp} {ab:Fz} {a b e:Expr} {fa fb:Gx PV} {pos:Pos}
def ixT(hu:X.A.units+1150<cLine):WT X (rT X.K bR):=by
 rintro value slice M s σ H x y v u Q I D g ⟨aa,ab,F,st,τ,pa,pb,p,e,R,N,l,k⟩ E
 have d:(match cw st.h pa with
  | some (.ao,q)=>(kJ pb).bind (km q)
  | some (.lst,q)=>(kJ pb).bind (km q)
  | some (.fu t ks,q)=>(gM t pb).bind λk=>eH k ks q
  | _=>none)=some p->wpAny (model X.prog X.w) X.A (subscriptTail value slice v u) (EP X M σ Q) X.xe s:=λe=>by
  split at e
  ·rename_i z;obtain⟨i,e1,f⟩:=aR e;rw[fO e1]at l;rw[aH.mp l]at g;obtain⟨a,T,rfl,B,C⟩:=R.at z N;obtain⟨w,hw,m⟩:=C.km f;exact T1 value slice M s σ H _ _ v u Q I D g ⟨a,T,_,w,rfl,rfl,B.2,hw,k _ H F R (Gr.refl F) m⟩ E
  ·rename_i z;obtain⟨i,e1,f⟩:=aR e;rw[fO e1]at l;rw[aH.mp l]at g;obtain⟨a,T,rfl,B,C⟩:=R.at z N;obtain⟨w,hw,m⟩:=C.km f;exact NX value slice M s σ H _ _ v u Q I D g ⟨a,T,_,w,rfl,rfl,kW.sq B,hw,k _ H F R (Gr.refl F) m⟩ E
  ·rename_i t ks q z;obtain⟨kk,e1,f⟩:=aR e;obtain⟨a,T,rfl,B,C⟩:=R.at z N;cases D;cases t with
   | false =>
    obtain⟨kvs,Y,Z,g3⟩:=B;obtain⟨j,rfl,rfl⟩:=iM e1 l;subst Z g3;obtain⟨w,hw,m⟩:=pN f C;obtain⟨_,hd,us,CB,dd⟩:=Ea I.hok (.inl Y);have J:=CB.val j;rw[hw]at J;cases hv:valueAt us j with
    | none=>rw[hv]at J;exact J.elim
    | some u' =>
     rw[hv]at J;exact tail_any dd.typeIs PySem.F.slot_dict_getitem.lookup (wpAny_getItem_of (oI g) dd.mapOf hv ⟨w,H,I.tok _,J,k _ H F R (Gr.refl F) m⟩) E
   | true =>
    obtain⟨xs,Y,Z,g3,g4⟩:=B;obtain⟨c,rfl,hc⟩:=jV e1 l;cases g;subst g3;obtain⟨ad,r,w,hw,TZ,m⟩:=En f C g4;obtain⟨_,hd,dd⟩:=uK I (.inl Y) (λz L=>bt R.sub (Z z L))
    obtain⟨o,_,_,ho,hx,_⟩:=id dd;refine tail_any ⟨o,ho,hx.1⟩ PySem.F.slot_dict_getitem.lookup (Ye (by lia) I (.inl Y) (λz L=>bt R.sub (Z z L)) (bt R.sub hc) hw λs' I'=>⟨w,H,I',TZ,k _ H F R (Gr.refl F) m⟩) E
  ·cases e
 cases pa with
 | str z =>
  obtain⟨i,e1,f⟩:=aR e;rw[fO e1]at l;obtain⟨L,f⟩:=bP f;obtain⟨c,e3,rfl⟩:=br f;rw[cL.mp N]at D;rw[aH.mp l]at g;exact T2 value slice M s σ H _ _ v u Q I D g ⟨z,i,c,rfl,rfl,fx L,e3,k _ H F R (Gr.refl F) (cL.mpr rfl)⟩ E
 | bj=>exact d e
 | bl _=>exact d e
 | int _=>exact d e
 | ref _=>exact d e
 | fn _=>exact d e
 | nd _ _=>exact d e
def ac5(c:X.A.units+1150<cLine)(d:PE X a (tE X aa ab fa))(f:PE X b (tE X aa ab fb))(g:pK b):PE X (.Subscript a b pos) (tE X aa ab (op2 bR fa fb)):=(Ra (ixT c) d f g).imp λ_ _ _ h=>pM h
def pO(n:Bool):G2:=λh p q=>match cw h q with
 | some (.fu t ks,_)=>(gM t p).map λk=>.bl (if n=true then !jC k ks else jC k ks)
 | _=>(Cw h q).bind λc=>(Oo h p c).map λb=>.bl (if n=true then !b else b)
def Uz(r:X.A.units+1150<cLine):uL X (compareOp .In) (pO false):=by
 rintro J s σ H x y v u Q I d l ⟨aa,ab,F,st,L,M,N,p,e,R,f,m,k⟩
 unfold pO at e;split at e
 ·rename_i t ks T z;obtain⟨kk,e1,rfl⟩:=br e;obtain⟨a,Y,rfl,o,Z⟩:=R.at z m;cases l;cases t with
  | false =>
   obtain⟨g,h,i,q⟩:=o;obtain⟨j,rfl,rfl⟩:=iM e1 f;obtain⟨_,hd,us,w,B⟩:=Ea I.hok (.inl h);refine wpAny_in_of (oI d) hd B.mapOf ⟨.bl (gW g j).isSome,H,I.tok _,?_,k _ H F R (Gr.refl F) (b8.mpr ?_)⟩
   ·rw[(w.val j).uI];rfl
   ·rw[<-i,jW];rfl
  | true =>
   obtain⟨xs,h,i,q,g4⟩:=o;obtain⟨c,rfl,hc⟩:=jV e1 f;cases d;exact Yc (by lia) I (.inl h) (λz C=>bt R.sub (i z C)) (bt R.sub hc) λs' D=>⟨.bl _,H,D,rfl,k _ H F R (Gr.refl F) (b8.mpr (by rw[<-q,Cz];rfl))⟩
 ·obtain⟨qs,e1,e⟩:=aR e;obtain⟨b,E,rfl⟩:=br e;exact(JI r I d l R f m e1 E).1 (k _ H F R (Gr.refl F) (b8.mpr rfl))
def GB(r:X.A.units+1150<cLine):uL X (compareOp .NotIn) (pO true):=by
 rintro J s σ H x y v u Q I d l ⟨aa,ab,F,st,L,M,N,p,e,R,f,m,k⟩
 unfold pO at e;split at e
 ·rename_i t ks T z;obtain⟨kk,e1,rfl⟩:=br e;obtain⟨a,Y,rfl,o,Z⟩:=R.at z m;cases l;cases t with
  | false =>
   obtain⟨g,h,i,q⟩:=o;obtain⟨j,rfl,rfl⟩:=iM e1 f;obtain⟨_,hd,us,w,B⟩:=Ea I.hok (.inl h);refine wpAny_notIn_of (oI d) hd B.mapOf ⟨.bl (!(gW g j).isSome),H,I.tok _,?_,k _ H F R (Gr.refl F) (b8.mpr ?_)⟩
   ·rw[(w.val j).uI];rfl
   ·rw[<-i,jW];rfl
  | true =>
   obtain⟨xs,h,i,q,g4⟩:=o;obtain⟨c,rfl,hc⟩:=jV e1 f;cases d;exact Yd (by lia) I (.inl h) (λz C=>bt R.sub (i z C)) (bt R.sub hc) λs' D=>⟨.bl _,H,D,rfl,k _ H F R (Gr.refl F) (b8.mpr (by rw[<-q,Cz];rfl))⟩
 ·obtain⟨qs,e1,e⟩:=aR e;obtain⟨b,E,rfl⟩:=br e;exact(JI r I d l R f m e1 E).2 (k _ H F R (Gr.refl F) (b8.mpr rfl))
end
def UA:G2:=λ_ p q=>match q with | .bj=>some (.bl (!JG p)) | _=>none
def Ov:uL X (compareOp .IsNot) UA:=by
 rintro a s σ H x y v u Q I b c ⟨g,h,F,st,i,j,l,p,e,R,d,f,k⟩
 unfold UA at e;split at e
 ·cases e;exact NB a s σ H x y v u Q I b c ⟨dn.mp f,k _ H F R (Gr.refl F) (b8.mpr (by rw[Ei d]))⟩
 ·cases e
def CD:CmpOp->Option G2
 | .Eq=>some iL
 | .NotEq=>some JF
 | .Lt=>some JC
 | .LtE=>some leO
 | .GtE=>some geO
 | .Is=>some YI
 | .IsNot=>some UA
 | .In=>some (pO false)
 | .NotIn=>some (pO true)
 | _=>none
def ku(a:X.A.units+1150<cLine)(h:CD op=some g):uL X (compareOp op) g:=by
 have b:∀i j:Int,(λ_ _=>true) i j=true->(λ_ _=>True) i j:=by grind
 cases op<;>cases h
 ·exact Uq a
 ·exact Ur a
 ·exact gv (zh XS) b λ_ _ _=>b8.mpr rfl
 ·exact gv (zh XT) b λ_ _ _=>b8.mpr rfl
 ·exact gv (zh XU) b λ_ _ _=>b8.mpr rfl
 ·exact Us
 ·exact Ov
 ·exact Uz a
 ·exact GB a
end L2.U
namespace L2
open PySem PySem.Spec PyProof.Rows
section
variable {X:Cx}
def JM:PE X (.Dict [] [] pos) (Rc (.dK [])):=λa s b H Q I h =>
 wpAny_Dict_empty ⟨.ref s.heap.objs.size,_,I.laid (o:=.dK []) (λ_ _ q=>bg _ q) (aA _)
  ⟨fj _,eR.mpr (dt (bH (qU I))),[],.nil,Heap.DictOf.new s.heap⟩,rfl,h _ (I.hok.fresh (aA _))⟩
def YN:V->List V->Hp->VK->Prop:=λx c H Q=>∃a b k y,x=.ref a/\c=[kV k,y]/\H a=some (.dK b)/\b.length<sizeLine/\(∀v,gW b k=some v->Q v H)/\(gW b k=none->Q y (cx H a (.dK (b++[(k,y)]))))
def UB:WU X "dict.setdefault" YN:=by
 intro N s R H x T v Y Q I m p h;obtain⟨a,b,k,y,rfl,rfl,e,r,t,u⟩:=h;cases m;obtain⟨Z,B,rfl,C,g⟩:=p.two;obtain⟨z,hd,D,f,i⟩:=Jw I.hok e;refine call_meetsIn Im i.typeIs PySem.F.entry_dict_setdefault (PySem.F.args_dict_setdefault_3 _ _ _) (kt_meets_setdefault (b9 X.prog X.w) a (oI C) hd B) ⟨D,i,by rw[<-f.length];exact z,λw hw=>?_,λE J j L=>?_⟩
 ·have rk:=f.val k;rw[hw]at rk;cases d:gW b k with
  | none=>rw[d]at rk;exact rk.elim
  | some v0=>rw[d]at rk;exact⟨v0,H,I.tok _,rk,t v0 d⟩
 ·have rk:=f.val k;rw[E]at rk;have d:gW b k=none:=by
   cases d:gW b k with
   | none=>rfl
   | some v0=>rw[d]at rk;exact rk.elim
  have l:=f.put k g;rw[Jv y d]at l;have he:∃q,J.get? a=some q:=let ⟨q,_,_,M,_⟩:=j;⟨q,M⟩
  exact⟨y,_,I.write (o:=.dK (b++[(k,y)])) (by rw[e];exact True.intro) (.inl rfl) (λc q' hc z=>(L.2 c hc).trans z) he ⟨by rw[aZ];exact r,hd,_,l,j⟩,g,u d⟩
def Eo:V->List V->Hp->VK->Prop:=λx a H Q=>∃(l:Addr) (xs:List V) (i:Int) (y:V),x=.ref l/\a=[.int i,y]/\H l=some (.lst xs)/\xs.length<sizeLine/\0<=i/\i<=1000000/\Q .bj (cx H l (.lst (xs.take i.toNat++y::xs.drop i.toNat)))
def UC(c:0<=i)(d:i<=1000000):¬(!Builtin.List.listFitsIndex i)=true:=by
 unfold Builtin.List.listFitsIndex;have a:decide (-(2^63:Int)<=i)=true:=by grind
 have b:decide (i<2^63)=true:=by grind
 rw[a,b];simp
noncomputable def YO(i:Int)(u:Value):Array Value->Array Value:=λa=>have k:=if i<0 then(i+((a.size:Nat):Int)).toNat else min i.toNat a.size;(a.extract 0 k).push u++a.extract k
def Ox(e:0<=i)(a:List Value)(u:Value):YO i u a.toArray=(a.take i.toNat++u::a.drop i.toNat).toArray:=by
 unfold YO;have b:¬i<0:=by lia
 simp only[b,eu];apply Array.ext';simp only[List.extract_eq_drop_take];by_cases c:i.toNat<=a.length
 ·rw[Nat.min_eq_left c];have d:List.take (a.length-i.toNat) (List.drop i.toNat a)=List.drop i.toNat a:=qf (by grind)
  simp[d]
 ·grind
def GD:MtM X "list.insert" Eo:=by
 intro m s o H x p v u Q I f g h;obtain⟨l,w,i,y,rfl,rfl,a,B,b,j,q⟩:=h;cases f;obtain⟨C,c,rfl,⟨t,rfl⟩,k⟩:=g.two;obtain⟨z,d,n,r,D,e⟩:=I.gU a;have E:=r.length;have J:=I.NZ (t':=s.toks) a e (Ox b d c) ((r.take i.toNat).append (.cons k (r.drop i.toNat))) (by grind)
 exact lF F.slot_list_insert ⟨_,e,rfl⟩ F.entry_list_insert (F.args_list_insert_3 _ _ _) (@PySem.AutoListH.list_insert_list_int_val_1 l d.toArray n i t c (UC b j) (by grind)) ⟨e,.bj,_,J,rfl,q⟩
def UD(K:W.Frag):V->List V->Hp->VK->Prop:=λx d H Q=>∃l b c a,x=.ref l/\d=[.ref b]/\H l=some (.lst c)/\(gT K H b a\/kW K H b a)/\c.length+a.length<=sizeLine/\Q .bj (cx H l (.lst (c++a)))
def wM(l:Addr)(c:Array Value)(n:Nat)(b:Addr)(a:Array Value)(f:Nat)(i:Option Addr)(j:Array (Option Value))(m:¬(!c.isEmpty&&Builtin.List.listTooLong (c.size+a.size))=true)(h1:c.size<=sizeLine)(h2:c.size+a.size<=sizeLine+1) :
  Meets (Builtin.«list.extend» ⟨[.ref l,.ref b],[]⟩) (λ_ R s=>s.heap.get? l=some {cls:=.type "list",dict:=none,data:=.seq c n,slots:=#[]}/\s.heap.get? b=some {cls:=.type "tuple",dict:=i,data:=.seq a f,slots:=j} /\
   R (.ok (.ret Value.none)) {s with heap:=s.heap.update l (Obj.mapSeq λx=>x++a),toks:=s.toks}) :=
 .of_wp λprog w A R s h=>by
  obtain⟨hp,g,d,o,p⟩:=s;obtain⟨e,k,h⟩:=h;have q:=AutoSeq1.idx_int;have r:=AutoSeq1.sub_tuple_tuple;have t:=AutoSeq1.sub_list_list;have u:=AutoSeq1.sub_tuple_list;have v:=AutoSeq1.sub_list_tuple
  wp_walk using (wpAny_updateSeq e rfl (_hz':=(by rw[Array.size_append];exact h2))),jK e,jK k
  exact⟨_,rfl,h⟩
def UE:MtM X "list.extend" (UD X.K):=by
 intro y s B H x Y v Z Q I C D h;obtain⟨l,b,xs,E,rfl,rfl,t,f,hz,q⟩:=h;cases C;obtain⟨u,rfl,J⟩:=D.one;cases J;obtain⟨z,c,n,r,hl,e⟩:=I.gU t;have w:∀a,Vals E a->(¬(!c.toArray.isEmpty&&Builtin.List.listTooLong (c.toArray.size+a.toArray.size))=true/\c.toArray.size<=sizeLine/\c.toArray.size+a.toArray.size<=sizeLine+1) /\
   EP X y B Q Value.none {s with heap:=s.heap.update l (Obj.mapSeq λx=>x++a.toArray),toks:=s.toks}:=λa d=>by
  have L:=d.length;have g:c.toArray.size+a.toArray.size<=sizeLine:=by grind
  refine⟨⟨?_,by grind,(Nat.le_add_right_of_le ‹_›)⟩,.bj,_,I.NZ t e (by simp) (r.append d) (by grind),rfl,q⟩
  rw[Jr g,Bool.and_false];exact c5
 rcases f with f | f
 ·obtain⟨a,d,⟨⟨M,N,R,T⟩,i,hc,j,hd⟩,_⟩:=I.tuple f;simp only at hc hd;subst hc hd;obtain⟨⟨k,m,o⟩,p⟩:=w a d;exact lF F.slot_list_extend ⟨_,e,rfl⟩ F.entry_list_extend (F.args_list_extend_2 _ _) (wM l c.toArray n b a.toArray j N T k m o) ⟨e,i,p⟩
 ·obtain⟨a,j,d,i,_⟩:=I.Ee f;obtain⟨⟨k,m,o⟩,p⟩:=w a d;exact lF F.slot_list_extend ⟨_,e,rfl⟩ F.entry_list_extend (F.args_list_extend_2 _ _) (AutoSeq1.list_extend_list_list_0 l c.toArray n b a.toArray j k m o) ⟨e,i,p⟩
def Ep(kvs:List (bz×V))(k:bz)(v:V):(putK kvs k v).length<=kvs.length+1:=by
 unfold putK;split
 ·grind
 ·grind
def YQ:IV:=λo i v H Q=>∃a b k,o=.ref a/\i=kV k/\H a=some (.dK b)/\b.length<sizeLine/\Q (cx H a (.dK (putK b k v)))
def UG:IW X YQ:=by
 rintro w s σ H o i v x y u Q I g h j ⟨a,b,k,ex,l,e1,B,q⟩
 subst ex l;cases g;obtain⟨z,hd,C,e,m⟩:=Jw I.hok e1;refine wpAny_setItem_pairs (oI h) m (λp f d=>?_) (by rw[<-e.length];exact z)
 have r:=e.put k j;have he:∃q,p.get? a=some q:=let ⟨q,_,_,t,_⟩:=f;⟨q,t⟩
 exact⟨_,I.write (o:=.dK (putK b k v)) (by rw[e1];exact True.intro) (.inl rfl) (λc D hc z=>(d.2 c hc).trans z) he ⟨by have:=Ep b k v;lia,hd,_,r,f⟩,q⟩
def YR(K:W.Frag):IV:=λo i v H Q=>∃a b c k,o=.ref a/\i=.ref b/\H a=some (.dT c)/\eU K H c/\gT K H b (k.map kV)/\c.length<sizeLine/\∀r,RelV v r->Q (cx H a (.dT (storedH c k b r)))
def UH(c:X.A.units+1<cLine):IW X (YR X.K):=by
 rintro p s σ H o i v r t u Q I d e f ⟨a,b,xs,k,ex,g,e1,h,j,l,q⟩
 subst ex g;cases d;cases e;exact T4 c I e1 h j l λw m=>⟨_,m,q u f⟩
end
end L2
namespace L2.U
open PySem PySem.Spec PyProof.Rows
abbrev MG:=ak->List PV->Option (ak×PV)
def gX(h:List ak):PV->Option (Nat×ak)
 | .ref n=>(h[n]?).bind λc=>if live c=true then some (n,c)else none
 | _=>none
def eY(e:gX h p=some (n,c)):p=.ref n/\h[n]?=some c/\live c=true:=by
 cases p with
 | ref m =>
  obtain⟨d,e1,a⟩:=aR e;obtain⟨b,f⟩:=aM a;cases f;exact⟨rfl,e1,b⟩
 | _=>cases e
def iO(g:MG)(p:PV)(as:List PV):Gx PV:=λa=>(gX a.h p).bind λc=>(g c.2 as).map λr=>(.ok r.2,⟨a.ρ,a.h.set c.1 r.1⟩)
section
variable {X:Cx} {aa H:Hp} {ab F:Fz} {st:cz} {σ:St}
def zw(K:W.Frag)(r:V->List V->Hp->VK->Prop)(g:MG):Prop:=∀(aa H:Hp) (ab F:Fz) (st:cz) (σ:St) (n:Nat) (c d:ak) (a:Addr) (as:List PV) (ws:List V) (q:PV) (Q:VK),
 Rep K aa ab F st σ H->st.h[n]?=some c->live c=true->F.μ[n]?=some a->g c as=some (d,q)->aB K F as ws->(∀v b e,Rep K aa ab b ⟨st.ρ,st.h.set n d⟩ σ e->Gr F b->bN K b q v->Q v e)->r (.ref a) ws H Q
def Rep.put(R:Rep X.K aa ab F st σ H){c d:ak}(hc:st.h[n]?=some c)(b:live c=true)(e:F.μ[n]?=some a)(f:kC X.K F.F (cx H a o) a true d.k vs)(g:aB X.K F d.ps vs) :
  Rep X.K aa ab F ⟨st.ρ,st.h.set n d⟩ σ (cx H a o):=⟨R.c.write hc b e f g,R.l⟩
noncomputable def gU(f:List PV->List PV->Option (List PV)):MG:=λc as=>match c.k with
 | .lst=>(f c.ps as).map λa=>(⟨.lst,a⟩,.bj)
 | _=>none
def wN
  (h:∀(H:Hp) (F:Fz) (ps as b:List PV) (vs ws:List V) (a:Addr) (Q:VK) (h:List ak),cK F.F H->f ps as=some b->H a=some (.lst vs)->aB X.K F ps vs->aB X.K F as ws->(∀e,aB X.K F b e->Q .bj (cx H a (.lst e)))->r (.ref a) ws H Q):zw X.K r (gU f):=by
 intro aa H ab F st σ n c t a as ws q Q R hc g i d l k;unfold gU at d;split at d
 ·rename_i hk;obtain⟨b,e1,m⟩:=br d;cases m;obtain⟨_,vs,j,o⟩:=R.c.cell n c a hc i g;rw[hk]at j;exact h H F c.ps as b vs ws a Q st.h R.sub e1 j o l λe p=>k _ F _ (R.put hc g i aE p) (Gr.refl _) (dn.mpr rfl)
 ·cases d
def wO:List PV->List PV->Option (List PV):=λa as=>match as with | [p]=>if a.length<fD then some (a++[p])else none | _=>none
def Oy:zw X.K D9 (gU wO):=wN λH F j as l f ws a Q h m c g d e k=>by
 unfold wO at c;split at c
 ·obtain⟨i,rfl⟩:=aM c;obtain⟨v,rfl,b⟩:=dG e;exact⟨a,f,v,rfl,rfl,g,by rw[<-d.length];exact b6 i (fx (aA _)),k _ (d.append e)⟩
 ·cases c
def Oz:List PV->List PV->Option (List PV):=λa as=>match as with | []=>some a.reverse | _=>none
def OA:zw X.K yW (gU Oz):=wN λH F g as i c ws a Q h j b d e f k=>by
 unfold Oz at b;split at b
 ·cases b;exact⟨a,c,rfl,f.cW,d,k _ e.reverse⟩
 ·cases b
def JN:List PV->List PV->Option (List PV):=λa as=>match as with
 | [.int i,p]=>if(0<=i/\i<=1000000/\a.length<fD)then some (a.take i.toNat++p::a.drop i.toNat)else none
 | _=>none
def OB:zw X.K Eo (gU JN):=wN λH F o as p d ws a Q h q b e c f k=>by
 unfold JN at b;split at b
 ·obtain⟨⟨g,i,j⟩,rfl⟩:=aM b;obtain⟨r,l,rfl,m,b2⟩:=jl f;rw[aH.mp m];exact⟨a,d,_,l,rfl,rfl,e,b6 (by rw[<-c.length];exact j) (fx (aA _)),g,i,k _ ((c.take _).append (.cons b2 (c.drop _)))⟩
 ·cases b
def zx(p:PV)(as:List PV):Gx PV:=λst=>match as with
 | [q]=>(Cw st.h q).bind λa=>iO (gU λb _=>if b.length+a.length<=fD then some (b++a)else none) p [] st
 | _=>none
def zy:MG:=λc as=>match c.k,as with
 | .fu false ks,[a,y]=>(gM false a).bind λk=>if ks.length<fD then(if jC k ks=true then(eH k ks c.ps).map λp=>(c,p)else some (⟨.fu false (ks++[k]),c.ps++[y]⟩,y))else none
 | _,_=>none
def OC:zw X.K YN zy:=by
 intro aa H ab F st σ n c M a as ws q Q R hc t u f B k;unfold zy at f;split at f
 ·rename_i ks N y hk;obtain⟨kk,e1,d⟩:=aR f;obtain⟨T,d⟩:=bP d;obtain⟨Y,g,rfl,C,b2⟩:=jl B;obtain⟨j,rfl,rfl⟩:=iM e1 C;obtain⟨_,vs,m,o⟩:=R.c.cell n c a hc u t;have D:=m;rw[hk]at m;obtain⟨b,E,r,I⟩:=m;rw[<-I]at o;refine⟨a,b,j,g,rfl,rfl,E,(by
   have:ks.length=b.length:=by grind
   exact b6 (by grind) (fx (aA _))),λv l=>?_,λl=>?_⟩
  ·rw[if_pos (by rw[<-r,jW,l];rfl)]at d
   obtain⟨p,w,J⟩:=br d;cases J;rw[<-r]at w;obtain⟨Z,x,L⟩:=pN w o;rw[l]at x;cases x;have e:st.h.set n c=st.h:=by
    apply List.ext_getElem?;intro i;by_cases hi:n=i
    ·grind
    ·grind
   rw[e]at k;exact k v F H R (Gr.refl _) L
  ·rw[if_neg (by rw[<-r,jW,l];simp)]at d
   cases d;refine k g F _ (R.put (vs:=b.map (·.2)++[g]) hc t u ⟨b++[(j,g)],aE,by grind⟩ ?_) (Gr.refl _) b2
   exact o.append (.cons b2 .nil)
 ·cases f
def Tx.mut(b:zw X.K r g)(h:Tx X aa ab (bN X.K) F st (iO g p as) σ Q)(R:Rep X.K aa ab F st σ H)(d:bN X.K F p v)(e:aB X.K F as ws):r v ws H Q:=by
 obtain⟨q,f,i⟩:=h;obtain⟨⟨n,c⟩,e1,j⟩:=aR f;obtain⟨⟨k,x⟩,l,m⟩:=br j;subst m;obtain⟨rfl,hc,o⟩:=eY e1;obtain⟨a,t,rfl⟩:=c8.mp d;exact b aa H ab F st σ n c k a as ws x Q R hc o t l e λv u w y B C=>i v w u y B C
def Tx.ext{Q:VK}(h:Tx X aa ab (bN X.K) F st (zx p as) σ Q)(R:Rep X.K aa ab F st σ H)(l:bN X.K F p v)(m:aB X.K F as ws):UD X.K v ws H Q:=by
 obtain⟨x,d,o⟩:=h;unfold zx at d;split at d
 ·rename_i q;obtain⟨M,r,d⟩:=aR d;obtain⟨w,rfl,t⟩:=dG m;obtain⟨b,u,rfl,B,f⟩:=R.seq r t;obtain⟨⟨n,c⟩,e1,C⟩:=aR d;obtain⟨⟨N,y⟩,e,D⟩:=br C;subst D;obtain⟨rfl,hc,g⟩:=eY e1;obtain⟨a,i,rfl⟩:=c8.mp l;unfold gU at e;split at e
  ·rename_i hk;obtain⟨T,E,I⟩:=br e;cases I;obtain⟨J,rfl⟩:=aM E;obtain⟨_,L,j,k⟩:=R.c.cell n c a hc i g;rw[hk]at j;exact⟨a,b,L,u,rfl,rfl,j,B,by rw[<-k.length,<-f.length];exact fx J,o .bj _ F (R.put hc g i aE (k.append f)) (Gr.refl _) (dn.mpr rfl)⟩
  ·cases e
 ·cases d
end
section
variable {prog:Program} {w:World} {A:Around} {R:Result->Shared->Prop} {s:Shared}
abbrev nb(prog:Program)(w:World)(A:Around)(a:Env)(R:Result->Shared->Prop):Value->Shared->Prop:=notedBy (model prog w) A a λe b=>R (.error e) b
noncomputable abbrev Er(b:List Expr)(a:Env):Sem Bool:=forIn b true λc r=>if r=true then do let ok <-isTrue c a (eval c a);pure (ForInStep.yield ok)else pure (ForInStep.yield r)
def GF(I:Nat->Shared->Prop)
  (lH:∀n s,I n s->wpAny (model prog w) A (pyNext it) (λr s1=>match r with
   | none=>R (.ok .next) s1
   | some v=>wpAny (model prog w) A (letOwnedTupleGo d it v) (λ_ a=>wpAny (model prog w) A (assign d env v) (λ_ s2=>wpAny (model prog w) A (Er ifs env) (λok b =>
      if ok=true then wpAny (model prog w) A (eval elt env) (λx e=>wpAny (model prog w) A (call (.builtin "list.append") [acc,x]) (λ_ f=>∃m,m<n/\I m f) (nb prog w A env R) e) (nb prog w A env R) b
      else ∃m,m<n/\I m b) (nb prog w A env R) s2) (nb prog w A env R) a) (nb prog w A env R) s1) (nb prog w A env R) s)
  (n:Nat) (h:I n s):codeAny (model prog w) A (.compLoop (.ListComp elt [⟨d,iter,ifs,0⟩] scope pos) 0 it acc env) R s:=by
 refine codeAny_loop rfl I (λn s j=>?_) n h
 refine wpAny_noted ?_;rw[compTurn_list];refine af (wpAny_standAt (af (thn (lH n s j) λr s1 g=>?_)))
 cases r with
 | none=>exact au g
 | some v =>
  refine af (thn g λ_ a c=>af (thn c λ_ s2 k=>af (thn k λok b i=>?_)))
  cases ok with
  | false=>exact au ⟨rfl,i⟩
  | true=>exact af (af (thn i λx e l=>af (thn l λ_ f o=>au (au ⟨rfl,o⟩))))
end
noncomputable def jX(a:Env):List (Str×NameKind)->List (Str×Addr)->List (Str×Addr)
 | [],cs=>cs
 | (n,k)::r,cs=>jX a r (if k==.free then(match a.cells.lookup n with | some c=>(n,c)::cs | none=>cs)else cs)
def rn(h:∀y∈scope.names,y.2=.free->∃c,env.cells.lookup y.1=some c):closureFor scope env=pure (jX env scope.names []):=by
 have all:∀(l:List (Str×NameKind)) (cs:List (Str×Addr)),(∀y∈l,y.2=.free->∃c,env.cells.lookup y.1=some c) ->
   (forIn l cs λx r=>(match x with | (name,kind)=>if(kind==NameKind.free)=true then do let a <-cellOf env name;pure (ForInStep.yield ((name,a)::r))else pure (ForInStep.yield r):Sem (ForInStep (List (Str×Addr)))))=pure (jX env l cs):=by
  intro l;induction l with
  | nil=>intro cs _;rfl
  | cons y l ih =>
   intro cs b;obtain⟨n,k⟩:=y;rw[List.forIn_cons];by_cases hk:k=.free
   ·subst hk;obtain⟨c,hc⟩:=b (n,.free) aD rfl;have e:=hc;have e1:cellOf env n=pure c:=by unfold cellOf;rw[e]
    simp only[e1,jX,e];exact ih _ λy d=>b y (aG _ d)
   ·have f:(k==NameKind.free)=false:=by simpa using hk
    simp only[f,jX];exact ih _ λy d=>b y (aG _ d)
 unfold closureFor;have:=all scope.names [] h;simp only[bind_pure]at this ⊢;exact this
theorem zA:∀(l:List (Str×NameKind)) (cs:List (Str×Addr)) (p:Str×Addr),p∈jX env l cs->p∈cs\/env.cells.lookup p.1=some p.2
 | [],_,_,h=>.inl h
 | (n,k)::r,cs,p,h=>by
  unfold jX at h;rcases zA r _ p h with q | q
  ·grind
  ·grind
def cg(h:(jX env l []).lookup x=some c):env.cells.lookup x=some c:=by
 rcases zA l [] (x,c) (d8 h)with q | q
 ·cases q
 ·exact q
theorem uQ:∀(l:List (Str×NameKind)) (cs:List (Str×Addr)),(∃c,(x,c)∈cs)->∃c,(x,c)∈jX env l cs
 | [],_,h=>h
 | (n,k)::r,cs,⟨c,h⟩=>by
  unfold jX;refine uQ r _ ⟨c,?_⟩;split
  ·grind
  ·exact h
theorem jY:∀(l:List (Str×NameKind)) (cs:List (Str×Addr)),(x,NameKind.free)∈l->(∃c,env.cells.lookup x=some c)->∃c,(x,c)∈jX env l cs
 | [],_,h,_=>by cases h
 | (n,k)::r,cs,h,hc=>by
  unfold jX;rcases aF.mp h with z | z
  ·cases z;obtain⟨c,e⟩:=hc;refine uQ r _ ⟨c,?_⟩;simp[e]
  ·exact jY r _ z hc
theorem ir:∀{l:List (Str×Addr)},(x,c)∈l->∃a,l.lookup x=some a
 | [],h=>by cases h
 | (n,d)::r,h=>by
  rw[jN];cases b:x==n with
  | true=>exact⟨d,rfl⟩
  | false =>
   rcases aF.mp h with z | z
   ·grind
   ·exact ir z
def cP(X:Cx)(N:List Str)(a:Scope)(C:Addr)(s:Shared)(H:Hp)(b:List Addr):Cx where
 prog:=X.prog
 w:=X.w
 K:=X.K
 mg:=X.mg
 base:=X.base
 A:=X.A
 N:=N
 s₀:=s
 aa:=H
 env:=compEnvC a (jX X.env a.names []) C X.env
 ay:=X.stack
 stack:=X.stack
 ex:=b
 fn:=λ_=>false
 calm:=X.calm
 pn:=[]
 xe:=λ_ _=>False
theorem gO{a:Env}:∀(b:List (Str×NameKind)) (x:Str),(b.map fun(n,k)=>if(k==NameKind.free&&a.scope.kind==.function&&a.kindOf n==some .cell)then(n,NameKind.cell)else(n,k)).lookup x =
  (b.lookup x).map λk=>if(k==NameKind.free&&a.scope.kind==.function&&a.kindOf x==some .cell)then NameKind.cell else k
 | [],_=>rfl
 | (n,j)::r,x=>by
  have e:(if(j==NameKind.free&&a.scope.kind==.function&&a.kindOf n==some .cell)=true then(n,NameKind.cell)else(n,j))=(n,if(j==NameKind.free&&a.scope.kind==.function&&a.kindOf n==some .cell)=true then NameKind.cell else j):=by split<;>rfl
  show List.lookup x ((if(j==NameKind.free&&a.scope.kind==.function&&a.kindOf n==some .cell)=true then(n,NameKind.cell)else(n,j))::_)=_
  rw[e,jN,jN];cases c:x==n with
  | true =>
   have d:=bc c;subst d;rfl
  | false=>exact gO r x
def mv{b:Env}{a:List (Str×NameKind)}(h:(a.map fun(n,k)=>if(k==NameKind.free&&b.scope.kind==.function&&b.kindOf n==some .cell)then(n,NameKind.cell)else(n,k)).lookup x=some k) :
  a.lookup x=some k\/(k=.cell/\a.lookup x=some .free):=by
 rw[gO]at h;cases z:a.lookup x with
 | none=>rw[z]at h;cases h
 | some j =>
  rw[z]at h;have h:(if(j==NameKind.free&&b.scope.kind==.function&&b.kindOf x==some .cell)=true then NameKind.cell else j)=k:=by grind
  split at h
  ·grind
  ·grind
def wQ{b:Env}{a:List (Str×NameKind)}(h:a.lookup x=some .free) :
  (a.map fun(n,k)=>if(k==NameKind.free&&b.scope.kind==.function&&b.kindOf n==some .cell)then(n,NameKind.cell)else(n,k)).lookup x=some .cell \/
  (a.map fun(n,k)=>if(k==NameKind.free&&b.scope.kind==.function&&b.kindOf n==some .cell)then(n,NameKind.cell)else(n,k)).lookup x=some .free:=by
 rw[gO,h];show some (if _ then _ else _)=_\/some (if _ then _ else _)=_
 split
 ·grind
 ·grind
structure iQ (X:Cx) (N:List Str) (link:List (Option Nat)) (scope:Scope):Prop where
 kind:scope.kind=.function
 cell:∀y∈scope.names,y.2≠.cell
 names:∀y∈scope.names,y.2=.local->scope.names.lookup y.1=some .local
 free:∀y∈scope.names,y.2=.free->(X.env.kindOf y.1=some .cell\/X.env.kindOf y.1=some .free)
 len:link.length=N.length
 link:∀(i j:Nat) (x:Str),link[i]?=some (some j)->N[i]?=some x->X.N[j]?=some x/\scope.names.lookup x=some .free
noncomputable def gr(link:List (Option Nat))(a:St):St:=link.map λo=>o.bind λj=>(a[j]?).join
section
variable {X:Cx} {ae:List (Addr×Obj)} {σ:St} {H:Hp} {s:Shared}
def Inv.adopt(I:Inv X ae σ H s)(f:H D=none)(h1:X.s₀.heap.objs.size<=D)(h2:D≠X.env.locals)(g:∀x c,X.env.cells.lookup x=some c->c≠D)(h:∀p∈X.pn++ae,p.1≠D)
  (ho:fH X.prog X.w (cx H D o) s.heap D o):Inv X ae σ (cx H D o) s:=by
 have ne:∀b u,H b=some u->b≠D:=λb u e z=>by rw[z,f]at e;cases e
 refine I.step (ch:=[D]) (λb a=>?_) (λb u _ _ _ e _=>e) (λb u _ _ _ e _=>⟨u.slots,e⟩) (λb u hc _ n=>?_) (λb u _ e=>⟨u,e⟩)
  (λb d e=>by rw[aK (ne b _ e)];exact e) (λb u d e=>by rw[aK (ne b _ e)];exact e) (λb k e=>by rw[aK (ne b _ e)];exact e) (λm j=>j) (λb u e=>?_) I.bare
 ·have e:b=D:=by simpa using a
  subst e;exact⟨.inr h1,h2,g,h⟩
 ·rw[aK (λz=>hc (by simp[z]))];exact n
 ·by_cases a:b=D
  ·subst a;rw[aE]at e;cases e;exact ho
  ·rw[aK a]at e;exact(I.hok b u e).we (λ_ _ _ q=>q) (λc q=>by rw[aK (ne c _ q)];exact q) (λc d q=>by rw[aK (ne c _ q)];exact q) λc l v q=>by rw[aK (ne c _ q)];exact q
def CG{N:List Str}{link:List (Option Nat)}(S:iQ X N link scope)(I:Inv X ae σ H s)(g:∀b∈M,wt X ae H b)
  (E:s.heap.objs.size<=C) (Y:h.Ns C λ_=>none) (hk:∀b o,s.heap.get? b=some o->h.get? b=some o) (J:∀b∈M,∃o,s.heap.get? b=some o) :
  Inv (cP X N scope C s H M) [] (gr link σ) H {s with heap:=h,toks:=tk}:=by
 have Q:∀y∈scope.names,y.2=.free->∃c,X.env.cells.lookup y.1=some c:=λy Z t=>I.ok.has y.1 (S.free y Z t)
 have ac8:∀x c,X.env.cells.lookup x=some c->c<s.heap.objs.size:=λx c e=>let ⟨v,o,ho,_⟩:=I.cell x c e;aY ho
 refine⟨⟨I.ok.mod,S.kind,I.ok.glob,I.ok.blt,E,λx y c B h2=>I.ok.inj x y c (cg B) (cg h2),λx L=>?_,λx c L=>(by cases L),I.ok.hd,I.ok.frames,.inl rfl,λb k=>⟨?_,λx c e=>(g b k).2.2.2.2.1 x c (cg e)⟩,I.bs,bK I.ok.bsz I.sz,
  λb o e k=>?_,λb k z=>?_,I.stack,I.wm,I.tabs⟩,rfl,I.bare,Un.kept hk,⟨_,Y,λi x v e1 f e3=>?_⟩,λx c e=>?_,I.hok.fresh E,λx c e=>I.freeC x c (cg e),λp hp=>(by cases hp),I.hok.kept hk,by unfold gr;rw[aj];exact S.len⟩
 ·-- QO cells are there
  have Cv:=L;have t:scope.names.lookup x=some .free:=by
   rcases Cv with B | B
   ·rcases mv B with q | ⟨_,q⟩
    ·exact absurd rfl (S.cell _ (d8 q))
    ·exact q
   ·rcases mv B with q | ⟨z,_⟩
    ·exact q
    ·cases z
  have w:=d8 t;obtain⟨c,hc⟩:=jY scope.names [] w (Q _ w rfl);exact ir hc
 ·intro z;obtain⟨o,ho⟩:=J b k;exact absurd (b6 (aY ho) (bK E (jb z.symm))) (gG _)
 ·rcases(g b k).2.2.2.1 with z | z
  ·exact I.ok.noex b o e z
  ·exact absurd (b6 (aY e) (bK I.ok.bsz z)) (gG _)
 ·rcases aF.mp (I.wj b z)with q | q
  ·exact(g b k).2.1 q
  ·exact(g b k).2.2.1 q
 ·-- a slot: aeW over from QO ac9
  have R:i<link.length:=by
   have:=(bu.mp f).1;unfold gr at this
   rwa [aj]at this
  unfold gr at f;rw[bG,bQ R]at f;have f:=cj f;cases z:link[i]with
  | none=>rw[z]at f;cases f
  | some j =>
   rw[z]at f;have f:(σ[j]?).join=some v:=f;obtain⟨hX,t⟩:=S.link i j x (by rw[bQ R,z]) e1
   have w:=d8 t;have D:=S.free _ w rfl;obtain⟨m,hn,hl⟩:=I.loc;obtain⟨u,r,l⟩:=hl j x v hX (by
    cases q:σ[j]? with
    | none=>rw[q]at f;cases f
    | some q'=>rw[q]at f;cases q' with
     | none=>cases f
     | some v'=>cases f;rfl) (by rcases D with q | q;exact .inr (.inl q);exact .inr (.inr q))
   refine⟨u,r,.inr ⟨wQ t,?_⟩⟩;obtain⟨c,hc⟩:=jY scope.names [] w (Q _ w rfl);obtain⟨c',T⟩:=ir hc;refine⟨c',T,?_⟩;rcases l with⟨lk,_⟩ | ⟨_,d,hd,jR⟩
   ·rcases D with q | q<;>(rw[show X.env.kindOf x=some .local from lk]at q;cases q)
   ·have:=cg T;rw[hd]at this;cases this;exact jR.keeps hk
 ·obtain⟨v,o,ho,hd⟩:=I.cell x c (cg e);exact⟨v,o,hk _ _ ho,hd⟩
end
abbrev TB:=V->St->Hp->(Option V->St->Hp->Prop)->Prop
def PB(X:Cx)(h:Expr)(c:List Expr)(d:Expr)(i:TB):Prop :=
 ∀(e:List (Addr×Obj)) (s:Shared) (σ:St) (H:Hp) (v:V) (u:Value) (Q:Option V->St->Hp->Prop),Inv X e σ H s->RelV v u->i v σ H Q ->
  wpAny (model X.prog X.w) X.A (assign h X.env u) (λ_ j=>wpAny (model X.prog X.w) X.A (Er c X.env) (λok f =>
   if ok=true then wpAny (model X.prog X.w) X.A (eval d X.env) (λy k=>∃g a b,Inv X e a b k/\RelV g y/\Q (some g) a b) X.xe f
   else ∃a b,Inv X e a b f/\Q none a b) X.xe j) X.xe s
def JO(f:PG X i g)(he:PE X elt j):PB X i [] elt (λv b H Q=>g v b H λa c=>j a c λy d=>Q (some y) a d):=by
 intro e s b H v u Q I r h;refine thn (f e s b H v u _ I r h) λ_ s2 ⟨a,c,k,l⟩=>au ?_
 rw[if_pos rfl];exact thn (he e s2 a c _ k l) (by rintro y s4 ⟨m,d,o,p,q⟩;exact⟨m,a,d,o,p,q⟩)
def OD(m:PG X o g)(hc:PT X c p)(he:PE X elt q) :
  PB X o [c] elt (λv f H Q=>g v f H λa i=>p a i λb d=>if b=true then q a d λy j=>Q (some y) a j else Q none a d):=by
 intro k s f H v u Q I r h;refine thn (m k s f H v u _ I r h) λ_ s2 ⟨a,i,t,w⟩=>?_
 refine wpAny_tests_one (thn (hc k s2 a i _ t w) λb s3 ⟨d,l,e⟩=>?_)
 cases b with
 | true =>
  rw[if_pos rfl]at e ⊢;exact thn (he k s3 a d _ l e) (by rintro y s4 ⟨x,j,B,C,D⟩;exact⟨x,a,j,B,C,D⟩)
 | false =>
  rw[if_neg c5]at e ⊢;exact⟨a,d,l,e⟩
def uR(link:List (Option Nat))(g:TI)(h:TB):TE:=λc H Q=>g c H λJ j=>∃W:Nat->Nat->List V->St->Hp->Prop,(∃m,W 0 m [] (gr link c) j)/\∀i m a d b,W i m a d b ->
 (J.stop i b/\a.length<=sizeLine/\∀D,b D=none->Q (.ref D) (cx b D (.lst a))) \/
 (J.go i b/\a.length<sizeLine/\∀x e,J.yld i b x e->h x d e λo k l=>∃f,f<m/\W (i+1) f (a++o.toList) k l)
structure ada (X:Cx) (ae:List (Addr×Obj)) (H:Hp) (C:Addr):Prop where
 free:H C=none
 above:X.s₀.heap.objs.size<=C
 loc:C≠X.env.locals
 cell:∀x c,X.env.cells.lookup x=some c->c≠C
 pin:∀p∈X.pn++ae,p.1≠C
def uS(hc:X.calm=true)(S:iQ X N link scope)(hi:PI X tg iter wi)
  (hb:∀(C:Addr) (s:Shared) (H:Hp) (g:List Addr),PB (cP X N scope C s H g) tg ifs elt tb) (hs:∀x,foldedSetIterable iter X.env x=pure x) (I:Inv X ae σ H s) (h:uR link wi tb σ H Q)
  (adb:∀(s5:Shared) (D C:Addr) (H5:Hp) (m:Str->Option Value),Inv X ae σ H5 s5->Q (.ref D) H5->s5.heap.Ns C m->ada X ae H5 C->compPost (model X.prog X.w) X.A X.xe use Q' (.ref D) C (.ok .next) s5) :
  wpAny (model X.prog X.w) X.A (comprehension (.ListComp elt [⟨tg,iter,ifs,0⟩] scope pos) scope X.env tN (newList []) false (eval iter X.env) use) Q' X.xe s:=by
 have yM:∀y∈scope.names,y.2=.free->∃c,X.env.cells.lookup y.1=some c:=λy hy hf=>I.ok.has y.1 (S.free y hy hf)
 refine wpAny_comprehension_free rfl hs (rn yM) S.kind S.names (thn (hi ae s σ H _ I h) λv s1 h1=>thn h1 λitv f h2=>?_)
 obtain⟨it,g,tn,J,k,rfl,t,T,eX,f2,W,⟨m0,w0⟩,lH⟩:=h2;refine gC (wpAny_newFunctionEnv S.cell (by grind) (λl ns sb=>?_) S.kind)
 dsimp only at ns sb ⊢
 generalize hD:f.heap.push {cls:=.type "list",dict:=none,data:=.seq [].toArray}=HD at ns sb ⊢
 have hC:HD.objs.size=f.heap.objs.size+1:=by rw[<-hD,Heap.size_push]
 have M:f.heap.objs.size≠HD.objs.size:=by grind
 have JP:f.heap.objs.size<=HD.objs.size:=by grind
 have old:∀b o,f.heap.get? b=some o->l.get? b=some o:=λb o e=>by
  have fE:=aY e;exact sb.extBut b o (bH (b6 fE JP)) (bg _ (by rw[<-hD];exact bg _ e))
 have ade:l.get? f.heap.objs.size=some {cls:=.type "list",data:=.seq [].toArray} :=
  sb.extBut _ _ M (bg _ (by rw[<-hD];exact cO _ rfl))
 generalize L:f.heap.objs.size=D at *
 generalize eC:HD.objs.size=C at *
 have exO:∀b∈g,∃o,f.heap.get? b=some o:=λb a=>let ⟨o,e,_⟩:=T.obj _ _ eX b a;⟨o,e⟩
 have I3:∀tk,Inv (cP X N scope C f k g) [] (gr link σ) k {f with heap:=l,toks:=tk}:=λtk =>
  CG S t f2 (by rw[L];exact JP) ns old exO
 have fpD:∀b∈g,b≠D:=λb a z=>by
  obtain⟨o,e⟩:=exO b a;have:=aY e;rw[z,<-L]at this;exact gG _ this
 have B9:∀{H':Hp} {pl:List (Addr×Obj)},(∀b∈g,H' b=none)->(∀p∈pl,p.1=D)->∀b∈g,wt (cP X N scope C f k g) pl H' b:=λ{H' pl} hn hp b a=>by
  have K0:=(I3 0).ok.exf b a;exact⟨hn b a,K0.1,(I3 0).ok.exfs b a,.inl a,K0.2,λp JQ z=>fpD b a (z▸hp p (by simpa[cP]using JQ))⟩
 have YS:∀x c,(cP X N scope C f k g).env.cells.lookup x=some c->c≠D:=λx c e z=>by
  obtain⟨v,o,ho,_⟩:=t.cell x c (cg e);have:=aY ho;rw[z,<-L]at this;exact gG _ this
 have fsD:D∉(cP X N scope C f k g).fs:=λz=>by
  obtain⟨_,o,ho,_⟩:=t.stack.mem z;have:=aY ho;rw[<-L]at this;exact gG _ this
 have loop:∀s3:Shared,s3={f with heap:=l,toks:=f.toks+([]:List (Str×Value)).length} ->
   codeAny (model X.prog X.w) X.A (.compLoop (.ListComp elt [⟨tg,iter,ifs,0⟩] scope pos) 0 (.ref it) (.ref D) (cP X N scope C f k g).env) (compPost (model X.prog X.w) X.A X.xe use Q' (.ref D) C) s3:=by
  rintro s3 rfl
  refine GF (λn s'=>∃i E bJ H' j B,Inv (cP X N scope C f k g) [] bJ H' s'/\tn i s'.heap/\(∀b∈g,H' b=none)/\H' D=none/\s'.heap.get? D=some {cls:=.type "list",data:=.seq j.toArray B}/\Vals E j/\W i n E bJ H') ?_ m0
   ⟨0,[],_,k,[],0,I3 _,T.keep _ _ _ eX λb a o e=>old b o e,λb a=>(f2 b a).1,t.hok.fresh (jb L),ade,.nil,w0⟩
  rintro n s4 ⟨i,E,Oe,H4,j,B,I4,HX,fr4,hD4,Js,hv,w4⟩
  have YT:Inv (cP X N scope C f k g) [(D,{cls:=.type "list",data:=.seq j.toArray B})] Oe H4 s4:=I4.lV λp hp=>by
   have e:p=(D,{cls:=.type "list",data:=.seq j.toArray B}):=by simpa using hp
   subst e;exact⟨Js,hD4,M,fsD,λv=>by simp⟩
  have JR:∀p∈[(D,({cls:=.type "list",data:=.seq j.toArray B}:Obj))],p.1=D:=λp hp=>by
   have e:p=(D,{cls:=.type "list",data:=.seq j.toArray B}):=by simpa using hp
   rw[e]
  rcases lH i n E Oe H4 w4 with⟨stop,hz,q⟩ | ⟨go,hz,step⟩
  ·refine thn (T.done (cP X N scope C f k g) rfl rfl rfl hc i _ s4 Oe H4 _ YT (B9 fr4 JR) HX stop) λr s5 ⟨hr,R⟩=>?_
   subst hr;obtain⟨m,hn,_⟩:=R.loc;have pD:=R.pin (D,{cls:=.type "list",data:=.seq j.toArray B}) (bW _ (ax.mpr rfl))
   have Y:∀b o,f.heap.get? b=some o->b≠D/\b≠C:=λb o e=>by
    have:=aY e;rw[L]at this;exact⟨bH this,bH (b6 this JP)⟩
   have Rq:X.env.locals≠D/\X.env.locals≠C:=by
    have:=t.lt;rw[L]at this;exact⟨bH this,bH (b6 this JP)⟩
   have I6:=t.QU R.os R.base R.hok R.bare λb a=>⟨(f2 b a).2.2.2.1,(f2 b a).2.1,(f2 b a).2.2.2.2.1,(f2 b a).2.2.2.2.2⟩
   have I7:=Inv.adopt (o:=.lst E) I6 pD.2.1 (bK t.sz (jb L)) (dt Rq.1) (λx c e=>let ⟨v,o,ho,_⟩:=t.cell x c e;(Y c o ho).1)
    (λp hp=>(Y p.1 p.2 (t.pin p hp).1).1) ⟨hz,j,B,hv,pD.1⟩
   exact adb s5 D C _ m I7 (q D pD.2.1) hn ⟨by rw[aK (dt M)];exact R.free,bK (bK t.sz (jb L)) JP,dt Rq.2,λx c e=>let ⟨v,o,ho,_⟩:=t.cell x c e;(Y c o ho).2,λp hp=>(Y p.1 p.2 (t.pin p hp).1).2⟩
  ·refine thn (T.item (cP X N scope C f k g) rfl rfl rfl hc i _ s4 Oe H4 _ YT (B9 fr4 JR) HX go) λr s5 ⟨u,hr,h5⟩=>?_
   subst hr;refine thn h5 λ_ s5' z9=>?_
   obtain⟨x,H5,R,r5,y5,Ts,fr5⟩:=z9;have I5':=R.pinned (B9 fr5 JR) (T.obj _ _ Ts);have kX:∀{o:Option V} {σ6:St} {H6:Hp} {s6:Shared},Inv (cP X N scope C f k g) ([(D,{cls:=.type "list",data:=.seq j.toArray B})]++qN g s5'.heap) σ6 H6 s6 ->
     tn (i+1) s6.heap/\(∀b∈g,H6 b=none)/\H6 D=none/\s6.heap.get? D=some {cls:=.type "list",data:=.seq j.toArray B}:=λ{o σ6 H6 s6} I6=>by
    have pD:=I6.pin (D,_) (bW _ (dI _ (ax.mpr rfl)));refine⟨T.keep _ _ _ Ts λb a o e=>(I6.pin (b,o) (bW _ (bW _ (jh a e)))).1,λb a=>?_,pD.2.1,pD.1⟩
    obtain⟨o,e,d⟩:=T.obj _ _ Ts b a;exact(I6.pin (b,o) (bW _ (bW _ (jh a e)))).2.1
   refine jc (hb C f k g _ s5' Oe H5 x u _ I5' r5 (step x H5 y5)) (λ_ s6 h6=>jc h6 (λok s7 h7=>?_) λ_ _ z=>False.elim z) λ_ _ z=>False.elim z
   cases ok with
   | false =>
    rw[if_neg c5]at h7 ⊢;obtain⟨Z,H8,I8,m',hm',w8⟩:=h7;obtain⟨a1,a2,a3,a4⟩:=kX (o:=none) I8;exact⟨m',hm',i+1,_,Z,H8,j,B,I8.lV (λp hp=>by cases hp),a1,a2,a3,a4,by simpa using hv,w8⟩
   | true =>
    rw[if_pos rfl]at h7 ⊢;refine jc h7 (λy s8 z9=>?_) λ_ _ z=>False.elim z
    obtain⟨v8,Z,H8,I8,r8,m',hm',w8⟩:=z9;obtain⟨a1,a2,a3,a4⟩:=kX (o:=some v8) I8;have hl:=hv.length;refine lF F.slot_list_append ⟨_,a4,rfl⟩ F.entry_list_append (F.args_list_append_2 _ _) (PySem.list_append D j.toArray B y (by rw[eu];lia)) ⟨a4,?_⟩
    have I9:Inv (cP X N scope C f k g) [] Z H8 s8:=I8.lV (λp hp=>by cases hp)
    have qq:=PySem.IsL.update a4 λz=>z.push y
    have hp:j.toArray.push y=(j++[y]).toArray:=by simp
    rw[hp]at qq;refine⟨m',hm',i+1,_,Z,H8,j++[y],_,I9.turned (λb o hne e=>(vH _ _ (dt hne)).trans e) a3 M (.inr (jb L)) YS (λp hp=>by simp[cP]at hp),T.keep _ _ _ a1 λb a o e=>(vH _ _ (dt (fpD b a))).trans e,a2,a3,qq,hv.append (.cons r8 .nil),w8⟩
 exact codeAny_compStart_list (loop _ rfl) (T.self _ 0 _ _ _ (T.keep _ _ _ eX λb a o e=>old b o e) (loop _ rfl))
def Es(hc:X.calm=true)(S:iQ X N link scope)(d:PI X c iter f)
  (g:∀(C:Addr) (s:Shared) (H:Hp) (i:List Addr),PB (cP X N scope C s H i) c ifs elt j) (k:∀x,foldedSetIterable iter X.env x=pure x:=by intro _;rfl) :
  PE X (.ListComp elt [⟨c,iter,ifs,0⟩] scope pos) (uR link f j):=by
 intro u s v H Q I h;rw[eval_ListComp];refine uS hc S d g k I h λw D C l m p q r L=>⟨m,r,λy t=>?_⟩
 exact⟨.ref D,l,p.turned (λb o a e=>(t.2 b a).trans e) L.free L.loc (.inr L.above) L.cell L.pin,rfl,q⟩
def Et(hc:X.calm=true)(hN:X.N.Nodup)(l:X.N[i]?=some x)(j:X.env.scope.names.lookup x=some .local)(S:iQ X N link scope)(p:PI X c iter t)
  (u:∀(C:Addr) (s:Shared) (H:Hp) (y:List Addr),PB (cP X N scope C s H y) c ifs elt B) (hw:swapsWith (.ListComp elt [⟨c,iter,ifs,0⟩] scope pos) (some (.Name x E)) J.line X.env=pure true) (M:∀x,foldedSetIterable iter X.env x=pure x:=by intro _;rfl) :
  PS X (.Assign [.Name x E] (.ListComp elt [⟨c,iter,ifs,0⟩] scope pos) J) (Nu (uR link t B) (gName i)):=by
 intro ae s σ H D I h;rw[exec_Assign_Name_used _ _ _ _ hw];refine af (wpAny_standAt (af ?_));refine af (thn (uS hc S p u M I h λs5 a C Q m R q T L=>?_) λ_ s' q=>au (au q))
 refine wpAny_assign_Name (store_ok2 (v:=.ref a) R hN l (.inl j) rfl (λs6 Y k=>?_) (.inr j))
 refine⟨m,?_,λh' Z=>?_⟩
 ·obtain⟨o,es,ep,ho,r⟩:=T;obtain⟨b,d,f⟩:=k;have ne:C≠b:=λz=>by
   rcases f with w | w
   ·exact L.loc (z.trans w)
   ·exact L.cell x b w z.symm
  exact⟨o,es,ep,(d.2 C ne).trans ho,r⟩
 ·exact⟨_,Q,Y.turned (λb o g e=>(Z.2 b g).trans e) L.free L.loc (.inr L.above) L.cell L.pin,q⟩
noncomputable def bM(link:List (Option Nat))(ρ:List (Option PV)):List (Option PV):=link.map λo=>o.bind λj=>(ρ[j]?).join
def KG(L:List Nat)(g:Tg):Prop:=∀p a b,g p a=some b->b.ρ.length=a.ρ.length/\∀j:Nat,j∉L->b.ρ[j]?=a.ρ[j]?
def YU(L:List Nat)(g:WV):Prop:=∀p a b,g p a=some b->b.ρ.length=a.ρ.length/\∀j:Nat,j∉L->b.ρ[j]?=a.ρ[j]?
def OF(i:Nat):KG [i] (aV i):=λp b c h=>by
 obtain⟨_,rfl⟩:=aM h;exact⟨lA,λj a=>c9 (λz=>a (by simp[z]))⟩
def OG:YU [] lK:=λp a b h=>by
 cases p with
 | nil=>cases h;exact⟨rfl,λ_ _=>rfl⟩
 | cons _ _=>cases h
def JS(h1:KG L g)(h2:YU M r):YU (L++M) (cR g r):=λp c d h=>by
 cases p with
 | nil=>cases h
 | cons p e =>
  obtain⟨a,e1,f⟩:=aR h;obtain⟨i,k⟩:=h1 p c a e1;obtain⟨l,m⟩:=h2 e a d f;exact⟨l.trans i,λj b=>(m j λz=>b (bW _ z)).trans (k j λz=>b (dI _ z))⟩
def UI(h:YU L r):KG L (gj n r):=λp a b e=>by
 unfold gj at e;split at e
 ·obtain⟨_,e⟩:=bP e;exact h _ a b e
 ·cases e
section
variable {K:W.Frag} {F:Fz} {ρ:List (Option PV)} {σ:St}
def Lc.gr(L:Lc K F ρ σ)(link:List (Option Nat)):Lc K F (bM link ρ) (gr link σ) where
 av:=λi p e=>by
  unfold bM at e;rw[bG]at e;cases z:link[i]? with
  | none=>rw[z]at e;cases e
  | some o =>
   rw[z]at e;cases o with
   | none=>cases e
   | some j =>
    have e:(ρ[j]?).join=some p:=cj e;cases w:ρ[j]? with
    | none=>rw[w]at e;cases e
    | some q =>
     rw[w]at e;cases e;obtain⟨v,a,b⟩:=L.av j p w;refine⟨v,?_,b⟩;unfold L2.U.gr;rw[bG,z];show some ((σ[j]?).join)=_;rw[a];rfl
 len:=by unfold bM L2.U.gr;rw[aj,aj]
def Lc.back{L:List Nat}(R:Lc K F rp σ)(b:a.length=σ.length)(c:a=bM link ρ)(hk:∀j:Nat,j∉L->rp[j]?=a[j]?)(d:∀i∈L,link[i]?=some none):Lc K F a σ where
 av:=λi p e=>by
  refine R.av i p ?_;rw[hk i λf=>?_]
  ·exact e
  ·rw[c]at e;unfold bM at e;rw[bG,d i f]at e;cases e
 len:=b
end
noncomputable def okR{b:Type}:Rs b×cz->Option (b×List ak)
 | (.ok a,st)=>some (a,st.h)
 | _=>none
abbrev Bd:=List (Option PV)->PV->List ak->Option (Option PV×List ak)
def lM(g:Tg)(fe:Gx PV):Bd:=λa p h=>(g p ⟨a,h⟩).bind λb=>(fe b).bind λr=>(okR r).map λx=>(some x.1,x.2)
def jD(g:Tg)(c:Gx Bool)(fe:Gx PV):Bd:=λd p h=>(g p ⟨d,h⟩).bind λe=>(c e).bind λr=>match r with
 | (.ok b,a)=>if b=true then(fe a).bind λr=>(okR r).map λx=>(some x.1,x.2)else some (none,a.h)
 | _=>none
noncomputable def dJ(a:PV->List ak->Option (Option PV×List ak)):List PV->List ak->Option (List PV×List ak)
 | [],h=>some ([],h)
 | p::b,h=>(a p h).bind λr=>(dJ a b r.2).map λs=>(r.1.toList++s.1,s.2)
section
variable {X:Cx} {aa:Hp} {ab:Fz} {N:List Str} {link:List (Option Nat)} {scope:Scope} {tg iter elt c:Expr} {pos:Pos} {fi:Gx (List PV)} {g:Tg} {fe:Gx PV} {ft:Gx Bool} {L:List Nat} {cl:Bool}
def zB(e:okR r=some (a,h)):∃st,r=(.ok a,st)/\st.h=h:=by
 obtain⟨r,st⟩:=r;cases r with
 | ok x=>cases e;exact⟨st,rfl,rfl⟩
 | ex m C=>cases e
def _root_.L2.U.PB.imp(h:PB Y tg ifs elt d)(i:∀v a H Q,b v a H Q->d v a H Q):PB Y tg ifs elt b:=λe s a H v u Q I r w=>h e s a H v u Q I r (i _ _ _ _ w)
def tb1(X:Cx)(aa:Hp)(ab:Fz)(g:Tg)(fe:Gx PV):TB:=λv b H Q=>tG X.K aa ab g v b H λa d=>∀Y:Cx,Y.K=X.K->tE Y aa ab fe a d λy e=>Q (some y) a e
def tb2(X:Cx)(aa:Hp)(ab:Fz)(g:Tg)(ft:Gx Bool)(fe:Gx PV):TB:=λv d H Q=>tG X.K aa ab g v d H λa e=>∀Y:Cx,Y.K=X.K->tT Y aa ab ft a e λt b=>if t=true then tE Y aa ab fe a b λy f=>Q (some y) a f else Q none a b
section
variable (ht:∀(C:Addr) (s:Shared) (H:Hp) (fp:List Addr),PG (cP X N scope C s H fp) tg (tG X.K aa ab g)) (he:∀(C:Addr) (s:Shared) (H:Hp) (fp:List Addr),PE (cP X N scope C s H fp) elt (tE (cP X N scope C s H fp) aa ab fe))
include ht he
def pb1(C:Addr)(s:Shared)(H:Hp)(fp:List Addr):PB (cP X N scope C s H fp) tg [] elt (tb1 X aa ab g fe) :=
 (JO (ht C s H fp) (he C s H fp)).imp (by rintro v σ H Q ⟨F,st,p,a,R,b,e,q⟩;exact⟨F,st,p,a,R,b,e,λd f h i j=>q d f h i j _ rfl⟩)
def pb2(hw:∀(C:Addr) (s:Shared) (H:Hp) (fp:List Addr),PT (cP X N scope C s H fp) c (tT (cP X N scope C s H fp) aa ab ft))(C:Addr)(s:Shared)(H:Hp)(fp:List Addr):PB (cP X N scope C s H fp) tg [c] elt (tb2 X aa ab g ft fe) :=
 (OD (ht C s H fp) (hw C s H fp) (he C s H fp)).imp (by rintro v σ H Q ⟨F,st,p,a,R,b,e,q⟩;exact⟨F,st,p,a,R,b,e,λd f h i j=>q d f h i j _ rfl⟩)
end
def pP(h:tS X aa ab (dh fe (aV i)) D σ H):tE X aa ab fe σ H λv a=>D.nx (σ.set i (some v)) a:=by
 obtain⟨F,d,R,h⟩:=h;refine⟨F,d,R,h.bnd λp v F1 m a b o f j=>?_⟩
 obtain⟨q,e,z⟩:=j.stp;obtain⟨k,rfl⟩:=aM e;exact z F1 _ a ⟨b.c,b.l.set k f⟩ (Gr.refl _)
end
def SI(h:Heap)(it l:Addr)(k:Nat)(xs:Array Value):Prop:=(h.IsListIter it l k/\h.IsList l xs)\/(h.IsTupleIter it l k/\h.IsTuple l xs)
def SI.at{h h':Heap}{it l:Addr}{k:Nat}{xs:Array Value}(x:SI h it l k xs)(h1:∀o,h.get? it=some o->h'.get? it=some o)(h2:∀o,h.get? l=some o->h'.get? l=some o):SI h' it l k xs:=by
 rcases x with⟨⟨o,e,r⟩,⟨a,b,c⟩⟩ | ⟨⟨o,e,r⟩,⟨a,b,c⟩⟩
 ·exact .inl ⟨⟨o,h1 o e,r⟩,⟨a,h2 a b,c⟩⟩
 ·exact .inr ⟨⟨o,h1 o e,r⟩,⟨a,h2 a b,c⟩⟩
def SI.Ru{h:Heap}{it l:Addr}{k:Nat}{xs:Array Value}(x:SI h it l k xs):∃o,h.get? it=some o/\∃vs,o.data=.fields vs:=by
 rcases x with⟨⟨o,e,_,d⟩,_⟩ | ⟨⟨o,e,_,d⟩,_⟩
 ·grind
 ·grind
def SI.sq{h:Heap}{it l:Addr}{k:Nat}{xs:Array Value}(x:SI h it l k xs):∃o n,h.get? l=some o/\o.data=.seq xs n:=by
 rcases x with⟨_,⟨o,e,_,n,d⟩⟩ | ⟨_,⟨o,e,_,n,d⟩⟩
 ·grind
 ·grind
def SI.ne{h:Heap}{it l:Addr}{k:Nat}{xs:Array Value}(x:SI h it l k xs):l≠it:=λz=>by
 obtain⟨o,e,c,d⟩:=x.Ru;obtain⟨f,n,a,b⟩:=x.sq;subst z;rw[e]at a;cases a;rw[d]at b;cases b
section
variable {prog:Program} {w:World} {A:Around} {E:Value->Shared->Prop} {s:Shared}
def CH{it t:Addr}{i:Nat}{c:Array Value}{x:Value}{Q:Value->Shared->Prop}(a:s.heap.IsTupleIter it t i)(ht:s.heap.IsTuple t c)(d:c[i]?=some x)
  (e:∀h',h'.IsTupleIter it t (i+1)->Heap.SameBut it s.heap h'->Q x {s with heap:=h'}):wpAny (model prog w) A (Builtin.SmallTypes.nextOf (.ref it)) Q E s:=by
 obtain⟨o,ho,hc,hd⟩:=id a;obtain⟨g,b,_,h,f⟩:=ht;refine af (lj a.typeIs vA (iq vA a.typeIs Ip (by
  show wpAny _ _ (field (.ref it) 0 >>= _) _ _ s;refine af (gI ho hd rfl ?_);show wpAny _ _ (if(Value.ref t==Value.none)=true then _ else _) _ _ s
  rw[if_neg (show ¬((Value.ref t==Value.none)=true)from c5)]
  show wpAny _ _ (field (.ref it) 1 >>= _) _ _ s;refine af (gI ho hd (x:=.int i 0) rfl ?_);show wpAny _ _ (seqItems? (.ref t) >>= _) _ _ s;refine af (wpAny_seqItems b f ?_);simp only[gB,d];refine af (vX ho hd (by simp) (au ⟨x,rfl,au (e _ ⟨_,qg _ ho (Obj.isFreed_of_fields (vJ hd _)),(Obj.cls_mapFields ..).trans hc,by rw[vJ hd];simp[rawInt]⟩ (qi ..))⟩))) (Io _)))
def CI{it t:Addr}{i:Nat}{d:Array Value}{Q:Value->Shared->Prop}(f:A.handled=none)(b:s.heap.IsTupleIter it t i)(ht:s.heap.IsTuple t d)(g:d[i]?=none)
  (h:∀h' e,Heap.ExtBut it s.heap h'->(∃o,h'.get? e=some o/\o.cls=.type "StopIteration")->E (.ref e) {s with heap:=h'}):wpAny (model prog w) A (Builtin.SmallTypes.nextOf (.ref it)) Q E s:=by
 obtain⟨o,ho,hc,hd⟩:=id b;obtain⟨k,c,_,l,j⟩:=ht;refine af (lj b.typeIs vA (iq vA b.typeIs Ip (by
  show wpAny _ _ (field (.ref it) 0 >>= _) _ _ s;refine af (gI ho hd rfl ?_);refine af (gI ho hd (x:=.int i 0) rfl ?_);show wpAny _ _ (seqItems? (.ref t) >>= _) _ _ s;refine af (wpAny_seqItems c j ?_);simp only[gB,g];refine af (qF (af (vX ho hd (by simp) ?_)))
  show wpAny _ _ (newExc (.type "StopIteration") [] >>= _) _ _ _;refine af ?_;simp only[newExc,newTuple];refine af (gC ?_ (by size_fits))
  refine af (m:=firstArgMember _ _) (gH (a:=Value.none) (by first | rfl | (simp only[firstArgMember];rfl)) ?_)
  refine gC ?_ (by size_fits)
  simp only[raiseNew];refine af (wpAny_handled ?_)
  first | rw[show A.in1.handled=none from f] | rw[f]
  exact af (au (wpAny_throw (h _ _ (((qi ..).extBut.push _).push _) ⟨_,cO _ rfl,rfl⟩)))) (Io _)))
def SI.next{it l:Addr}{k:Nat}{xs:Array Value}{x:Value}{Q:Value->Shared->Prop}(e:SI s.heap it l k xs)(f:xs[k]?=some x)(g:∀h',SI h' it l (k+1) xs->Heap.SameBut it s.heap h'->Q x {s with heap:=h'}) :
  wpAny (model prog w) A (Builtin.SmallTypes.nextOf (.ref it)) Q E s:=by
 have ne:=e.ne;rcases e with⟨d,c⟩ | ⟨d,c⟩
 ·exact wpAny_nextOf_list_item d c f λh' a b=>g h' (.inl ⟨a,c.extBut b.extBut ne⟩) b
 ·exact CH d c f λh' a b=>g h' (.inr ⟨a,c.extBut b.extBut ne⟩) b
def SI.stop{it l:Addr}{k:Nat}{xs:Array Value}{Q:Value->Shared->Prop}(c:A.handled=none)(g:SI s.heap it l k xs)(d:xs[k]?=none)
  (f:∀h' e,Heap.ExtBut it s.heap h'->(∃o,h'.get? e=some o/\o.cls=.type "StopIteration")->E (.ref e) {s with heap:=h'}):wpAny (model prog w) A (Builtin.SmallTypes.nextOf (.ref it)) Q E s:=by
 rcases g with⟨a,b⟩ | ⟨a,b⟩
 ·exact wpAny_nextOf_list_end c a b d f
 ·exact CI c a b d f
end
section
variable {prog:Program} {w:World} {A:Around} {E:Value->Shared->Prop} {s:Shared} {z TI TO i1 i2 l1 l2:Nat} {k:Nat} {xs ys:Array Value}
def uT(h:Heap)(l:Addr)(xs:Array Value)(c:String):Prop:=(c="list_iterator"/\h.IsList l xs)\/(c="tuple_iterator"/\h.IsTuple l xs)
def pQ{l:Addr}{xs:Array Value}{c:String}{Q:Value->Shared->Prop}(h:uT s.heap l xs c)(a:Q (.ref s.heap.objs.size) {s with heap:=s.heap.push {cls:=.type c,data:=.fields #[.ref l,.int 0 0]}}):wpAny (model prog w) A (pyIter (.ref l)) Q E s:=by
 rcases h with⟨rfl,h⟩ | ⟨rfl,h⟩
 ·exact wpAny_pyIter_list h a
 ·exact BL h a
end
def HY(K:W.Frag)(H:Hp)(c:Bool)(l:Addr)(vs:List V):Prop:=if c=true then wq K H l vs else gT K H l vs
def OH(h:Heap)(c:Bool)(it l:Addr)(k:Nat):Prop:=if c=true then h.IsListIter it l k else h.IsTupleIter it l k
def JT(c:Bool):String:=if c=true then "list_iterator" else "tuple_iterator"
section
variable {X:Cx} {ae:List (Addr×Obj)} {σ:St} {H:Hp} {s:Shared}
def HY.get(I:Inv X ae σ H s){c:Bool}{l:Addr}{vs:List V}(h:HY X.K H c l vs):∃a:List Value,Vals vs a/\uT s.heap l a.toArray (JT c):=by
 unfold JT;cases c with
 | true =>
  obtain⟨a,r,pl,_⟩:=I.list (h);exact⟨a,r,.inl ⟨rfl,pl.isList⟩⟩
 | false =>
  obtain⟨a,r,pl,_⟩:=I.tuple (h);exact⟨a,r,.inr ⟨rfl,pl⟩⟩
def HY.inj(I:Inv X ae σ H s){c:Bool}{l:Addr}{vs ws:List V}(h:HY X.K H c l vs)(h':HY X.K H c l ws):vs=ws:=by
 cases c with
 | true=>exact I.lW h h'
 | false=>exact I.kj h h'
def Rv{h:Heap}{c:Bool}{it l:Addr}{k:Nat}{xs:Array Value}(h1:OH h c it l k)(h2:uT h l xs (JT c)):SI h it l k xs:=by
 cases c with
 | true =>
  rcases h2 with⟨_,q⟩ | ⟨q,_⟩
  ·exact .inl ⟨h1,q⟩
  ·exact absurd q (by decide)
 | false =>
  rcases h2 with⟨q,_⟩ | ⟨_,q⟩
  ·exact absurd q (by decide)
  ·exact .inr ⟨h1,q⟩
def OI{h:Heap}{c:Bool}{it l:Addr}{k k':Nat}{xs:Array Value}{b:Heap}(h1:SI h it l k xs)(h2:uT b l xs (JT c))(i:∀o,b.get? l=some o->h.get? l=some o):OH h c it l k:=by
 cases c with
 | true =>
  rcases h2 with⟨_,⟨o,e,hc,_⟩⟩ | ⟨q,_⟩
  ·rcases h1 with⟨a,_⟩ | ⟨_,⟨d,f,g,_⟩⟩
   ·exact a
   ·grind
  ·exact absurd q (by decide)
 | false =>
  rcases h2 with⟨q,_⟩ | ⟨_,⟨o,e,hc,_⟩⟩
  ·exact absurd q (by decide)
  ·rcases h1 with⟨_,⟨d,f,g,_⟩⟩ | ⟨a,_⟩
   ·grind
   ·exact a
def Inv.turns{t':Nat}{h':Heap}{ch:List Addr}(I:Inv X ae σ H s)(a:∀b∈ch,wt X ae H b)(d:∀b o,b∉ch->s.heap.get? b=some o->h'.get? b=some o):Inv X ae σ H {s with heap:=h',toks:=t'}:=by
 have g:∀b u,H b=some u->b∉ch:=λb u e z=>by rw[(a b z).1]at e;cases e
 refine I.step (λb f=>⟨(a b f).2.2.2.1,(a b f).2.1,(a b f).2.2.2.2.1,(a b f).2.2.2.2.2⟩) (λb o _ _ hc e _=>d b o hc e) (λb o _ _ hc e _=>⟨o.slots,d b o hc e⟩) (λ_ _ _ _ n=>n)
  (λb o hc e=>⟨o,d b o hc e⟩) (λ_ _ e=>e) (λ_ _ _ e=>e) (λ_ _ e=>e) (λm h=>?_) (λb u e=>?_) I.bare
 ·obtain⟨o,j,k,ho,r⟩:=h;exact⟨o,j,k,d _ o (λz=>(a _ z).2.1 rfl) ho,r⟩
 ·refine(I.hok b u e).we (λc v hc q=>d c v ?_ q) (λ_ q=>q) (λ_ _ q=>q) λ_ _ _ q=>q
  rcases hc with z | z
  ·rw[z];exact g b u e
  ·exact g c _ z
end
def OH.at{h h':Heap}{c:Bool}{it l:Addr}{k:Nat}(x:OH h c it l k)(h1:∀o,h.get? it=some o->h'.get? it=some o):OH h' c it l k:=by
 cases c with
 | true =>
  obtain⟨o,e,r⟩:=(x);exact(⟨o,h1 o e,r⟩)
 | false =>
  obtain⟨o,e,r⟩:=(x);exact(⟨o,h1 o e,r⟩)
def OH.obj{h:Heap}{c:Bool}{it l:Addr}{k:Nat}(x:OH h c it l k):∃o,h.get? it=some o/\∀v,o.data≠.cell v:=by
 unfold OH at x;split at x
 ·obtain⟨o,e,_,d⟩:=x;exact⟨o,e,λv=>by grind⟩
 ·obtain⟨o,e,_,d⟩:=x;exact⟨o,e,λv=>by grind⟩
def JU{prog:Program}{w:World}{A:Around}{it l:Addr}{xs:Array Value}(g:A.handled=none):Draws prog w A it [it,l] xs.size (λi x=>xs[i]?=some x) (λi h=>SI h it l i xs) where
 live:=λi h c=>by
  obtain⟨o,e,_⟩:=c.Ru;exact⟨o,e⟩
 frame:=λi h d c k=>c.at (λo e=>k it (by simp) o e) (λo e=>k l (by simp) o e)
 item:=λi s Q E f c j=>SI.next c (lb f) λd a b=>j _ d s.toks (lb f) a b
 done:=λs Q E c m=>SI.stop g c (vF (aA _)) m
set_option maxHeartbeats 2000000 in
theorem JV(l:Addr)(xs:Array Value)(c:String)(b:Obj) :
  Meets (Builtin.«enumerate.__new__» ⟨[.type "enumerate",.ref l],[]⟩) (λ_ R s=>uT s.heap l xs c/\s.heap.get? l=some b /\
   ∀h1 h2:Heap,h1=s.heap.push {cls:=.type c,data:=.fields #[.ref l,.int 0 0]}->h2=h1.push {cls:=.type "enumerate",data:=.fields #[.none,.bool false,.ref s.heap.objs.size,rawInt 0,.none,.none]}->R (.ok (.ret (.ref h1.objs.size))) {s with heap:=h2}) :=
 .of_wp λprog w A R s h=>by
  obtain⟨hp,g,d,m,p⟩:=s;obtain⟨k,q,h⟩:=h;have f:uT (Shared.heap ⟨hp,g,d,m,p⟩) l xs c:=k;have v:=sub_enumerate;rcases k with⟨rfl,⟨o,e,hc,n,hd⟩⟩ | ⟨rfl,⟨o,e,hc,n,hd⟩⟩
  ·obtain⟨i,r,a,t⟩:=o;replace hc:i=.type "list":=hc;replace hd:a=.seq xs n:=hd
   wp_walk using jK e
   refine wpAny_stack_any λu=>au ?_
   split
   ·rename_i j _ _ _ _ _;cases(j==Value.type "enumerate")<;>(wp_walk using jK e,pQ f)<;>exact⟨_,rfl,h _ _ rfl rfl⟩
   ·wp_walk using jK e,pQ f
    exact⟨_,rfl,h _ _ rfl rfl⟩
  ·obtain⟨i,r,a,t⟩:=o;replace hc:i=.type "tuple":=hc;replace hd:a=.seq xs n:=hd
   wp_walk using jK e
   refine wpAny_stack_any λu=>au ?_
   split
   ·rename_i j _ _ _ _ _;cases(j==Value.type "enumerate")<;>(wp_walk using jK e,pQ f)<;>exact⟨_,rfl,h _ _ rfl rfl⟩
   ·wp_walk using jK e,pQ f
    exact⟨_,rfl,h _ _ rfl rfl⟩
def OJ{prog:Program}{w:World}{A:Around}{E:Value->Shared->Prop}{s:Shared}{e it l:Addr}{k:Nat}{i:Int}{xs:Array Value}{a:Value}{Q:Option Value->Shared->Prop}(c:A.handled=none)(b:IsEnum s.heap e it i a)(st:SI s.heap it l k xs)(d:xs[k]?=none)(f:∀h',Heap.ExtBut it s.heap h'->Q none {s with heap:=h'}):wpAny (model prog w) A (pyNext (.ref e)) Q E s:=by
 have ty:s.TypeIs (.ref e) "enumerate":=⟨_,b,rfl⟩;unfold pyNext;refine af (wpAny_attempt (lj ty F.slot_enumerate_next (iq F.slot_enumerate_next ty F.entry_enumerate_next (by
  show wpAny _ _ (field (.ref e) 2 >>= _) _ _ _;refine af (gI b rfl rfl (af (SI.stop c st d λh' y g ⟨o,ho,hc⟩=>?_)))
  exact af (wpAny_isInstance ⟨o,ho,hc⟩ isSubtype_stop (au (f _ g)))) (F.args_enumerate_next_1 _))))
def Ien(K:W.Frag)(c:Bool)(l:Addr):It where
 go:=λi H=>∃a v,HY K H c l a/\a[i]?=some v
 yld:=λi H x b=>∃T v,H T=none/\x=.ref T/\b=cx H T (.ao [.int i,v])/\∀a,HY K H c l a->a[i]?=some v
 stop:=λi H=>∃a,HY K H c l a/\a.length<=i
def eTn(e it l:Nat)(c:Bool)(i:Nat)(h:Heap):Prop:=(∃a,IsEnum h e it i a)/\OH h c it l i
def OK{P:Program}{w:World}{K:W.Frag}{g:List Expr}{x1:Nat}{TQ:Pos}{e it l:Nat}{c:Bool}(j:it<e)(Z:l<it) :
  Turn P w K (.Tuple g x1 TQ) (Ien K c l) [e,it] e (eTn e it l c) where
 mem:=aD
 obj:=by
  rintro i h ⟨⟨_,a1⟩,a2⟩ b a
  simp only[aF,fJ,fN]at a;rcases a with rfl | rfl
  ·exact⟨_,a1,λv=>by simp⟩
  ·exact a2.obj
 keep:=(by rintro i h h' ⟨⟨old,a1⟩,a2⟩ k;exact⟨⟨old,k e (by simp) _ a1⟩,a2.at λo x=>k it (by simp) o x⟩)
 item:=by
  rintro X C hw J hc i ae s σ H E I hf ⟨⟨old,a1⟩,a2⟩ ⟨vs,v,t,ev⟩
  subst C hw J;obtain⟨u,L,y⟩:=t.get I;obtain⟨x,ex,rx⟩:=L.get ev;have ne:e≠it:=v3 j;have m:e≠l:=v3 (nH Z j);have YV:X.A.in1.handled=none:=I.ok.hd hc;refine wpAny_pyNext_enum_itemD (JU (xs:=u.toArray) (l:=l) YV) a1 (Rv a2 y) (by
   have:=(bu.mp ex).1;simpa using this) ne (by simp[ne,m]) λM h' B Cv hO st hT hs' kp=>⟨_,rfl,?_⟩
  have xe:M=x:=by
   have e1:u.toArray[i]?=some x:=by simpa using ex
   rw[e1]at Cv;cases Cv;rfl
  subst xe;refine wpAny_letOwnedTupleGo_enum hO λf N p=>?_
  have r:∀b∈[e,it],b<s.heap.objs.size:=λb a=>by
   simp only[aF,fJ,fN]at a;have h1:e<s.heap.objs.size:=aY a1;rcases a with rfl | rfl<;>lia
  have eT:e≠s.heap.objs.size:=bH (r e (by simp))
  have R:∀b o,b∉[e,it]->s.heap.get? b=some o->f.get? b=some o:=λb o a z=>by
   simp only[aF,fJ,fN,not_or]at a;exact p.extBut _ _ a.1 (kp b o a.1 a.2 z)
  have I1:Inv X ae σ H {s with heap:=f,toks:=B+1}:=Inv.turns I hf R
  have T:H s.heap.objs.size=none:=I.fresh;have d:=I.B6 (H':=H) (aA _) T;have pr:f.get? s.heap.objs.size=some {cls:=.type "tuple",data:=.seq #[.int i B,M]}:=p.extBut _ _ (dt eT) hT
  have I2:=Inv.adopt (D:=s.heap.objs.size) (o:=.ao [.int i,v]) I1 T (by
    rcases d.2.2.2.1 with q | q
    ·exact I.sz
    ·exact q) d.2.1 d.2.2.2.2.1 d.2.2.2.2.2 ⟨(by show 2<=sizeLine;decide),[.int i B,M],.cons ⟨B,rfl⟩ (.cons rx .nil),⟨_,pr,rfl,0,rfl⟩⟩
  refine⟨.ref s.heap.objs.size,_,I2,rfl,⟨s.heap.objs.size,v,T,rfl,rfl,λwD h1=>?_⟩,⟨⟨_,N⟩,?_⟩,λb a=>?_⟩
  ·rw[<-HY.inj I t h1];exact ev
  ·have Y:l≠it:=bH Z;have q:=OI (k':=i) st y λo z=>kp l o (dt m) Y z
   exact q.at λo z=>p.extBut _ _ (dt ne) z
  ·rw[aK (bH (r b a))];exact(hf b a).1
 done:=by
  rintro X C hw J hc i ae s σ H E I hf ⟨⟨old,a1⟩,a2⟩ ⟨vs,t,he⟩
  subst C hw J;obtain⟨u,L,y⟩:=t.get I;have hz:u.toArray[i]?=none:=vF (by rw[eu,<-L.length];exact he)
  refine OJ (I.ok.hd hc) a1 (Rv a2 y) hz λh' p=>⟨rfl,?_⟩
  exact Inv.turns (t':=s.toks) I hf λb o a z=>by
   simp only[aF,fJ,fN,not_or]at a;exact p b o a.2 z
 self:=(by rintro A i s Q E ⟨⟨_,a1⟩,_⟩ q;exact wpAny_pyIter_enum a1 q)
def Rx:Expr->Bool
 | .Tuple _ _ _=>true
 | _=>false
def tZ:PV->Option (List PV)
 | .nd .ao a=>some a
 | .nd .lst a=>some a
 | _=>none
def zC(p q:PV):PV:=.ao [p,q]
def JW{K:W.Frag}(h:tZ p=some ps)(b:bN K F p x):∃c l vs,x=.ref l/\HY K F.F c l vs/\aB K F ps vs/\∀F',cK F.F F'->HY K F' c l vs:=by
 unfold tZ at h;split at h
 ·cases h;obtain⟨l,vs,rfl,a,d⟩:=cq.mp b;exact⟨false,l,vs,rfl,a,d,λF' s=>bt s a⟩
 ·cases h;obtain⟨l,vs,rfl,a,d⟩:=gu.mp b;exact⟨true,l,vs,rfl,a.sq,d,λF' s=>(yZ s a).sq⟩
 ·cases h
def GH{K:W.Frag}(d:wq K F.F a vs)(c:aB K F ps vs):Walk K F ps (Itl K a):=by
 intro j k f l m H R s i;have b:=(s.s.trans R.sub).seq d;refine⟨λp e=>?_,λe=>?_⟩
 ·obtain⟨v,e1,g⟩:=c.get e;refine⟨⟨vs,v,b,e1⟩,λx o ⟨h,y⟩=>?_⟩
  subst h;have:=y vs b;rw[e1]at this;cases this;exact⟨f,R,Gr.refl _,g.mono s⟩
 ·refine⟨vs,b,?_⟩;rw[<-c.length];exact iY.mp e
def JX{K:W.Frag}(d:gT K F.F a vs)(c:aB K F ps vs):Walk K F ps (Itt K a):=by
 intro j k f l m H R s i;have b:=bt (s.s.trans R.sub) d;refine⟨λp e=>?_,λe=>?_⟩
 ·obtain⟨v,e1,g⟩:=c.get e;refine⟨⟨vs,v,b,e1⟩,λx o ⟨h,y⟩=>?_⟩
  subst h;have:=y vs b;rw[e1]at this;cases this;exact⟨f,R,Gr.refl _,g.mono s⟩
 ·refine⟨vs,b,?_⟩;rw[<-c.length];exact iY.mp e
noncomputable def jE(lo:Int)(n:Nat):List PV:=(List.range n).map fun(i:Nat)=>.int (lo+i)
def rA{K:W.Frag}(lo:Int)(n:Nat):Walk K F (jE lo n) (XI lo n):=by
 intro d f b g h H R s i;unfold jE;refine⟨λp e=>?_,λe=>?_⟩
 ·rw[bG]at e;by_cases a:i<n
  ·rw[lr a]at e;cases e;exact⟨a,λx j ⟨c,y⟩=>by subst c y;exact⟨b,R,Gr.refl _,aH.mpr rfl⟩⟩
  ·rw[iZ (by simpa using a)]at e;cases e
 ·rw[bG]at e;by_cases a:i<n
  ·rw[lr a]at e;cases e
  ·exact qw a
def dZ:Nat->List PV->List PV
 | _,[]=>[]
 | k,p::r=>zC (.int k) p::dZ (k+1) r
theorem nQ:∀(ps:List PV) (k i:Nat),(dZ k ps)[i]?=ps[i]?.map λp=>zC (.int ((k+i:Nat):Int)) p
 | [],k,i=>by simp[dZ]
 | p::r,k,0=>by simp[dZ]
 | p::r,k,i+1=>by
  simp only[dZ,vD];rw[nQ r (k+1) i,show k+1+i=k+(i+1) by lia]
def OL{K:W.Frag}(j:∀F',cK F.F F'->HY K F' c l vs)(f:aB K F ps vs):Walk K F (dZ 0 ps) (Ien K c l):=by
 intro u w F' y B H R s i;have b:=j H (s.s.trans R.sub);refine⟨λp e=>?_,λe=>?_⟩
 ·rw[nQ]at e;cases a:ps[i]? with
  | none=>rw[a]at e;cases e
  | some k =>
   rw[a]at e;cases e;obtain⟨v,e1,d⟩:=f.get a;refine⟨⟨vs,v,b,e1⟩,λx C m=>?_⟩
   obtain⟨T,D,o,q,r,t⟩:=m;have g:=t vs b;rw[e1]at g;cases g;subst q r;obtain⟨R2,h⟩:=R.laid (.ao [.int i,v]) o;refine⟨_,R2,h,cq.mpr ⟨T,[.int i,v],rfl,gT.of aE,.cons ?_ (.cons (d.mono (s.trans h)) .nil)⟩⟩;rw[eS];exact aH.mpr rfl
 ·refine⟨vs,b,?_⟩;rw[nQ]at e;cases a:ps[i]? with
  | none =>
   have:=iY.mp a;rw[f.length]at this;exact this
  | some k=>rw[a]at e;cases e
section
variable {X:Cx} {aa:Hp} {ab:Fz} {a b e tg:Expr} {fa fb:Gx PV} {ts:Gx (List PV)} {pos p:Pos}
noncomputable def zD(i j:Int):Bool:=decide (-(2^62)<=i/\i<2^62 /\ -(2^62)<=j/\j<2^62)
def wR:List PV->Option (List PV)
 | [.int j]=>if zD 0 j=true then some (jE 0 j.toNat)else none
 | _=>none
def UK:List PV->Option (List PV)
 | [.int i,.int j]=>if zD i j=true then some (jE i (j-i).toNat)else none
 | _=>none
def ph(g:List PV->Option (List PV))(ts:Gx (List PV)):Gx (List PV):=bnd ts λc=>jS (g c)
def JY(c:Gl X "range")(d:X.mg "range"=none)(f:PA X [a] (tA X aa ab ts))(g:starEach [a] X.env=[(false,eval a X.env)]:=by rfl):PI X tg (.Call (.Name "range" p) [a] [] pos) (tI X aa ab (ph wR ts)) :=
 (F7 c d f g).imp λσ H t ⟨F,st,R,h⟩=>⟨F,st,R,h.bnd λu w F1 x i j y k l=>by
  obtain⟨o,e,z⟩:=l.jS;unfold wR at e;split at e
  ·obtain⟨m,rfl⟩:=aM e;obtain⟨v,rfl,b⟩:=dG k;obtain⟨_,_,q,r⟩:=d9 m;rw[aH.mp b];exact⟨_,rfl,q,r,z _ i F1 j (Gr.refl _) (rA 0 _)⟩
  ·cases e⟩
def JZ(f:Gl X "range")(g:X.mg "range"=none)(i:PA X [a,b] (tA X aa ab ts))(j:starEach [a,b] X.env=[(false,eval a X.env),(false,eval b X.env)])(k:starEach [b] X.env=[(false,eval b X.env)]):PI X tg (.Call (.Name "range" p) [a,b] [] pos) (tI X aa ab (ph UK ts)) :=
 (F8 f g i j k).imp λσ H t ⟨F,st,R,h⟩=>⟨F,st,R,h.bnd λu x F1 y l m B q r=>by
  obtain⟨o,e,z⟩:=r.jS;unfold UK at e;split at e
  ·obtain⟨d,rfl⟩:=aM e;obtain⟨v,w,rfl,b,c⟩:=jl q;have d:=d9 d;rw[aH.mp b,aH.mp c];exact⟨_,_,rfl,d,z _ l F1 m (Gr.refl _) (rA _ _)⟩
  ·cases e⟩
def rD(fa:Gx PV):Gx (List PV):=bnd fa λp=>jS ((tZ p).map λc=>dZ 0 c)
def adn(ht:Rx tg=true)(hg:Gl X "enumerate")(hm:X.mg "enumerate"=none)(ha:PE X a (tE X aa ab fa))(L:starEach [a] X.env=[(false,eval a X.env)]) :
  PI X tg (.Call (.Name "enumerate" p) [a] [] pos) (tI X aa ab (rD fa)):=by
 rintro M s σ H R I ⟨F,st,Rp,h⟩
 have hA:=ji ha qQ L pos M s σ H (λN H'=>∃t Q x u g,N=[x]/\Rep X.K aa ab t Q σ H'/\bN X.K t u x/\tZ u=some g/\∀b T w,Rep X.K aa ab w Q σ T->Gr t w->Walk X.K w (dZ 0 g) b->R b T) I
  ⟨F,st,Rp,h.bnd λp v F1 Y f k y B d=>by
   obtain⟨o,e,z⟩:=d.jS;obtain⟨g,e1,rfl⟩:=br e;exact⟨F1,Y,v,p,g,rfl,k,B,e1,z⟩⟩
 refine Call_ (ld_blt I hg hm boot_enumerate (ik (thn hA λus c z9=>?_) L rfl))
 obtain⟨N,f,l,r1,F1,Y,x,u,g,ev,k,B,f3,q⟩:=z9;subst ev;obtain⟨u1,rfl,C⟩:=jx r1;obtain⟨Z,l1,vs1,rfl,q1,D,k1⟩:=JW f3 B;cases C;obtain⟨aJ,v1,i⟩:=(k1 f k.sub).get l;obtain⟨j,Ry⟩:∃o,c.heap.get? l1=some o:=by
  rcases i with⟨_,⟨o,e,_⟩⟩ | ⟨_,⟨o,e,_⟩⟩
  ·grind
  ·grind
 have E:=aY Ry;refine callType_new PySem.F.called_enumerate (by decide) (PySem.F.typeCall_enumerate_1 _) (PySem.F.newCall_enumerate_1 _) (λobj=>PySem.F.args_object_init_2 obj _) PySem.F.entry_enumerate_new (JV l1 aJ.toArray (JT Z) j) ⟨i,Ry,λd m e1 e2=>?_⟩
 have z1:d.objs.size=c.heap.objs.size+1:=by simp_all
 have p1:∀b o,c.heap.get? b=some o->d.get? b=some o:=λb o e=>by rw[e1];exact bg _ e
 have p2:∀b o,d.get? b=some o->m.get? b=some o:=λb o e=>by rw[e2];exact bg _ e
 have J:IsEnum m d.objs.size c.heap.objs.size 0 .none:=by rw[e2];exact cO _ rfl
 have y:=p2 _ _ (by rw[e1];exact cO _ rfl)
 have I2:Inv X M σ f {c with heap:=m,toks:=c.toks}:=l.kept λb o e=>p2 _ _ (p1 _ _ e)
 have nK:∀b,c.heap.objs.size<=b->f b=none:=λb r=>l.hok.fresh r
 refine⟨⟨_,J,rfl⟩,?_⟩;show wpAny _ _ (pyIter (.ref d.objs.size)) _ _ {c with heap:=m,toks:=c.toks}
 refine wpAny_pyIter_enum J ?_;cases tg with
 | Tuple elts x1 TQ =>
  refine⟨d.objs.size,[d.objs.size,c.heap.objs.size],_,_,f,rfl,I2,OK (by lia) E,⟨⟨_,J⟩,(by
   cases Z with
   | true=>exact(⟨_,y,rfl,rfl⟩)
   | false=>exact(⟨_,y,rfl,rfl⟩))⟩,λb r=>?_,q _ f F1 k (Gr.refl _) (OL k1 D)⟩
  simp only[aF,fJ,fN]at r;have MR:c.heap.objs.size<=b:=by rcases r with rfl | rfl<;>lia
  exact l.B6 MR (nK b MR)
 | _=>cases ht
end
inductive yu where
 | sq (ps:List PV) | cl (n:Nat)
def YX(K:W.Frag)(F:Fz):yu->It->Prop
 | .sq b,J=>Walk K F b J
 | .cl n,J=>∃a,F.μ[n]?=some a/\J=Itl K a
abbrev GI(X:Cx)(a:Hp)(b:Fz)(f:Gx yu):TI:=tX X a b (YX X.K) f
def CJ(f:Gx (List PV)):Gx yu:=bnd f λa=>aW (.sq a)
def J0(n:Nat)(h:List ak)(i:Nat):Option (Option PV):=match cw h (.ref n)with
 | some (.lst,a)=>some a[i]?
 | _=>none
def J1(h:List ak)(p:PV):Option yu:=match tZ p with
 | some a=>some (.sq a)
 | none=>match p with
  | .ref n=>match cw h (.ref n)with
   | some (.lst,_)=>some (.cl n)
   | _=>none
  | _=>none
def jF(fe:Gx PV):Gx yu:=bnd fe λp=>hp λh=>J1 h p
def zE(g:Tg)(a:Gx dE)(n:Nat):Nat->Nat->Gx dE
 | 0,_=>λ_=>none
 | f+1,i=>λb=>match J0 n b.h i with
  | some (some p)=>bnd (stp (g p)) (λ_=>bnd a (uN (zE g a n f (i+1)))) b
  | some none=>some (.ok .nx,b)
  | none=>none
def YY(g:Tg)(a:Gx dE):yu->Gx dE
 | .sq b=>dv g a b
 | .cl n=>zE g a n fD 0
def zF(b:Gx yu)(g:Tg)(a:Gx dE):Gx dE:=bnd b (YY g a)
section
variable {X:Cx} {aa:Hp} {ab:Fz} {e tg iter:Expr} {fa:Gx PV} {fb:Gx dE} {body:List Stmt} {pos:Pos}
def OM(h:PI X tg e (tI X aa ab f)):PI X tg e (GI X aa ab (CJ f)):=(by rintro a s σ H R I ⟨F,st,b,c⟩;exact h a s σ H R I ⟨F,st,b,c.bnd λk J F1 l d g m i j=>j.aW J d F1 g (Gr.refl _) i⟩)
def J2{K:W.Frag}{st:cz}(R:Rep K aa ab F st σ H)(b:F.μ[n]?=some a)(e:J0 n st.h i=some o):∃ps vs,o=ps[i]?/\wq K H a vs/\aB K F ps vs:=by
 unfold J0 at e;split at e
 ·rename_i ps z;cases e;obtain⟨f,vs,e1,c,d⟩:=R.at z (c8.mpr ⟨a,b,rfl⟩);cases e1;exact⟨ps,vs,rfl,kW.sq c,d⟩
 ·cases e
def J3(he:PE X e (tE X aa ab fa)):PI X tg e (GI X aa ab (jF fa)):=by
 rintro o s σ H R I ⟨F,st,t,h⟩
 obtain⟨r,e1,g⟩:=At.bnd h
 match r,g with
 | (.ex m C,w),g =>
  exact Ja he o s σ H R I ⟨F,st,t,_,e1,g⟩
 | (.ok p,w),g =>
  obtain⟨D,b,q⟩:=At.hp g;unfold J1 at b;split at b
  ·rename_i x i;cases b;unfold tZ at i;split at i
   ·cases i;refine Ja he o s σ H R I ⟨F,st,t,_,e1,λv j F1 c k f=>?_⟩
    obtain⟨a,l,rfl,d,u⟩:=cq.mp f;exact⟨a,rfl,⟨l,bt c.sub d⟩,q _ j F1 c k (JX d u)⟩
   ·cases i;refine D3 he o s σ H R I ⟨F,st,t,_,e1,λv j F1 c k f=>?_⟩
    obtain⟨a,l,rfl,d,u⟩:=gu.mp f;exact⟨a,rfl,⟨l,(yZ c.sub d).sq⟩,q _ j F1 c k (GH d.sq u)⟩
   ·cases i
  ·split at b
   ·rename_i n _;split at b
    ·rename_i x z;cases b;refine D3 he o s σ H R I ⟨F,st,t,_,e1,λv j F1 c k f=>?_⟩
     obtain⟨a,l,rfl,d,u⟩:=c.at z f;obtain⟨E,y,B⟩:=c8.mp f;cases B;exact⟨a,rfl,⟨l,kW.sq d⟩,q _ j F1 c k ⟨a,y,rfl⟩⟩
    ·cases b
   ·cases b
def UL{fi:Gx yu}(hp:PassesOwn (model X.prog X.w) X.A X.env X.xe)(hc:X.calm=true)(hi:PI X tg iter (GI X aa ab fi))(hg:PG X tg (tG X.K aa ab g))(hb:PSs X body (tS X aa ab fb))
  (hs:∀x,foldedSetIterable iter X.env x=pure x:=by intro _;rfl):PS X (.For tg iter body [] pos) (tS X aa ab (zF fi g fb)):=(Jb hp hc hi hg hb hs).imp <| by
 rintro D σ H ⟨F,st,R,h⟩
 refine⟨F,st,R,h.bnd λsr J F1 bf H1 R1 g1 wk h1=>?_⟩
 cases sr with
 | sq d =>
  refine⟨λi m f j=>m=d.length-i/\i<=d.length/\∃c b,Rep X.K aa ab c b f j/\Gr F1 c/\Sa X aa ab c D b (dv g fb (d.drop i)),⟨d.length,by simp,fj _,F1,bf,R1,Gr.refl _,h1⟩,?_⟩
  rintro i m f j ⟨rfl,hi,c,b,q,t,l⟩
  obtain⟨wg,YZ⟩:=wk aa ab c b f j q t i;by_cases L:i<d.length
  ·obtain⟨go,wy⟩:=wg d[i] (bQ L);rw[nu L]at l;refine .inr ⟨go,λu k=>∃F2 B,Rep X.K aa ab F2 B u k/\Gr F1 F2/\Sa X aa ab F2 D B (dv g fb (d.drop (i+1))),λu k M=>⟨d.length-(i+1),by lia,rfl,L,M⟩,λx k y=>?_⟩
   obtain⟨F2,R2,s2,b2⟩:=wy x k y;obtain⟨r,e1,I⟩:=At.bnd l;obtain⟨C,N,Q⟩:=br e1;subst Q;refine⟨F2,b,d[i],C,R2,b2,N,λoE H3 T Y E=>⟨T,C,Y,?_⟩⟩
   exact Sa.lH _ (λZ HX Oe H4 R4 g4 z=>⟨Z,HX,R4,(t.trans (s2.trans E)).trans g4,z⟩) (Sa.mono (I) (s2.trans E))
  ·have e:i=d.length:=by lia
   subst e;rw[BP]at l;exact .inl ⟨YZ (iZ (aA _)),At.aW l c f j q (Gr.refl _)⟩
 | cl n =>
  obtain⟨a,ha,rfl⟩:=wk;refine⟨λi m f j=>∃c b,Rep X.K aa ab c b f j/\Gr F1 c/\Sa X aa ab c D b (zE g fb n m i),⟨fD,F1,bf,R1,Gr.refl _,h1⟩,?_⟩
  rintro i m f j ⟨c,b,q,t,l⟩
  cases m with
  | zero=>obtain⟨r,e,_⟩:=l;cases e
  | succ m =>
   obtain⟨r,e1,I⟩:=l;have e1:(match J0 n b.h i with
    | some (some p)=>bnd (stp (g p)) (λ_=>bnd fb (uN (zE g fb n m (i+1)))) b
    | some none=>some (.ok .nx,b)
    | none=>none)=some r:=e1
   cases z:J0 n b.h i with
   | none=>rw[z]at e1;cases e1
   | some o =>
    obtain⟨d,vs,ho,hq,Ed⟩:=J2 q (t.m n a ha) z;cases o with
    | none =>
     rw[z]at e1;cases e1;refine .inl ⟨⟨vs,hq,?_⟩,I c f j q (Gr.refl _)⟩;rw[<-Ed.length];exact iY.mp ho.symm
    | some p =>
     rw[z]at e1;obtain⟨v,hv,bv⟩:=Ed.get ho.symm;refine .inr ⟨⟨vs,v,hq,hv⟩,λu k=>∃F2 B,Rep X.K aa ab F2 B u k/\Gr F1 F2/\Sa X aa ab F2 D B (zE g fb n m (i+1)),λu k M=>⟨m,qx m,M⟩,λx k ⟨hH,y⟩=>?_⟩
     subst hH;have:=y vs hq;rw[hv]at this;cases this;obtain⟨r',q1,q2⟩:=At.bnd (⟨r,e1,I⟩);obtain⟨C,N,Q⟩:=br q1;subst Q;refine⟨c,b,p,C,q,bv,N,λoE H3 T Y E=>⟨T,C,Y,?_⟩⟩
     exact Sa.lH _ (λZ HX Oe H4 R4 g4 z=>⟨Z,HX,R4,(t.trans E).trans g4,z⟩) (Sa.mono (q2) E)
end
def Ew(a:PV->List ak->Option (Option PV×List ak))(n:Nat):Nat->Nat->List ak->Option (List PV×List ak)
 | 0,_,_=>none
 | f+1,i,h=>match J0 n h i with
  | some (some p)=>(a p h).bind λr=>(Ew a n f (i+1) r.2).map λs=>(r.1.toList++s.1,s.2)
  | some none=>some ([],h)
  | none=>none
def Y0(a:PV->List ak->Option (Option PV×List ak))(h:List ak):yu->Option (List PV×List ak)
 | .sq b=>if b.length<=fD then dJ a b h else none
 | .cl n=>Ew a n fD 0 h
def RA(c:Bool)(ρ:List (Option PV))(r:List PV×List ak):Option (Rs PV×cz):=if c=true then kG ⟨.lst,r.1⟩ ⟨ρ,r.2⟩else some (.ok (.lst r.1),⟨ρ,r.2⟩)
def di(c:Bool)(link:List (Option Nat))(b:Gx yu)(d:Bd):Gx PV:=bnd b λs a=>(Y0 (d (bM link a.ρ)) a.h s).bind (RA c a.ρ)
section
variable {X:Cx} {aa:Hp} {ab:Fz} {N:List Str} {link:List (Option Nat)} {scope:Scope} {tg iter elt c:Expr} {pos:Pos} {fi:Gx yu} {g:Tg} {fe:Gx PV} {ft:Gx Bool} {L:List Nat} {cl:Bool}
def zG{e:cz}{Q:VK}(l:kq X.K aa ab F' hf H')(m:Lc X.K F1 e.ρ σ)(f:Gr F1 F')(h:aB X.K F' done acc)(i:H' D=none)(d:RA cl e.ρ (done,hf)=some r)(j:Jz X aa ab F1 (λa o=>∀b H' F',Rep X.K aa ab F' o σ H'->Gr F1 F'->bN X.K F' a b->Q b H') r):Q (.ref D) (cx H' D (.lst acc)):=by
 have Ro:Rep X.K aa ab F' ⟨e.ρ,hf⟩ σ H':=⟨l,m.mono f⟩;cases cl with
 | true =>
  have d:=d;exact Tx.kG (Tx.mono ⟨r,d,j⟩ f λ_ _ z=>z) Ro i aE h
 | false =>
  have d:=d;cases d;obtain⟨R2,k⟩:=Ro.laid (.lst acc) i;exact j _ _ _ R2 (f.trans k) (gu.mpr ⟨D,acc,rfl,kW.of aE,h.mono k⟩)
def uU{Q:VK}
  (hb:∀(F2:Fz) (ρ:List (Option PV)) (p:PV) (h h':List ak) (o:Option PV) (x:V) (j:St) (u:Hp) (Q':Option V->St->Hp->Prop),bd (bM link ρ) p h=some (o,h')->Rep X.K aa ab F2 ⟨bM link ρ,h⟩ j u->bN X.K F2 p x ->
   (∀C oE H3 w,Rep X.K aa ab w ⟨bM link ρ,h'⟩ oE H3->Gr F2 w->aB X.K w o.toList (Option.toList C)->Q' C oE H3)->tb x j u Q')
  (h:tE X aa ab (di cl link fi bd) σ H Q):uR link (GI X aa ab fi) tb σ H Q:=by
 obtain⟨F,st,R,h⟩:=h;refine⟨F,st,R,h.bnd λsr J F1 q H1 E g1 wk h1=>?_⟩
 obtain⟨r,e1,e2⟩:=h1;obtain⟨⟨rs,hf⟩,e3,e4⟩:=aR e1;cases sr with
 | sq t =>
  obtain⟨dM,e3⟩:=bP e3;refine⟨λi m d j I=>m=t.length-i/\i<=t.length/\d.length<=i/\∃k h' done b,Rep X.K aa ab k ⟨bM link q.ρ,h'⟩ j I/\Gr F1 k/\dJ (bd (bM link q.ρ)) (t.drop i) h'=some (b,hf)/\done++b=rs/\aB X.K k done d,
   ⟨t.length,rfl,fj _,aA _,F1,q.h,[],rs,⟨E.c,E.l.gr link⟩,Gr.refl _,e3,rfl,.nil⟩,?_⟩
  rintro i m d j I ⟨rfl,hi,T,k,h',done,b,M,B,f,hd,Y⟩
  obtain⟨wg,YZ⟩:=wk aa ab k _ j I M B i;by_cases fE:i<t.length
  ·rw[nu fE]at f;obtain⟨⟨o,Z⟩,e5,e6⟩:=aR f;obtain⟨⟨r2,h3⟩,e7,e8⟩:=br e6;cases e8;obtain⟨go,wy⟩:=wg t[i] (bQ fE);refine .inr ⟨go,ny (bK T hi) (ny dM (by decide)),λx u y=>?_⟩
   obtain⟨F2,R2,s2,b2⟩:=wy x u y;refine hb F2 q.ρ t[i] h' Z o x j u _ e5 R2 b2 λC oE H3 w R3 s3 b3=>⟨t.length-(i+1),by lia,rfl,fE,?_,w,Z,done++o.toList,r2,R3,B.trans (s2.trans s3),e7,by rw[<-hd,dA],(Y.mono (s2.trans s3)).append b3⟩
   rw[aZ];cases C<;>simp <;> lia
  ·have e:i=t.length:=by lia
   subst e;rw[BP]at f;cases f;rw[dB]at hd;subst hd;exact .inl ⟨YZ (iZ (aA _)),bK T (fx dM),λD hn=>zG M.c E.l B Y hn e4 e2⟩
 | cl n =>
  obtain⟨a,hna,rfl⟩:=wk;refine⟨λi m d j I=>i+m=fD/\d.length<=i/\∃k h' done b,Rep X.K aa ab k ⟨bM link q.ρ,h'⟩ j I/\Gr F1 k/\Ew (bd (bM link q.ρ)) n m i h'=some (b,hf)/\done++b=rs/\aB X.K k done d,
   ⟨fD,eS _,aA _,F1,q.h,[],rs,⟨E.c,E.l.gr link⟩,Gr.refl _,e3,rfl,.nil⟩,?_⟩
  rintro i m d j I ⟨hm,T,k,h',done,b,M,B,f,hd,Y⟩
  cases m with
  | zero=>cases f
  | succ m =>
   have f:(match J0 n h' i with
    | some (some p)=>(bd (bM link q.ρ) p h').bind λr=>(Ew (bd (bM link q.ρ)) n m (i+1) r.2).map λs=>(r.1.toList++s.1,s.2)
    | some none=>some ([],h')
    | none=>none)=some (b,hf):=f
   have N2:i<=fD:=by lia
   cases z:J0 n h' i with
   | none=>rw[z]at f;cases f
   | some o =>
    obtain⟨t,vs,ho,hq,hbq⟩:=J2 M (B.m n a hna) z;rw[z]at f;cases o with
    | none =>
     cases f;rw[dB]at hd;subst hd;refine .inl ⟨⟨vs,hq,?_⟩,bK T (fx N2),λD hn=>zG M.c E.l B Y hn e4 e2⟩
     rw[<-hbq.length];exact iY.mp ho.symm
    | some p =>
     obtain⟨⟨o,Z⟩,e5,e6⟩:=aR f;obtain⟨⟨r2,h3⟩,e7,e8⟩:=br e6;cases e8;obtain⟨v,hv,bv⟩:=hbq.get ho.symm;refine .inr ⟨⟨vs,v,hq,hv⟩,ny (bK T N2) (by decide),λx u ⟨hH,y⟩=>?_⟩
     subst hH;have:=y vs hq;rw[hv]at this;cases this;refine hb k q.ρ p h' Z o v j u _ e5 M bv λC oE H3 w R3 s3 b3=>⟨m,qx m,by lia,?_,w,Z,done++o.toList,r2,R3,B.trans s3,e7,by rw[<-hd,dA],(Y.mono s3).append b3⟩
     rw[aZ];cases C<;>simp <;> lia
def J4(q:KG L g)(t:∀i∈L,link[i]?=some none)(h:tE X aa ab (di cl link fi (lM g fe)) σ H Q):uR link (GI X aa ab fi) (tb1 X aa ab g fe) σ H Q :=
 uU (λF2 T p h Z o x bJ H2 Q' e R2 b2 k=>by
  obtain⟨b,e1,e⟩:=aR e;obtain⟨r,u,e⟩:=aR e;obtain⟨⟨a,hh⟩,w,y⟩:=br e;cases y;obtain⟨Nw,rfl,rfl⟩:=zB w;obtain⟨B,C⟩:=q _ _ _ e1;refine⟨F2,_,p,b,R2,b2,e1,λD H3 E d I Y J=>⟨E,b,by grind,_,u,λv M R f j m=>?_⟩⟩
  rw[J]at f m;exact k (some v) D M R ⟨f.c,(d.l.mono j).back (B.symm.trans d.l.len) rfl C t⟩ (I.trans j) (.cons m .nil)) h
def J5(J:KG L g)(m:∀i∈L,link[i]?=some none)(h:tE X aa ab (di cl link fi (jD g ft fe)) σ H Q):uR link (GI X aa ab fi) (tb2 X aa ab g ft fe) σ H Q :=
 uU (λF2 ρ p h h' o x bJ H2 Q' e R2 b2 k=>by
  obtain⟨q,e1,e⟩:=aR e;obtain⟨r,M,e⟩:=aR e;obtain⟨t,u⟩:=J _ _ _ e1;refine⟨F2,_,p,q,R2,b2,e1,λw H3 R d y Y B=>⟨R,q,by grind,r,M,?_⟩⟩
  match r,e with
  | (.ok b,T),e =>
   intro b' Z C j f eb;cases eb;cases b with
   | true =>
    have e:=e;obtain⟨r,e5,e⟩:=aR e;obtain⟨⟨a,hh⟩,e6,e7⟩:=br e;cases e7;obtain⟨Nw,rfl,rfl⟩:=zB e6;rw[if_pos rfl];refine⟨C,T,j,_,e5,λv H5 F5 D E I=>?_⟩
    rw[B]at D I;exact k (some v) w H5 F5 ⟨D.c,(d.l.mono (f.trans E)).back (t.symm.trans d.l.len) rfl u m⟩ (y.trans (f.trans E)) (.cons I .nil)
   | false =>
    have e:=e;cases e;rw[B]at j;exact k none w Z C ⟨j.c,(d.l.mono f).back (t.symm.trans d.l.len) rfl u m⟩ (y.trans f) .nil) h
end
end L2.U
namespace PySem
open PyProof.Rows
def Raw(h:Heap)(a:Addr)(b:Array DictEntry)(c:Nat):Prop:=∃o,h.get? a=some o/\o.ExactDict/\o.data=.dict b c
section
variable {prog:Program} {w:World} {A:Around} {E:Value->Shared->Prop} {s:Shared} {it d:Addr} {i ep:Nat} {es:Array DictEntry}
def zH{Q:Value->Shared->Prop}(hd:(d==sysModules)=false)(c:Raw s.heap d es ep)
  (q:Q (.ref s.heap.objs.size) {s with heap:=s.heap.push {cls:=.type "dict_keyiterator",data:=.fields #[.ref d,.int 0 0,.int es.size 0,.int ep 0]}}):wpAny (model prog w) A (pyIter (.ref d)) Q E s:=by
 obtain⟨o,ho,hc,b⟩:=c;have a:s.TypeIs (.ref d) "dict":=⟨o,ho,hc.1⟩;refine wpAny_pyIter_slot a F.slot_dict_iter (iq F.slot_dict_iter a F.entry_dict_iter ?_ (F.args_dict_iter_1 _));unfold Builtin.«dict.__iter__» Builtin.Dict.dictSlotNone Builtin.Dict.showsAll;refine af (af (Bx a (show wpAny _ _ (pure (Value.ref d)) _ _ s from au ?_)))
 show wpAny _ _ ((if(d==sysModules)=true then _ else _) >>= _) _ _ s
 rw[if_neg (by rw[hd];exact c5)]
 refine af (au (af (qp ho b (af (wpAny_dictEpoch ho b ?_)))));exact af (gC (au ⟨_,rfl,"dict_keyiterator",_,⟨_,cO _ rfl,rfl⟩,Bl.lookup,q⟩))
def mw{Q:Option Value->Shared->Prop}(l:A.handled=none)(g:s.heap.IsKeyIter it d i es.size ep)(p:Raw s.heap d es ep)
  (h1:∀e,es[i]?=some e->∀h',h'.IsKeyIter it d (i+1) es.size ep->Heap.SameBut it s.heap h'->Q (some e.key) {s with heap:=h'})
  (h2:es[i]?=none->∀h',Heap.ExtBut it s.heap h'->Q none {s with heap:=h'}):wpAny (model prog w) A (pyNext (.ref it)) Q E s:=by
 obtain⟨o,ho,hc,f⟩:=id g;obtain⟨u,h,_,j⟩:=p;have c:=g.typeIs;unfold pyNext;refine af (wpAny_attempt (lj (name:=Str.ofString "__next__") c Bl (iq Bl c F.entry_dict_keyiterator_next ?_ (F.args_dict_keyiterator_next_1 _))));refine af (au (af (af ?_)))
 first | refine af (Bk c (au ?_)) | refine af (Bo c (au ?_))
 refine af (wpAny_fieldsOf ho f ?_);simp only[show Builtin.Dict_items.ownsTuple "dict_keyiterator"=false by decide,jM,fq]
 show wpAny _ _ (if(Value.ref d==Value.none)=true then _ else _) _ _ s
 rw[if_neg (show ¬((Value.ref d==Value.none)=true)from c5)]
 refine af (au (af (qp h j ?_)));rw[if_neg (by simp)]
 refine af (au (af (wpAny_dictEpoch h j ?_)));rw[if_neg (by simp)]
 refine au ?_;cases he:es[i]? with
 | some e =>
  simp only[show ¬((i:Int)<0)from by lia,fq,gB,he]
  refine af ?_
  first | refine af (Bk c (au ?_)) | refine af (Bo c (au ?_))
  refine af (wpAny_isOneOf_keyiter c ?_);show wpAny _ _ (setField (.ref it) 1 (rawInt ((i:Int)+1)) >>= _) _ _ s;refine af (vX ho f (by simp) ?_)
  have k:(s.heap.update it (Obj.mapFields (·.setIfInBounds 1 (rawInt ((i:Int)+1))))).IsKeyIter it d (i+1) es.size ep :=
   ⟨_,qg _ ho (Obj.isFreed_of_fields (vJ f _)),(Obj.cls_mapFields ..).trans hc,by rw[vJ f];simp[rawInt]⟩
  refine af (fM (af (wpAny_isOneOf_keyiter (s:={s with heap:=s.heap.update it (Obj.mapFields (·.setIfInBounds 1 (rawInt ((i:Int)+1))))}) k.typeIs ?_)))
  exact show wpAny _ _ (pure e.key) _ _ _ from au (au ⟨_,rfl,au (h1 e he _ k (qi ..))⟩)
 | none =>
  simp only[show ¬((i:Int)<0)from by lia,fq,gB,he]
  refine af ?_
  first | refine af (Bk c (au ?_)) | refine af (Bo c (au ?_))
  show wpAny _ _ (setField (.ref it) 0 .none >>= _) _ _ s;refine af (vX ho f (by simp) ?_)
  show wpAny _ _ (newExc (.type "StopIteration") [] >>= _) _ _ _;refine af ?_;simp only[newExc,newTuple];refine af (gC ?_ (by size_fits))
  refine af (m:=firstArgMember _ _) (gH (a:=Value.none) (by first | rfl | (simp only[firstArgMember];rfl)) (gC ?_ (by size_fits)))
  simp only[raiseNew];refine af (wpAny_handled ?_);rw[show A.in1.handled=none from l]
  refine af (au (wpAny_throw ?_));refine af (wpAny_isInstance (T:="StopIteration") (b:=true) ⟨_,cO _ rfl,rfl⟩ isSubtype_stop ?_);exact au (h2 he _ (((qi ..).extBut.push _).push _))
end
end PySem
namespace L2.U
open PySem PySem.Spec PyProof.Rows
abbrev EnT(P:Program)(w:World)(a:Array DictEntry)(xs:List (List bz×Addr×Value)):Prop:=a.toList=xs.map (entryOfKey (tupleKind (b9 P w)))
noncomputable def HZ(a:Addr)(b:Array DictEntry)(c:Nat):HO:=.ext λh=>Raw h a b c
def Itd(a:Addr)(b:Array DictEntry)(c:Nat)(xs:List (List bz×Addr×Value)):It :=
 ⟨λi H=>H a=some (HZ a b c)/\i<xs.length,λi H x d=>d=H/\∃z,xs[i]?=some z/\x=.ref z.2.1,λi H=>H a=some (HZ a b c)/\xs.length<=i⟩
def J6{P:Program}{w:World}{K:W.Frag}{Y:Expr}(a it:Addr)(j:Array DictEntry)(L:Nat)(M:EnT P w j xs):Turn P w K Y (Itd a j L xs) [it] it (λi h=>h.IsKeyIter it a i j.size L) where
 mem:=by simp
 obj:=λi h f b g=>by
  rw[ax]at g;subst g;obtain⟨o,e,c,d⟩:=f;exact⟨o,e,λv z=>by rw[d]at z;cases z⟩
 keep:=λi h l f k=>f.at λo e=>k it (by simp) o e
 item:=by
  intro X q hw r hc i N s Q H E I m f t;subst q hw r;obtain⟨u,p⟩:=t;obtain⟨x,y,Z,B,C,D⟩:=m it (by simp)
  have R:j[i]?=some (entryOfKey (tupleKind (b9 X.prog X.w)) xs[i]):=by rw[entry_at M,bQ p];rfl
  refine mw (I.ok.hd hc) f (I.hok a _ u).1 (λe he l J T=>?_) λz=>by rw[R]at z;cases z
  cases R.symm.trans he;have I1:Inv X N Q H {s with heap:=l}:=I.turned (λb o g e=>T.extBut b o g e) x y B C D
  obtain⟨o,ho,B5,hd⟩:=id J;exact⟨_,rfl,yO ho B5 hd (by decide) ⟨.ref xs[i].2.1,H,I1,rfl,⟨rfl,_,bQ p,rfl⟩,J,λb g=>(m b g).1⟩⟩
 done:=by
  intro X q hw r hc i N s Q H E I m f t;subst q hw r;obtain⟨u,p⟩:=t;obtain⟨x,y,Z,B,C,D⟩:=m it (by simp)
  refine mw (I.ok.hd hc) f (I.hok a _ u).1 (λe he l J T=>?_) λ_ l eb=>⟨rfl,I.turned (λb o g e=>eb b o g e) x y B C D⟩
  rw[entry_at M,iZ p]at he;cases he
 self:=λ_ _ _ _ _ f h=>wpAny_pyIter_keyiter f h
section
variable {X:Cx} {tg:Expr}
abbrev DxT(X:Cx)(a:Addr)(b:Array DictEntry)(xs:List (List bz×Addr×Value)):Prop:=EnT X.prog X.w b xs/\(xs.map (·.1)).Nodup/\xs.length<=sizeLine/\(a==sysModules)=false
def adp(X:Cx)(f:TE):TI:=λg H R=>f g H λx d=>∃a b,x=.ref a/\d a=some (.dT b)/\∀c e,DxT X a c b->R (Itd a c e b) (cx d a (HZ a c e))
def UM{l:Expr}{j:TE}(B:PE X l j):PI X tg l (adp X j):=by
 intro m s p H R I h;refine thn (B m s p H _ I h) λv c C=>?_
 obtain⟨x,D,r,E,a,T,rfl,t,q⟩:=C;cases E;obtain⟨J,hS,o,d,f,g,L,M,d4,d5⟩:=r.hok a _ t;have w:Raw c.heap a d f:=⟨o,g,L,M⟩;have i:Inv X m p (cx D a (HZ a d f)) c:=r.write (e:=a) (by rw[t];trivial) (.inl rfl) (λb u _ q=>q) ⟨o,g⟩ ⟨w,⟨o,g⟩,λY Z ⟨N,e1,Q⟩ k=>⟨N,k _ e1,Q⟩⟩
 refine zH hS w ?_;refine⟨c.heap.objs.size,[c.heap.objs.size],_,_,_,rfl,i.kept λb o e=>bg _ e,J6 a _ d f d4,⟨_,cO _ rfl,rfl,rfl⟩,λb y=>?_,q d f ⟨d4,d5,J,hS⟩⟩
 rw[ax]at y;subst y;exact i.B6 (aA _) (i.hok.fresh (aA _))
def Unl(X:Cx)(D:tM):tM:={D with nx:=λb H=>D.nx b H\/∃a c d e,DxT X a d c/\H a=some (HZ a d e)/\D.nx b (cx H a (.dT c))}
def UO{st:Stmt}{t:TS}(h:PS X st t):PS X st (λD c H=>t (Unl X D) c H):=by
 intro i s c H D I q;refine jc (h i s c H _ I q) (λf j z=>?_) λ_ _ z=>z
 cases f with
 | next =>
  obtain⟨d,k,g,z | ⟨a,v,l,m,⟨w,x,y,B⟩,p,z⟩⟩:=z
  ·exact⟨d,k,g,z⟩
  ·obtain⟨o,r,C,E⟩:Raw j.heap a l m:=(g.hok a _ p).1;have J:Inv X i d (cx k a (.dT v)) j:=g.write (e:=a) (by rw[p];trivial) (.inl rfl) (λb u _ q=>q) ⟨o,r⟩ ⟨y,B,o,l,m,r,C,E,w,x⟩
   exact⟨d,_,J,z⟩
 | brk=>exact z
 | cont=>exact z
 | ret u=>exact z
end
def NE(H H':Hp):Prop:=∀c o,H c=some o->(∀a,o≠.ext a)->H' c=some o
section
variable {K:W.Frag} {H H' G G':Hp}
def NE.rd(e:NE H H')(h:Rd H a u)(b:∀c,u≠.ext c):Rd H' a u:=by
 rcases h with h | ⟨o,h⟩
 ·exact .inl (e _ _ h b)
 ·exact .inr ⟨o,e _ _ h λ_ z=>nomatch z⟩
def NE.ao(e:NE H H')(h:gT K H a xs):gT K H' a xs:=h.imp (λh=>e.rd h λ_ z=>nomatch z) id
def kC.ne(h:kC K G H a x k vs)(g:NE G G')(e:NE H H'):kC K G' H' a x k vs:=by
 cases k with
 | ao=>exact⟨h.1,e.ao h.2⟩
 | lst =>
  cases x with
  | true=>exact e _ _ h λ_ z=>nomatch z
  | false=>exact Or.imp (λh=>e.rd h λ_ z=>nomatch z) id h
 | oA C ns =>
  obtain⟨i,j,fs,b,c,d,l,m⟩:=h;exact⟨i,j,fs,b,c,d,e _ _ l (λ_ z=>nomatch z),m⟩
 | fu t ks =>
  cases t with
  | false =>
   obtain⟨f,b,c⟩:=h;exact⟨f,e _ _ b (λ_ z=>nomatch z),c⟩
  | true =>
   obtain⟨o,b,c,d⟩:=h;exact⟨o,e _ _ b (λ_ z=>nomatch z),λz p=>g.ao (c z p),d⟩
mutual
theorem bN.ne{F F':Fz}(g:NE F.F F'.F)(m:F'.μ=F.μ):∀{p:PV} {v:V},bN K F p v->bN K F' p v
 | .bj,_,h=>h
 | .bl _,_,h=>h
 | .int _,_,h=>h
 | .str _,_,h=>h
 | .ref _,_,h=>by obtain⟨a,b,c⟩:=h;exact⟨a,by rw[m];exact b,c⟩
 | .fn _,_,h=>h
 | .nd k f,_,h=>by obtain⟨a,d,b,c,e⟩:=h;exact⟨a,d,b,c.ne g g,aB.ne g m e⟩
theorem aB.ne{F F':Fz}(g:NE F.F F'.F)(m:F'.μ=F.μ):∀{ps:List PV} {vs:List V},aB K F ps vs->aB K F' ps vs
 | [],_,h=>h
 | _::_,_,h=>by obtain⟨v,r,a,b,c⟩:=h;exact⟨v,r,a,bN.ne g m b,aB.ne g m c⟩
end
end
def ON:ak:=⟨.ao,[]⟩
def zI(H:Hp)(a:Addr):Hp:=λb=>if b=a then none else H b
def rE(h:b≠a):zI H a b=H b:=if_neg h
section
variable {K:W.Frag} {aa H:Hp} {ab F F':Fz} {st:cz} {σ:St} {a:Addr} {n:Nat} {c:ak}
def RB{d:List Addr}(hd:d.Nodup)(h1:d[n]?=some a)(h2:d[m]?=some b)(e:m≠n):b≠a:=λz=>by
 subst z;exact e ((List.getElem?_inj (bu.mp h2).1 hd).mp (h2.trans h1.symm))
def Rep.lock(R:Rep K aa ab F st σ H)(p:F.μ[n]?=some a)(v:F.F a=none)(u:HO):Rep K aa ab ⟨cx F.F a u,F.μ⟩ ⟨st.ρ,st.h.set n ON⟩ σ (cx H a u)/\Gr F ⟨cx F.F a u,F.μ⟩:=by
 have g:Gr F ⟨cx F.F a u,F.μ⟩:=⟨eF v,λ_ _ h=>h⟩
 have q:=(R.c.new n a p).1;refine⟨⟨⟨λb o e=>?_,λb o e=>?_,R.c.base.trans g,λb o e=>?_,λm b e=>?_,by simp[R.c.hl],R.c.nd,λm d b hd f r=>?_⟩,R.l.mono g⟩,g⟩
 ·have e:cx F.F a u b=some o:=e;by_cases f:b=a
  ·subst f;rw[aE]at e ⊢;exact e
  ·rw[aK f]at e ⊢;exact R.c.sub _ _ e
 ·rw[aK (bU e q)];exact R.c.keep _ _ e
 ·have e:cx F.F a u b=some o:=e;by_cases f:b=a
  ·subst f;exact .inr q
  ·rw[aK f]at e;exact R.c.fresh _ _ e
 ·obtain⟨i,o,j⟩:=R.c.new m b e;by_cases f:b=a
  ·subst f;exact⟨i,u,aE⟩
  ·exact⟨i,o,by rw[aK f];exact j⟩
 ·by_cases k:m=n
  ·subst k;rw[List.getElem?_set_self' ]at hd;cases z:st.h[m]? with
   | none=>rw[z]at hd;cases hd
   | some y=>rw[z]at hd;cases hd;cases r
  ·rw[c9 (dt k)]at hd;have t:=RB R.c.nd p f k;obtain⟨i,w,j,x⟩:=R.c.cell m d b hd f r;exact⟨(aK t).trans i,w,j.to g.s (λo e=>by rw[aK t];exact e) (λz=>z),x.mono g⟩
def Rep.unlock{F1:Fz}(R:Rep K aa ab F' ⟨ρ,h⟩ σ H)(w:F'.μ[n]?=some a)(D:F'.F a=some (.ext x))(E:Gr F1 F')(J:F1.F a=none)(L:Gr ab F1)(M:n<h.length)(u:HO)(hc:∀G,cK F1.F G->kC K G (cx H a u) a true c.k vs)(N:aB K F1 c.ps vs) :
  Rep K aa ab ⟨zI F'.F a,F'.μ⟩ ⟨ρ,h.set n c⟩ σ (cx H a u)/\Gr F1 ⟨zI F'.F a,F'.μ⟩:=by
 have g:Gr F1 ⟨zI F'.F a,F'.μ⟩:=⟨λb o e=>(rE (bU e J)).trans (E.s _ _ e),E.m⟩
 have j:NE F'.F (zI F'.F a):=λb o e q=>by
  by_cases f:b=a
  ·subst f;rw[D]at e;cases e;exact absurd rfl (q x)
  ·rw[rE f];exact e
 have I:=(R.c.new n a w).1;have y:H a=some (.ext x):=R.c.sub _ _ D;have B:NE H (cx H a u):=λb o e q=>by
  by_cases f:b=a
  ·subst f;rw[y]at e;cases e;exact absurd rfl (q x)
  ·rw[aK f];exact e
 refine⟨⟨⟨λb o e=>?_,λb o e=>?_,L.trans g,λb o e=>?_,λm b e=>?_,by rw[lA];exact R.c.hl,R.c.nd,λm d b hd f Q=>?_⟩,⟨λi p e=>?_,R.l.len⟩⟩,g⟩
 ·by_cases f:b=a
  ·subst f;exact nomatch (show none=some o from(if_pos rfl:zI F'.F b b=none).symm.trans e)
  ·rw[aK f];exact R.c.sub _ _ ((rE f).symm.trans e)
 ·rw[aK (bU e I)];exact R.c.keep _ _ e
 ·by_cases f:b=a
  ·subst f;exact .inr I
  ·exact R.c.fresh _ _ ((rE f).symm.trans e)
 ·obtain⟨r,o,t⟩:=R.c.new m b e;by_cases f:b=a
  ·subst f;exact⟨r,u,aE⟩
  ·exact⟨r,o,by rw[aK f];exact t⟩
 ·by_cases C:m=n
  ·subst C;rw[gh M]at hd;cases hd;cases w.symm.trans f;exact⟨if_pos rfl,vs,hc _ g.s,N.mono g⟩
  ·rw[c9 (dt C)]at hd;have T:=RB R.c.nd w f C;obtain⟨r,ws,t,X⟩:=R.c.cell m d b hd f Q;exact⟨(rE T).trans r,ws,t.ne j B,aB.ne (F:=F') (F':=⟨zI F'.F a,F'.μ⟩) j rfl X⟩
 ·obtain⟨v,r,t⟩:=R.l.av i p e;exact⟨v,r,bN.ne (F:=F') (F':=⟨zI F'.F a,F'.μ⟩) j rfl t⟩
end
noncomputable def kyP:bz->PV
 | .inl i=>.int i
 | .inr x=>.str x
def jA(ks:List (List bz)):List PV:=ks.map λk=>.ao (k.map kyP)
noncomputable def unD(n:Nat)(c:ak):Rs dE×cz->Option (Rs dE×cz)
 | (.ok .nx,st)=>if n<st.h.length then some (.ok .nx,⟨st.ρ,st.h.set n c⟩)else none
 | (.ok (.rt p),st)=>some (.ok (.rt p),st)
 | _=>none
def CK:Kd->Option (List (List bz))
 | .fu true ks=>some ks
 | _=>none
def Y1(fe:Gx PV)(g:Tg)(a:Gx dE):Gx dE:=bnd fe λp b=>(gX b.h p).bind λq=>(CK q.2.k).bind λks=>(dv g a (jA ks) ⟨b.ρ,b.h.set q.1 ON⟩).bind (unD q.1 q.2)
theorem pT{K:W.Frag}{F:Fz}:∀k:List bz,aB K F (k.map kyP) (k.map kV)
 | []=>.nil
 | .inl i::k=>.cons (aH.mpr rfl) (pT k)
 | .inr x::k=>.cons (cL.mpr rfl) (pT k)
def J7{K:W.Frag}(hF:F.F a=some (HZ a f g))(hk:eU K F.F xs):Walk K F (jA (xs.map (·.1))) (Itd a f g xs):=by
 intro l m h o q H R s i;have d:=R.c.sub _ _ (s.s _ _ hF);unfold jA;rw[c6,bG];refine⟨λp e=>?_,λe=>⟨d,?_⟩⟩
 ·obtain⟨y,b,rfl⟩:=il.mp e;refine⟨⟨d,(bu.mp b).1⟩,λx r z=>?_⟩
  obtain⟨rfl,k,j,rfl⟩:=z;cases b.symm.trans j;exact⟨h,R,Gr.refl _,cq.mpr ⟨_,_,rfl,bt s.s (hk y (cZ b)),pT _⟩⟩
 ·rw[vI]at e;exact iY.mp e
section
variable {X:Cx} {aa:Hp} {ab:Fz} {tg iter:Expr} {fe:Gx PV} {fb:Gx dE} {body:List Stmt} {pos:Pos} {D:tM}
def UP(hp:PassesOwn (model X.prog X.w) X.A X.env X.xe)(hc:X.calm=true)(he:PE X iter (tE X aa ab fe))(hg:PG X tg (tG X.K aa ab g))(hb:PSs X body (tS X aa ab fb))
  (hs:∀x,foldedSetIterable iter X.env x=pure x:=by intro _;rfl):PS X (.For tg iter body [] pos) (tS X aa ab (Y1 fe g fb)):=(UO (Jb hp hc (UM he) hg hb hs)).imp λD σ H h=>by
 obtain⟨F,st,R,h⟩:=h;refine⟨F,st,R,h.bnd λp v F1 E H1 R1 g1 b1 h1=>?_⟩
 obtain⟨r,e1,N⟩:=h1;obtain⟨⟨n,c⟩,d1,e0⟩:=aR e1;clear e1;obtain⟨rfl,WX,hl⟩:=eY d1;obtain⟨ks,I,e1⟩:=aR e0;obtain⟨q,d3,e1⟩:=aR e1;obtain⟨a,ha,rfl⟩:=c8.mp b1;obtain⟨ck,cp⟩:=c;have I:CK ck=some ks:=I;cases ck with
 | fu t tY =>
  cases t with
  | false=>cases I
  | true =>
   cases I;obtain⟨hf,ws,⟨d,k1,k2,k3,k4⟩,hv⟩:=R1.c.cell n _ a WX ha hl;subst k3;refine⟨a,d,rfl,k1,λk l hx=>?_⟩
   obtain⟨R2,g2⟩:=R1.lock ha hf (HZ a k l);have hn:n<E.h.length:=(bu.mp WX).1;have hF:cx F1.F a (HZ a k l) a=some (HZ a k l):=aE;have wk:Walk X.K ⟨cx F1.F a (HZ a k l),F1.μ⟩ (jA (d.map (·.1))) (Itd a k l d):=J7 hF λz hz=>bt g2.s (k2 z hz)
   have Q:Sa X aa ab ⟨cx F1.F a (HZ a k l),F1.μ⟩ (Unl X D) ⟨E.ρ,E.h.set n ON⟩ (dv g fb (jA (d.map (·.1)))):=by
    refine⟨q,d3,?_⟩;obtain⟨f | ⟨m,C⟩,Nw⟩:=q
    ·cases f with
     | nx =>
      intro j u o J B;obtain⟨hn3,e4⟩:=bP e1;cases e4;obtain⟨R4,g4⟩:=Rep.unlock (c:=⟨.fu true (d.map (·.1)),cp⟩) J (B.m n a ha) (B.s _ _ hF) (g2.trans B) hf R1.c.base hn3 (.dT d) (λG g9=>⟨d,aE,λz hz=>bt g9 (k2 z hz),rfl,k4⟩) hv
      exact .inr ⟨a,d,k,l,hx,J.c.sub _ _ (B.s _ _ hF),N _ u _ R4 g4⟩
     | rt p=>cases e1;exact λv j o C' B b'=>N v j o C' (g2.trans B) b'
     | bk=>cases e1
     | ct=>cases e1
    ·cases e1
   generalize hps:jA (d.map (·.1))=b at wk Q
   generalize hF2:(⟨cx F1.F a (HZ a k l),F1.μ⟩:Fz)=F2 at R2 wk Q
   generalize (⟨E.ρ,E.h.set n ON⟩:cz)=T at R2 Q
   refine⟨λi m u o=>m=b.length-i/\i<=b.length/\∃j L,Rep X.K aa ab j L u o/\Gr F2 j/\Sa X aa ab j (Unl X D) L (dv g fb (b.drop i)),⟨b.length,by simp,fj _,F2,T,R2,Gr.refl _,Q⟩,?_⟩
   rintro i m u o ⟨rfl,hi,j,L,J,s',Y⟩
   obtain⟨wg,YZ⟩:=wk aa ab j L u o J s' i;by_cases fE:i<b.length
   ·obtain⟨go,wy⟩:=wg b[i] (bQ fE);rw[nu fE]at Y;refine .inr ⟨go,λyQ Z=>∃M T,Rep X.K aa ab M T yQ Z/\Gr F2 M/\Sa X aa ab M (Unl X D) T (dv g fb (b.drop (i+1))),λyQ Z n2=>⟨b.length-(i+1),by lia,rfl,fE,n2⟩,λx Z y=>?_⟩
    obtain⟨M,R2,s2,b2⟩:=wy x Z y;obtain⟨r,e1,N⟩:=At.bnd Y;obtain⟨Rz,e3,e4⟩:=br e1;subst e4;refine⟨M,L,b[i],Rz,R2,b2,e3,λoE H3 F3 R3 s3=>⟨F3,Rz,R3,?_⟩⟩
    exact Sa.lH _ (λF4 HX Oe H4 R4 g4 z=>⟨F4,HX,R4,(s'.trans (s2.trans s3)).trans g4,z⟩) (Sa.mono (N) (s2.trans s3))
   ·have e:i=b.length:=by lia
    subst e;rw[BP]at Y;exact .inl ⟨YZ (iZ (aA _)),At.aW Y j u o J (Gr.refl _)⟩
 | _=>cases I
end
def Ex{P:Program}{w:World}{H':Hp}{h1 d B:Heap}(x:lG P w H' h1)(i:∀b o,H' b=some o->∃f,B.get? b=some f)(j:B.StaysIn h1)(k:B.StaysIn d):lG P w H' d:=λa o e=>by
 have keep:∀b u g,H' b=some g->h1.get? b=some u->d.get? b=some u:=λb u g l q=>by
  obtain⟨f,c⟩:=i b g l;have:=j b f c;rw[q]at this;cases this;exact k b _ c
 refine(x a o e).we (λb u h q=>?_) (λ_ q=>q) (λ_ _ q=>q) λ_ _ _ q=>q
 rcases h with rfl | h
 ·exact keep _ _ _ e q
 ·exact keep _ _ _ h q
def J8{l:List Env}{H H':Hp}{h h1 d B m:Heap}(u:Un (nK l) [] H H' h h1)(p:Dm H H')(r:∀b o,H' b=some o->∃c,B.get? b=some c)(i:∀b c,h.get? b=some c->H b=none->b∉nK l->B.get? b=some c)
  (f:B.StaysIn d) (t:h1.FunFrames m l) (w:h1.UpToSlots d):Un (nK l) [] H H' h d:=by
 have slot:∀b o,h.get? b=some o->H b=none->b∈nK l->∃j,d.get? b=some {o with slots:=j}:=λb o q n a=>by
  obtain⟨j,e⟩:=u.slot b o q n a (by simp)
  obtain⟨_,E,k,hd⟩:=t.mem a;rw[e]at k;cases k;obtain⟨x,y⟩:=w b _ e hd;exact⟨x,y⟩
 refine⟨λb o q n a _=>f b o (i b o q n a),λb o q n a _=>slot b o q n a,u.free,λb o q I=>?_,u.tups,u.frzs,u.tbls⟩
 cases z:H b with
 | none =>
  by_cases a:b∈nK l
  ·grind
  ·exact⟨o,f b o (i b o q z a)⟩
 | some v =>
  obtain⟨C,D⟩:=p b v z;obtain⟨c,g⟩:=r b C D;exact⟨c,f b c g⟩
def GJ{P:Program}{w:World}{H:Hp}{h:Heap}{a:Addr}{o:HO}(x:fH P w H h a o):∃b,h.get? a=some b:=by
 cases o with
 | lst xs=>obtain⟨_,_,_,_,e⟩:=x;exact⟨_,e⟩
 | ao xs=>obtain⟨_,_,_,b,e,_⟩:=x;exact⟨_,e⟩
 | dK c=>obtain⟨_,_,_,_,o,_,_,e,_⟩:=x;exact⟨_,e⟩
 | dT c=>obtain⟨_,_,o,_,_,e,_⟩:=x;exact⟨_,e⟩
 | set S n=>obtain⟨o,_,_,_,e,_⟩:=x;exact⟨_,e⟩
 | oA C d fs=>obtain⟨_,_,_,e,_⟩:=x;exact⟨_,e⟩
 | own y=>obtain⟨_,e⟩:=x;exact⟨_,e⟩
 | xd fs=>obtain⟨_,⟨_,_,_,e,_⟩,_⟩:=x;exact⟨_,e⟩
 | rng lo g=>obtain⟨_,_,_,e⟩:=x;exact⟨_,e⟩
 | oC b u=>obtain⟨e,_⟩:=x;exact⟨_,e⟩
 | BY q=>obtain⟨_,e,_⟩:=x;exact⟨_,e⟩
 | met f y=>exact⟨_,show h.get? a=some _ from x⟩
 | ext i=>obtain⟨_,⟨_,e⟩,_⟩:=x;exact⟨_,e⟩
section
variable {P:Program} {w:World} {K:W.Frag} {mg:Str->Option Value} {base:Heap} {N:List Str} {qual:Str} {scope:Scope} {f:Addr} {cd:Value} {A:Around} {ay:List Env} {s:Shared} {H:Hp} {E E1:XK} {ae:List (Addr×Obj)} {σ:St} {H1:Hp} {s1 s':Shared} {e:Value}
def Ey(I:Inv (eZ (iH P w) P w K mg base N qual scope f cd A ay s H E) ae σ H1 s1){b:Addr}{a:Obj}(q:s.heap.get? b=some a)(c:b∉nK ay):b∉nK (envOfC qual scope s.heap.objs.size f cd::ay):=λd=>by
 rcases aF.mp (I.wj b d)with z | z
 ·exact absurd (aY q) (by rw[z];exact gG _)
 ·exact c z
def zJ(I:Inv (eZ (iH P w) P w K mg base N qual scope f cd A ay s H E) ae σ H1 s1)(h:iH P w (envOfC qual scope s.heap.objs.size f cd::ay) H1 s1 E1 e s')(l:∀c d,E1 c none d->Dm H d/\E c none d) :
  (eZ (iH P w) P w K mg base N qual scope f cd A ay s H E).xe e s':=by
 obtain⟨a,c,u,B,d,rfl,r,i,un,j,C,he,m,o,v⟩:=h;obtain⟨t,l⟩:=l c d he;have x:=I.QU r un j i (λb z=>absurd z (by simp))
 refine wpAny_leaves_onW I.ok.frames rfl m λD p y=>?_
 have k:∀b g,s.heap.get? b=some g->H b=none->b∉nK ay->B.get? b=some g:=λb g q n i=>v b g (I.base.keep b g q n i (by simp[eZ])) (I.base.free b g q n (by simp[eZ])) (Ey I q i)
 exact⟨a,c,u,B,d,rfl,r.trans I.os,i,J8 x.base t o k p.1 m.2.2.1.2.2 y,Ex j o m.1 p.1,t,l,p,o,k⟩
def Ez{h1:Heap}{a:Addr}{d:Value}{vs:List Value}(I:Inv (eZ (iH P w) P w K mg base N qual scope f cd A ay s H E) ae σ H1 s1)(h:Heap.MadeExcOf s1.heap h1 a d vs)(l:Dm H H1)(p:E d none H1) :
  (eZ (iH P w) P w K mg base N qual scope f cd A ay s H E).xe (.ref a) {s1 with heap:=h1}:=by
 have i:∀b o,H1 b=some o->∃c,(W.hideAll s1.heap (nK (envOfC qual scope s.heap.objs.size f cd::ay))).get? b=some c:=λb o e=>by
  obtain⟨c,q⟩:=GJ (I.hok b o e);exact⟨c,W.hideAll_get _ q λg=>by
   have:=I.wm b g;rw[e]at this;cases this⟩
 have m:∀b c,s.heap.get? b=some c->H b=none->b∉nK ay->(W.hideAll s1.heap (nK (envOfC qual scope s.heap.objs.size f cd::ay))).get? b=some c:=λb c q n g =>
  W.hideAll_get _ (I.base.keep b c q n g (by simp[eZ])) (Ey I q g)
 refine wpAny_leaves_madeW I.ok.frames rfl (λb o q=>W.of_hideAll _ q) (W.funFrames_hide I.stack λj he b g=>nv.mpr ⟨j,he,g⟩) h λu t k ao v r=>?_
 refine⟨a,d,.ref t,_,H1,rfl,I.os,I.bare,J8 (I.base.trans (Un.kept h.keeps)) l i m k.1 (I.funs.of_keeps λb o q _=>⟨o,h.keeps b o q,rfl⟩) r,Ex (I.hok.kept h.keeps) i (λb o q=>h.keeps b o (W.of_hideAll _ q)) k.1,l,p,k,i,m⟩
end
def CL(K:W.Frag)(f:Addr)(b:Value):Prop:=∃c d a e,K.lookup f=some ⟨c,d,.func a,e⟩/\a.code=b
def OP{P:Program}{w:World}{K:W.Frag}{d:Str->Option Value}{a:Heap}{x qual:Str}{st:Stmt}{f:Addr}{e:FuncData}{N ps:List Str}{k:Nat}{sp:Sp}(F:BZ K x qual st f e)(S:dD N ps (aw st))(len:∀vs H Q E,sp vs H Q E->vs.length=ps.length)
  (hbody:∀(b:Value) (A:Around) (c:List Env) (s:Shared) (H:Hp) (vs:List V) (Q:VK) (E:XK),CL K f b->dH k (A.deeper (envOfC qual (aw st) s.heap.objs.size f b))->sp vs H Q E ->
   ∃t,PSs (eZ (iH P w) P w K d a N qual (aw st) f b A c s H E) (dm st) t/\t {nx:=λ_ H'=>Q .bj H',rt:=Q} (hJ N vs) H):FnOk P w K d a (iH P w) (k+1) f e ps sp:=by
 obtain⟨h,i,kV,j,q,r,b,ct,l,rfl,g,m⟩:=F.ex;exact Jl g m S len λA c s H vs Q E o p=>hbody b A c s H vs Q E ⟨h,i,_,l,g,rfl⟩ o p
def pj(H:Hp)(a:List Addr):Hp:=λb=>if b∈a then none else H b
section
variable {K:W.Frag} {aa H H':Hp} {ab F F':Fz} {h h':List ak}
def GL{a:List Addr}{b:Addr}{o:HO}(e:pj H a b=some o):H b=some o/\b∉a:=by
 unfold pj at e;split at e
 ·cases e
 ·grind
def GN{a:List Addr}{b:Addr}(e:pj H a b=none):H b=none\/b∈a:=by
 unfold pj at e;split at e
 ·grind
 ·grind
def kq.enter(C:kq K aa ab F h H):kq K (pj H F.μ) F F h H/\∀b o,H b=some o->pj H F.μ b=some o\/∃n:Nat,F.μ[n]?=some b:=by
 refine⟨⟨C.sub,λb o e=>(GL e).1,Gr.refl F,λa o e=>.inl e,λn a e=>⟨if_pos (cZ e),(C.new n a e).2⟩,C.hl,C.nd,C.cell⟩,λb o e=>?_⟩
 by_cases d:b∈F.μ
 ·obtain⟨n,f⟩:=qh.mp d;exact .inr ⟨n,f⟩
 ·exact .inl (by unfold pj;rw[if_neg d];exact e)
def kq.leave(C:kq K aa ab F h H)(D:kq K (pj H F.μ) F F' h' H'):kq K aa ab F' h' H':=by
 have d:∀a,pj H F.μ a=none->aa a=none:=λa e=>by
  rcases GN e with z | z
  ·exact C.keep.free z
  ·obtain⟨n,f⟩:=qh.mp z;exact(C.new n a f).1
 refine⟨D.sub,λb o e=>D.keep b o ?_,C.base.trans D.base,λa o e=>?_,λn a e=>⟨d a (D.new n a e).1,(D.new n a e).2⟩,D.hl,D.nd,D.cell⟩
 ·unfold pj;rw[if_neg λg=>?_]
  ·exact C.keep b o e
  ·obtain⟨n,f⟩:=qh.mp g;rw[(C.new n b f).1]at e;cases e
 ·rcases D.fresh a o e with z | z
  ·exact C.fresh a o z
  ·grind
end
abbrev nU:=List PV->List ak->Option (Rs PV×List ak)
def US(K:W.Frag)(d:Hp)(F:Fz)(h':List ak)(Q:VK)(E:XK):Rs PV->Prop
 | .ok p=>∀v c a,kq K d F c h' a->bN K c p v->Q v a
 | .ex _ C=>∀b c a,kq K d F c h' a->ClsAt K C b->E b none a
def GO(K:W.Frag)(n:Nat)(f:nU):Sp:=λe H Q E=>∃a F h c r d,kq K a F F h H/\(∀b o,H b=some o->a b=some o\/∃n:Nat,F.μ[n]?=some b)/\aB K F c e/\c.length=n/\f c h=some (r,d)/\US K a F d Q E r
noncomputable def gm(n:Nat)(ps:List PV):List (Option PV):=ps.map some++List.replicate (n-ps.length) none
noncomputable def Y5:Rs dE×cz->Option (Rs PV×List ak)
 | (.ok (.rt p),st)=>some (.ok p,st.h)
 | (.ok .nx,st)=>some (.ok .bj,st.h)
 | (.ex m C,st)=>some (.ex m C,st.h)
 | _=>none
def dO(fb:Gx dE)(n:Nat):nU:=λa h=>(fb ⟨gm n a,h⟩).bind Y5
def zK{K:W.Frag}{F:Fz}{ps:List PV}{vs:List V}{N:List Str}(b:aB K F ps vs):Lc K F (gm N.length ps) (hJ N vs) where
 av:=λi p e=>by
  unfold gm at e;unfold hJ;by_cases a:i<ps.length
  ·rw[cU (by simpa using a),bG]at e
   cases z:ps[i]? with
   | none=>rw[z]at e;cases e
   | some q =>
    rw[z]at e;cases e;obtain⟨v,c,d⟩:=b.get z;refine⟨v,?_,d⟩;rw[cU (by simpa using (b.length▸a)),bG,c]
    rfl
  ·rw[iX (by simpa using a),List.getElem?_replicate]at e
   split at e<;>cases e
 len:=by unfold gm hJ;simp[b.length]
def EA{K:W.Frag}{a H H':Hp}{F F':Fz}{h':List ak}(c:∀b o,H b=some o->a b=some o\/∃n:Nat,F.μ[n]?=some b)(D:kq K a F F' h' H'):Dm H H':=λb o e=>by
 rcases c b o e with z | ⟨n,d⟩
 ·exact⟨o,D.keep b o z⟩
 ·exact(D.new n b (D.base.m n b d)).2
def J9{P:Program}{w:World}{K:W.Frag}{u:Str->Option Value}{d:Heap}{x qual:Str}{st:Stmt}{f:Addr}{B:FuncData}{N ps:List Str}{k:Nat}{fb:Gx dE}(F:BZ K x qual st f B)(S:dD N ps (aw st))
  (hbody:∀(l:Value) (A:Around) (p:List Env) (s:Shared) (H:Hp) (E:XK),CL K f l->dH k (A.deeper (envOfC qual (aw st) s.heap.objs.size f l))->∀(y:Hp) (T:Fz),
   PSs (eZ (iH P w) P w K u d N qual (aw st) f l A p s H E) (dm st) (tS (eZ (iH P w) P w K u d N qual (aw st) f l A p s H E) y T fb)):FnOk P w K u d (iH P w) (k+1) f B ps (GO K ps.length (dO fb N.length)):=by
 refine OP F S (by rintro D H Q E ⟨_,_,_,_,_,_,_,_,b,J,_⟩;rw[<-b.length];exact J) λl A p s H D Q E X Y Z=>?_
 obtain⟨y,F,h,as,r,h',C,L,b,J,hf,res⟩:=Z;refine⟨_,hbody l A p s H E X Y y F,F,⟨gm N.length as,h⟩,⟨C,zK b⟩,?_⟩;obtain⟨q,e1,t⟩:=aR hf;refine⟨q,e1,?_⟩;rcases q with⟨f | ⟨m,c⟩,st⟩
 ·cases f with
  | rt=>cases t;exact λv i o C' g b'=>res v i o C' b'
  | nx=>cases t;exact λi M o R g=>res .bj i o R.c (dn.mpr rfl)
  | _=>cases t
 ·cases t;cases m with
  | true=>exact λi M o ae s1 h1 a j D R sf I hc hm=>Ez I hm (EA L R.c) (res j i o R.c hc)
  | false=>exact λM ae H1 s1 e s' I h=>zJ I h (by rintro j H2 ⟨hc,i,R,sf⟩;exact⟨EA L R.c,res j i H2 R.c hc⟩)
mutual
def noRef:PV->Bool
 | .ref _=>false
 | .nd _ a=>ai a
 | _=>true
def ai:List PV->Bool
 | []=>true
 | p::a=>noRef p&&ai a
end
section
variable {K:W.Frag} {F:Fz} {μ:List Addr}
mutual
theorem bN.any:∀{p:PV} {v:V},noRef p=true->bN K F p v->bN K ⟨F.F,μ⟩ p v
 | .bj,_,_,b=>dn.mpr (dn.mp b)
 | .bl _,_,_,b=>b8.mpr (b8.mp b)
 | .int _,_,_,b=>aH.mpr (aH.mp b)
 | .str _,_,_,b=>cL.mpr (cL.mp b)
 | .fn _,_,_,b=>qW.mpr (qW.mp b)
 | .ref _,_,h,_=>by simp[noRef]at h
 | .nd k g,_,h,b=>by
  obtain⟨a,c,d,e,f⟩:=je.mp b;exact je.mpr ⟨a,c,d,e,aB.any h f⟩
theorem aB.any:∀{ps:List PV} {vs:List V},ai ps=true->aB K F ps vs->aB K ⟨F.F,μ⟩ ps vs
 | [],_,_,b=>by rw[b.cW];exact .nil
 | _::_,_,h,b=>by
  simp only[ai,aO]at h;obtain⟨v,r,rfl,a,b2⟩:=b.cy;exact .cons (a.any h.1) (aB.any h.2 b2)
end
end
def oJ(h:List ak):Nat->PV->Option PV
 | 0,p=>if noRef p=true then some p else none
 | n+1,p=>if noRef p=true then some p else match p with
  | .ref m=>(h[m]?).bind λc=>if live c=true then(cb (oJ h n) c.ps).map (.nd c.k)else none
  | .nd k a=>(cb (oJ h n) a).map (.nd k)
  | _=>none
open Classical in
noncomputable def kK (F:Fz) (h:List ak) (H:Hp):Hp:=λa=>match F.F a with
 | some o=>some o
 | none=>if(∃(n:Nat) (c:ak),F.μ[n]?=some a/\h[n]?=some c/\live c=true)then H a else none
section
variable {K:W.Frag} {aa H:Hp} {ab F:Fz} {h:List ak}
def iR{a:Addr}{o:HO}(e:F.F a=some o):kK F h H a=some o:=by unfold kK;rw[e]
def GP{a:Addr}{n:Nat}{c:ak}(e:F.F a=none)(h1:F.μ[n]?=some a)(h2:h[n]?=some c)(b:live c=true):kK F h H a=H a:=by
 unfold kK;rw[e];exact if_pos ⟨n,c,h1,h2,b⟩
def zL{a:Addr}{o:HO}(e:kK F h H a=some o):F.F a=some o\/(H a=some o/\∃n:Nat,F.μ[n]?=some a):=by
 unfold kK at e;split at e
 ·grind
 ·split at e
  ·grind
  ·cases e
def kq.oJ(C:kq K aa ab F h H)(f:List Addr):∀(n:Nat) (p q:PV) (v:V),oJ h n p=some q->bN K F p v->bN K ⟨kK F h H,f⟩ q v:=by
 have keep:∀{p:PV} {v:V},noRef p=true->bN K F p v->bN K ⟨kK F h H,f⟩ p v:=λl b =>
  bN.mono (F:=⟨F.F,f⟩) (F':=⟨kK F h H,f⟩) ⟨λb o e=>iR e,λ_ _ e=>e⟩ (b.any l)
 intro n;induction n with
 | zero =>
  intro p q v e b;obtain⟨l,rfl⟩:=aM e;exact keep l b
 | succ n ih =>
  intro p q v e b;unfold U.oJ at e;split at e
  ·grind
  ·have list:∀(i g:List PV) d,cb (U.oJ h n) i=some g->aB K F i d->aB K ⟨kK F h H,f⟩ g d:=by
    intro i;induction i with
    | nil=>intro g d e b;cases e;rw[b.cW];exact .nil
    | cons p i m =>
     intro g d e b;obtain⟨y,r,e1,j,rfl⟩:=dX e;obtain⟨v,w,rfl,B,b2⟩:=b.cy;exact .cons (ih p y v e1 B) (m r w j b2)
   split at e
   ·obtain⟨c,e1,e⟩:=aR e;obtain⟨x,e⟩:=bP e;obtain⟨g,j,rfl⟩:=br e;obtain⟨a,k,t⟩:=c8.mp b;obtain⟨hF,d,u,D⟩:=C.cell _ c a e1 k x;exact je.mpr ⟨a,d,t,u.to (λb o e=>iR e) (λo e=>by rw[show(Fz.mk (kK F h H) f).F a=kK F h H a from rfl,GP hF k e1 x];exact e) (λz=>by cases z),list _ _ _ j D⟩
   ·obtain⟨g,j,rfl⟩:=br e;obtain⟨a,d,k,t,u⟩:=je.mp b;exact je.mpr ⟨a,d,k,t.to (λb o e=>iR e) (λo e=>iR e) id,list _ _ _ j u⟩
   ·cases e
end
section
variable {X:Cx} {aa:Hp} {ab:Fz} {e:Expr} {es:List Expr} {ts:Gx (List PV)} {pos p:Pos} {k n:Nat} {f:Addr} {fd:FuncData} {ps:List Str} {x:Str} {g:nU}
def pU{CX:HV}{sp:Sp}{E:XK}{i:List (Addr×Obj)}{j:St}{H:Hp}{s:Shared}{Q:VK}{a:List Value}{vs:List V}(F:FnOk X.prog X.w X.K X.mg X.base CX k f fd ps sp)(l:dH k X.A)(m:gp X.K fd ps [])(o:∀e d,CX X.stack H s E e d->X.xe e d)
  (I:Inv X i j H s) (r:Vals vs a) (h:sp vs H Q E):wpAny (model X.prog X.w) X.A (call (.ref f) a) (EP X i j Q) X.xe s:=by
 have b:=m s a I.qL (by rw[dB,<-r.length];exact F.len _ _ _ _ h)
 rw[dB]at b;refine wpAny_call (nF (F.run X.A X.stack s H ⟨a,[]⟩ a vs Q E l I.NL b r h) λr d c=>?_)
 cases r with
 | error e=>exact o e d c
 | ok q =>
  cases q with
  | ret u=>exact I.after c
  | next=>exact False.elim c
  | brk=>exact False.elim c
  | cont=>exact False.elim c
noncomputable def Y6:Rs PV->Rs PV
 | .ok p=>.ok p
 | .ex _ C=>.ex false C
def kL(h:List ak)(p:PV):Option PV:=if h.isEmpty=true then some p else oJ h 4 p
def UT(st:cz):Rs PV×List ak->Option (Rs PV×cz)
 | (.ok p,h)=>(kL h p).map λq=>(.ok q,st)
 | (.ex _ C,_)=>some (.ex false C,st)
def CM(n:Nat)(g:nU)(as:List PV):Gx PV:=λa=>if as.length=n then(g as a.h).map λr=>(Y6 r.1,⟨a.ρ,r.2⟩)else none
def nW(n:Nat)(g:nU)(as:List PV):Gx PV:=λa=>if as.length=n/\(a.h.isEmpty || ai as)=true then(g as []).bind (UT a)else none
def RC(n:Nat)(g:nU)(ts:Gx (List PV)):Gx PV:=bnd ts (nW n g)
def OQ(X:Cx)(f:Addr)(w:List PV->Gx PV):Prop:=∀(aa H:Hp) (ab F:Fz) (st:cz) (σ:St) (a:List (Addr×Obj)) (s:Shared) (Q:VK) (as:List PV) (us:List Value) (b:List V),Inv X a σ H s->Rep X.K aa ab F st σ H->aB X.K F as b->Vals b us->Tx X aa ab (bN X.K) F st (w as) σ Q ->
 wpAny (model X.prog X.w) X.A (call (.ref f) us) (EP X a σ Q) X.xe s
def adq(G:FnOk X.prog X.w X.K X.mg X.base (iH X.prog X.w) k f fd ps (GO X.K n g))(j:dH k X.A)(o:gp X.K fd ps []):OQ X f (CM n g):=by
 rintro aa H ab F st σ t s Q as us Z I R b r ⟨q,e1,u⟩
 obtain⟨y,e1⟩:=bP e1;obtain⟨⟨M,B⟩,E,N⟩:=br e1;subst N;obtain⟨C,J⟩:=R.c.enter;cases M with
 | ok p'=>exact pU G j o (λe a d=>y0 t σ H s e a I d) I r ⟨_,F,st.h,as,_,B,C,J,b,y,E,λv i L D T=>u v L i ⟨R.c.leave D,R.l.mono D.base⟩ D.base T⟩
 | ex m c=>exact thn (pU (Q:=λ_ _=>False) G j o (λe a d=>u σ t H s e a I d) I r ⟨_,F,st.h,as,_,B,C,J,b,y,E,λY i L D hc=>⟨hc,i,⟨R.c.leave D,R.l.mono D.base⟩,D.base⟩⟩) (by rintro v s3 ⟨_,_,_,_,z⟩;exact z.elim)
def Rep.back{K:W.Frag}{aa H h H':Hp}{ab F F':Fz}{i:List Addr}{st:cz}{σ:St}{h':List ak}(R:Rep K aa ab F st σ H)(d:cK H h)(D:kq K h ⟨F.F,i⟩ F' h' H'):Rep K aa ab ⟨kK F' h' H',F.μ⟩ st σ H'/\Gr F ⟨kK F' h' H',F.μ⟩:=by
 have g:cK F.F (kK F' h' H'):=λb o e=>iR (D.base.s b o e)
 refine⟨R.after (d.trans D.keep) g rfl (λb o e=>?_) (λa o e=>?_),g,λ_ _ z=>z⟩
 ·rcases zL e with z | ⟨z,_⟩
  ·exact D.sub b o z
  ·exact z
 ·rcases zL e with z | ⟨_,n,z⟩
  ·exact(D.fresh a o z).imp_right d.free
  ·exact .inr (d.free (D.new n a z).1)
def kq.pure{K:W.Frag}{aa H:Hp}{ab F:Fz}{h:List ak}(C:kq K aa ab F h H):kq K H ⟨F.F,[]⟩ ⟨F.F,[]⟩ [] H :=
 ⟨C.sub,cK.refl H,Gr.refl _,λa o e=>.inl e,λn a e=>by simp at e,rfl,jO,λn c a e=>by simp at e⟩
def Ka{K:W.Frag}{H H':Hp}{G F':Fz}{h':List ak}{p q:PV}{v:V}(c:List Addr)(D:kq K H G F' h' H')(e:kL h' p=some q)(b:bN K F' p v):bN K ⟨kK F' h' H',c⟩ q v:=by
 unfold kL at e;split at e
 ·rename_i z;cases e;have d:F'.μ=[]:=nq (by rw[<-D.hl,vR.mp z];rfl)
  exact b.mono ⟨λb o e=>iR e,λn a e=>by rw[d]at e;simp at e⟩
 ·exact D.oJ c _ _ _ _ e b
def uV{K:W.Frag}{aa H:Hp}{ab F:Fz}{st:cz}{i:St}{as:List PV}{vs:List V}(R:Rep K aa ab F st i H)(j:(st.h.isEmpty || ai as)=true)(b:aB K F as vs)(d:List Addr):aB K ⟨F.F,d⟩ as vs:=by
 rcases vW _ _▸j with z | z
 ·have l:F.μ=[]:=nq (by rw[<-R.c.hl,vR.mp z];rfl)
  exact aB.mono (F:=F) (F':=⟨F.F,d⟩) ⟨cK.refl _,λn a e=>by rw[l]at e;simp at e⟩ b
 ·exact b.any z
def Y7(G:FnOk X.prog X.w X.K X.mg X.base (iH X.prog X.w) k f fd ps (GO X.K n g))(j:dH k X.A)(l:gp X.K fd ps []):OQ X f (nW n g):=by
 rintro aa H ab F st σ t s Q as us vs I R b r ⟨q,e1,u⟩
 obtain⟨⟨y,N⟩,e1⟩:=bP e1;obtain⟨⟨T,B⟩,C,E⟩:=aR e1;have J:∀b o,H b=some o->H b=some o\/∃n:Nat,(Fz.mk F.F []).μ[n]?=some b:=by grind
 have L:=uV R N b [];cases T with
 | ok p' =>
  obtain⟨p2,Y,Z⟩:=br E;subst Z;refine pU G j l (λe a d=>y0 t σ H s e a I d) I r ⟨H,⟨F.F,[]⟩,[],as,_,B,R.c.pure,J,L,y,C,λv F' M D b'=>?_⟩
  obtain⟨h,i⟩:=R.back (cK.refl _) D;exact u v M _ h i (Ka F.μ D Y b')
 | ex m c =>
  cases E;refine thn (pU (Q:=λ_ _=>False) G j l (λe a d=>u σ t H s e a I d) I r ⟨H,⟨F.F,[]⟩,[],as,_,B,R.c.pure,J,L,y,C,λcls F' M D hc=>?_⟩) (by rintro v s3 ⟨_,_,_,_,z⟩;exact z.elim)
  obtain⟨h,i⟩:=R.back (cK.refl _) D;exact⟨hc,_,h,i⟩
def UU{w:List PV->Gx PV}(G:OQ X f w)(i:Gl X x)(j:X.mg x=some (.ref f))(hk:W.keepIn X.K (.ref f)=true)(l:PA X (e::es) (tA X aa ab ts))(m:(x==("__debug__":Str))=false)
  (he:starEach (e::es) X.env=(false,eval e X.env)::starEach es X.env) (o:(backTo pos (starEach es X.env)).any (·.1)=false):PE X (.Call (.Name x p) (e::es) [] pos) (tE X aa ab (bnd ts w)):=by
 rintro q s σ H Q I ⟨F1,st,R,h⟩
 refine i8 (ld_glob I i j ?_ m);exact W.callWith_K I.ok.mod.kin hk (thn (l pos q s σ H (λb c=>∃F2 a as,Rep X.K aa ab F2 a σ c/\aB X.K F2 as b/\Tx X aa ab (bN X.K) F2 a (w as) σ Q) I
  ⟨F1,st,R,h.bnd λas b F2 a c R2 u b2 t=>⟨F2,a,as,R2,b2,t⟩⟩) (by rintro us s1 ⟨b,c,d,r,F2,a,as,R2,b2,z⟩;exact⟨d.qL,G _ _ _ _ _ _ _ _ _ _ _ _ d R2 b2 r z⟩)) he o
end
end L2.U
namespace L2
open PySem PySem.Spec PyProof.Rows
section
variable {X:Cx} {ae:List (Addr×Obj)} {σ:St} {H:Hp} {s:Shared} {a b:Addr} {k:List bz} {xs:List (List bz×Addr×Value)}
theorem gA{c d:Type}(f:c->d):∀(l:List c) (i:Nat),(l.eraseIdx i).map f=(l.map f).eraseIdx i
 | [],_=>rfl
 | _::_,0=>rfl
 | x::l,i+1=>cV (f x::·) (gA f l i)
def Y8(K:W.Frag):V->List V->Hp->VK->Prop:=λx c H Q=>∃a b xs k j p y,x=.ref a/\c=[.ref b]/\H a=some (.dT xs)/\eU K H xs/\gT K H b (k.map kV)/\xs[j]?=some (k,p)/\RelV y p.2/\Q y (cx H a (.dT (xs.eraseIdx j)))
def UW{c d:Type}{xs:List (c×d)}{i j:Nat}{k:c}{p q:d}(e:(xs.map (·.1)).Nodup)(h1:xs[i]?=some (k,p))(h2:xs[j]?=some (k,q)):i=j:=by
 refine(List.getElem?_inj (l:=xs.map (·.1)) ?_ e).mp ?_
 ·rw[aj];exact(bu.mp h1).1
 ·rw[bG,bG,h1,h2];rfl
def UX(hu:X.A.units+1150<cLine):WU X "dict.pop" (Y8 X.K):=by
 intro ae s σ H x vs v us Q I J L h;obtain⟨a,b,xs,k,j,p,y,rfl,rfl,e,hk,M,r,N,q⟩:=h;cases J;obtain⟨u1,rfl,R⟩:=L.one;cases R;obtain⟨z,hd,C⟩:=uK I (.inl e) hk;have D:=C.typeIs;obtain⟨o,t,ep,f,T,d,m,Y,u⟩:=C;have g:t[j]?=some (entryOfKey (tupleKind (b9 X.prog X.w)) (k,p)):=by rw[entry_at m,r];rfl
 have E:=key_is I M;have i:(tupleKind (b9 X.prog X.w)).room X.A.in1:=qk (by lia)
 refine iq PySem.F.slot_dict_pop D PySem.F.entry_dict_pop ?_ (PySem.F.args_dict_pop_2 _ _);unfold Builtin.«dict.pop» Builtin.Dict.keyAndDefault;refine af (af (Bx D ?_));show wpAny _ _ (pure (a,Value.ref b,none)) _ _ s;refine au ?_;simp only[show(keyPart (Value.ref b)).isSome=false from rfl,jM,fq]
 refine af (qp f d (af (au ?_)));have B:t.isEmpty=false:=by
  rw[Array.isEmpty_eq_false_iff]
  rintro rfl
  simp at g
 rw[B];simp only[jM,fq];refine af ?_;unfold Builtin.Dict.takeOut
 try with_reducible refine fM ?_
 refine af ((tupleKind (b9 X.prog X.w)).pyHash i E (af (wpAny_dictFind_heap (s:={s with toks:=s.toks+(tupleKind (b9 X.prog X.w)).draws k}) i E f d m Y u (λZ=>absurd r (Z j p)) λj' p' WY=>?_)))
 cases UW u r WY;refine af (qp (s:={s with toks:=s.toks+(tupleKind (b9 X.prog X.w)).draws k}) f d ?_)
 rw[g];refine af (wpAny_updateDictKeys (hz:=by rw[BS m];exact z) (s:={s with toks:=s.toks+(tupleKind (b9 X.prog X.w)).draws k}) f d (au ?_))
 simp only[Option.isNone_some,jM,fq];refine af (wpAny_letGo (au ⟨_,rfl,y,_,I.write (x:=a) (e:=a) (o:=.dT (xs.eraseIdx j)) (by rw[e];exact True.intro) (.inl rfl) (λc q' hc z=>((qi ..).2 c hc).trans z) ⟨_,qg _ f (Obj.isFreed_of_dict (BD d _))⟩ ⟨?_,hd,_,_,_,qg _ f (Obj.isFreed_of_dict (BD d _)),T.mapDictKeys _,BD d _,?_,?_⟩,N,q⟩))
 ·exact bK (List.length_eraseIdx_le ..) z
 ·rw[gA,<-m];obtain⟨l⟩:=t;simp
 ·rw[gA];exact u.sublist (List.eraseIdx_sublist ..)
end
end L2
namespace L2.U
open PySem PySem.Spec PyProof.Rows
def Kb:MG:=λc as=>match c.k,as with
 | .fu true ks,[a]=>(gM true a).bind λk=>(ks.findIdx? λx=>decide (x=k)).bind λj=>(c.ps[j]?).map λp=>(⟨.fu true (ks.eraseIdx j),c.ps.eraseIdx j⟩,p)
 | _,_=>none
section
variable {X:Cx}
def OR:zw X.K (Y8 X.K) Kb:=by
 intro aa H ab F st σ n c c' a as ws q Q R hc l m d w k;unfold Kb at d;split at d
 ·rename_i ks kp hk;obtain⟨kk,e1,x⟩:=aR d;obtain⟨j,B,C⟩:=aR x;obtain⟨p,D,E⟩:=br C;cases E;obtain⟨w1,rfl,I⟩:=dG w;obtain⟨J,rfl,L⟩:=jV e1 I;obtain⟨_,vs,o,f⟩:=R.c.cell n c a hc m l;rw[hk]at o;obtain⟨b,M,r,N,t⟩:=o;obtain⟨g,e,_⟩:=Bj.mp B;have e:=d9 e;subst N;rw[aj]at g;rw[List.getElem_map]at e;have T:b[j]?=some (kk,b[j].2):=by rw[bQ g,<-e]
  obtain⟨y,Y,h⟩:=f.get D;obtain⟨u,v,Z⟩:=t.get Y;rw[bG,bQ g]at v;cases v;refine⟨a,J,b,kk,j,b[j].2,y,rfl,rfl,M,λz i=>bt R.sub (r z i),bt R.sub L,T,Z,k y F _ (R.put (vs:=vs.eraseIdx j) hc l m ⟨b.eraseIdx j,aE,λz i=>r z (List.mem_of_mem_eraseIdx i),gA _ _ _,by rw[gA];exact t.eraseIdx j⟩ ?_) (Gr.refl _) ?_⟩
  ·show aB _ _ (c.ps.eraseIdx j) (vs.eraseIdx j);rw[Ij,Ij];exact(f.take _).append (f.drop _)
  ·exact h
 ·cases d
end
end L2.U
namespace L2
open PySem PySem.Spec PyProof.Rows
section
variable {X:Cx}
def Y9:V->List V->Hp->VK->Prop:=λx c H Q=>∃a b k y,x=.ref a/\c=[kV k,y]/\H a=some (.dK b)/\Q ((gW b k).getD y) H
def UY:WU X "dict.get" Y9:=by
 intro q s r H x t v u Q I d f h;obtain⟨a,b,k,y,rfl,rfl,e,g⟩:=h;cases d;obtain⟨B,i,rfl,j,l⟩:=f.two;obtain⟨z,hd,m,o,c⟩:=Jw I.hok e;refine call_meetsIn PySem.F.slot_dict_get c.typeIs PySem.F.entry_dict_get (PySem.F.args_dict_get_3 _ _ _) (meets_dict_get_default (b9 X.prog X.w) a (oI j) hd i) ⟨_,c.mapOf,(gW b k).getD y,H,I.tok _,?_,g⟩;have rk:=o.val k;cases p:gW b k<;>cases hw:valueAt m k<;>rw[p,hw]at rk
 ·exact l
 ·exact rk.elim
 ·exact rk.elim
 ·exact rk
end
end L2
namespace L2.U
open PySem PySem.Spec PyProof.Rows
def Kc(h:List ak)(p:PV)(as:List PV):Option PV:=(gX h p).bind λc=>match c.2.k,as with
 | .fu false ks,[a,y]=>(gM false a).bind λk=>if jC k ks=true then eH k ks c.2.ps else some y
 | _,_=>none
def OS(p:PV)(as:List PV):Gx PV:=hp λh=>Kc h p as
section
variable {X:Cx} {aa H:Hp} {ab F:Fz} {st:cz} {σ:St}
def Tx.get{Q:VK}(h:Tx X aa ab (bN X.K) F st (OS p as) σ Q)(R:Rep X.K aa ab F st σ H)(l:bN X.K F p v)(m:aB X.K F as ws):Y9 v ws H Q:=by
 obtain⟨x,o,q⟩:=h.hp;obtain⟨⟨n,c⟩,e1,e⟩:=aR o;obtain⟨rfl,hc,r⟩:=eY e1;obtain⟨a,t,rfl⟩:=c8.mp l;split at e
 ·rename_i ks I y hk;obtain⟨kk,e1,b⟩:=aR e;obtain⟨J,u,rfl,w,b2⟩:=jl m;obtain⟨j,rfl,rfl⟩:=iM e1 w;obtain⟨_,L,g,i⟩:=R.c.cell n c a hc t r;rw[hk]at g;obtain⟨d,B,C,D⟩:=g;rw[<-D]at i;rw[<-C]at b;refine⟨a,d,j,u,rfl,rfl,B,q _ _ F R (Gr.refl _) ?_⟩;cases f:gW d j with
  | none =>
   rw[if_neg (by rw[jW,f];simp)]at b
   cases b;exact b2
  | some v =>
   rw[if_pos (by rw[jW,f];rfl)]at b
   obtain⟨M,k,E⟩:=pN b i;rw[f]at k;cases k;exact E
 ·cases e
end
def Za(T:String):Kd->Bool
 | .lst=>T=="list"
 | .fu _ _=>T=="dict"
 | _=>false
def tyG(T:String)(p:PV):Gx Unit:=hp λh=>(cw h p).bind λq=>if Za T q.1=true then some ()else none
section
variable {X:Cx} {aa:Hp} {ab:Fz} {e o:Expr} {es:List Expr} {fo fe:Gx PV} {ts:Gx (List PV)} {pos qG kD:Pos} {T id:String} {name:Str} {r:V->List V->Hp->VK->Prop}
def Rep.tyV{K:W.Frag}{st:cz}(R:Rep K aa ab F st σ H)(e:cw st.h p=some (k,ps))(ht:Za T k=true)(b:bN K F p v):L2.tyV K T v H:=by
 obtain⟨a,g,rfl,d,i⟩:=R.at e b
 match k,ht,d with
 | .lst,ht,d=>exact .inl ⟨bc ht,g,kW.sq d⟩
 | .fu false ks,ht,⟨f,d,_⟩=>exact .inr (.inr (.inl ⟨bc ht,.inl ⟨f,d⟩⟩))
 | .fu true ks,ht,⟨xs,d,_⟩=>exact .inr (.inr (.inl ⟨bc ht,.inr ⟨xs,d⟩⟩))
def yv(T:String)(w:PV->List PV->Gx PV)(fo:Gx PV)(ts:Gx (List PV)):Gx PV:=bnd fo λp=>bnd (tyG T p) λ_=>bnd ts λas=>w p as
def WdT(X:Cx)(r:V->List V->Hp->VK->Prop)(w:PV->List PV->Gx PV):Prop:=∀(aa H:Hp) (ab F:Fz) (st:cz) (σ:St) (p:PV) (as:List PV) (v:V) (ws:List V) (Q:VK),Tx X aa ab (bN X.K) F st (w p as) σ Q->Rep X.K aa ab F st σ H->bN X.K F p v->aB X.K F as ws->r v ws H Q
def nY(hw:WdT X r w)(h:tE X aa ab (yv T w fo ts) σ H Q):tBM X.K T r (tE X aa ab fo) (tA X aa ab ts) σ H Q:=by
 obtain⟨F,c,R,h⟩:=h;refine⟨F,c,R,h.bnd λp v F1 d q a t b f=>?_⟩
 obtain⟨u,e,z⟩:=At.hp (At.bnd f);obtain⟨⟨k,x⟩,e1,g⟩:=aR e;obtain⟨hk,_⟩:=aM g;refine⟨a.tyV e1 hk b,F1,d,a,Tx.bnd z λas ws F2 i j R2 l b2 m=>hw aa j ab F2 i σ p as v ws Q m R2 (b.mono l) b2⟩
def OU(hw:WdT X r w)(h:tE X aa ab (yv T w fo (aW [])) σ H Q):X7 X.K T r (tE X aa ab fo) σ H Q:=by
 obtain⟨F,c,R,h⟩:=h;refine⟨F,c,R,h.bnd λp v F1 d f a j b g=>?_⟩
 obtain⟨u,e,z⟩:=At.hp (At.bnd g);obtain⟨⟨k,l⟩,e1,i⟩:=aR e;obtain⟨hk,_⟩:=aM i;exact⟨a.tyV e1 hk b,hw aa f ab F1 d σ p [] v [] Q (At.aW (At.bnd z)) a b .nil⟩
def rF(a:zw X.K r g):WdT X r (iO g):=λ_ _ _ _ _ _ _ _ _ _ _ h R b c=>Tx.mut a h R b c
def UZ:WdT X (UD X.K) zx:=λ_ _ _ _ _ _ _ _ _ _ _ h R a b=>Tx.ext h R a b
def EB(m:Str):Option (String×(PV->List PV->Gx PV)) :=
 if m==("append":Str)then some ("list",iO (gU wO))
 else if m==("extend":Str)then some ("list",zx)
 else if m==("insert":Str)then some ("list",iO (gU JN))
 else if m==("setdefault":Str)then some ("dict",iO zy)
 else if m==("pop":Str)then some ("dict",iO Kb)
 else if m==("get":Str)then some ("dict",OS)
 else none
def CN(m:Str):Option (String×(PV->List PV->Gx PV)) :=
 if m==("reverse":Str)then some ("list",iO (gU Oz))
 else if m==("pop":Str)then none
 else if m==("clear":Str)then none
 else none
def ads(j:X.A.units+1150<cLine)(ht:EB name=some (T,w))(ho:PE X o (tE X aa ab fo))(b:PA X (e::es) (tA X aa ab ts))(c:attributeBase o name X.env (eval o X.env)=eval o X.env)
  (d:((backTo kD (starEach (e::es) X.env)).all (λx=>!x.1)&&(backToKw kD (keywordEach [] X.env)).all (λx=>x.1.isSome)&&decide ((e::es).length+([]:List Keyword).length+(if([]:List Keyword).isEmpty then 0 else 1)<30))=true)
  (f:(qG.endLine==kD.line)=true) (g:starEach (e::es) X.env=(false,eval e X.env)::starEach es X.env) (i:(backTo kD (starEach es X.env)).any (·.1)=false):PE X (.Call (.Attribute o name qG) (e::es) [] kD) (tE X aa ab (yv T w fo ts)):=by
 unfold EB at ht;split at ht
 ·rename_i a;cases ht;have a:=bc a;subst a;exact(uG vE PySem.F.slot_list_append PySem.F.type_list_append Gf ho b c d f g i).imp λ_ _ _ h=>nY (rF Oy) h
 ·split at ht
  ·rename_i a;cases ht;have a:=bc a;subst a;exact(uG vE PySem.F.slot_list_extend PySem.F.type_list_extend UE ho b c d f g i).imp λ_ _ _ h=>nY UZ h
  ·split at ht
   ·rename_i a;cases ht;have a:=bc a;subst a;exact(uG vE PySem.F.slot_list_insert PySem.F.type_list_insert GD ho b c d f g i).imp λ_ _ _ h=>nY (rF OB) h
   ·split at ht
    ·rename_i a;cases ht;have a:=bc a;subst a;exact(uG Bq Im PySem.F.type_dict_setdefault UB ho b c d f g i).imp λ_ _ _ h=>nY (rF OC) h
    ·split at ht
     ·rename_i a;cases ht;have a:=bc a;subst a;exact(uG Bq PySem.F.slot_dict_pop PySem.F.type_dict_pop (UX j) ho b c d f g i).imp λ_ _ _ h=>nY (rF OR) h
     ·split at ht
      ·rename_i a;cases ht;have a:=bc a;subst a;exact(uG Bq PySem.F.slot_dict_get PySem.F.type_dict_get UY ho b c d f g i).imp λ_ _ _ h=>nY (λ_ _ _ _ _ _ _ _ _ _ _ h R k l=>Tx.get h R k l) h
      ·cases ht
def Zb(ht:CN name=some (T,w))(ho:PE X o (tE X aa ab fo))(b:attributeBase o name X.env (eval o X.env)=eval o X.env)(c:(qG.endLine==kD.line)=true) :
  PE X (.Call (.Attribute o name qG) [] [] kD) (tE X aa ab (yv T w fo (aW []))):=by
 unfold CN at ht;split at ht
 ·rename_i a;cases ht;have a:=bc a;subst a;exact(Jq vE PySem.F.slot_list_reverse PySem.F.type_list_reverse Cr ho b c).imp λ_ _ _ h=>OU (rF OA) h
 ·grind
def CP(f b d:PV):cz->Option cz:=λa=>(gX a.h f).bind λc=>match c.2.k with
 | .lst=>(kJ b).bind λi=>(NW c.2.ps.length i).map λj=>⟨a.ρ,a.h.set c.1 ⟨.lst,c.2.ps.set j d⟩⟩
 | .fu t ks=>(gM t b).bind λk=>if ks.length<fD then some ⟨a.ρ,a.h.set c.1 (mr t k d ks c.2.ps)⟩else none
 | _=>none
def adt(K:W.Frag):IV:=λo i v H Q=>∃aa ab F a b c d f g,CP c d f a=some g/\Rep K aa ab F a b H/\bN K F c o/\bN K F d i/\bN K F f v/\∀h j,Rep K aa ab j g b h->Gr F j->Q h
def Zc(hu:X.A.units+1150<cLine):IW X (adt X.K):=by
 rintro w s σ H o i v x y u Q I B C D ⟨aa,ab,F,st,τ,po,pi,pv,cD,e,R,bo,bi,bv,k⟩
 obtain⟨⟨n,c⟩,e1,N⟩:=aR e;clear e;have e:=N;clear N;obtain⟨rfl,hc,h⟩:=eY e1;obtain⟨a,l,rfl⟩:=c8.mp bo;obtain⟨_,vs,d,f⟩:=R.c.cell n c a hc l h;split at e
 ·rename_i hk;obtain⟨j,p,e⟩:=aR e;obtain⟨m,e3,rfl⟩:=br e;rw[fO p]at bi;have hk:=hk;rw[hk]at d;refine Jo w s σ H _ _ v x y u Q I B C D ⟨a,vs,j,m,rfl,aH.mp bi,d,by rw[<-f.length];exact e3,k _ F (R.put hc h l aE (f.set bv m)) (Gr.refl _)⟩
 ·rename_i t ks hk;have hk:=hk;obtain⟨kk,p,e⟩:=aR e;obtain⟨Y,rfl⟩:=aM e;rw[hk]at d;cases t with
  | false =>
   obtain⟨b,E,q,J⟩:=d;obtain⟨j,rfl,rfl⟩:=iM p bi;rw[<-J]at f;obtain⟨tY,jj,g,L,M⟩:=JL (j:=j) bv f;have dM:b.length<sizeLine:=by
    have:ks.length=b.length:=by grind
    exact b6 (by grind) (fx (aA _))
   rw[q]at g;refine UG w s σ H _ _ v x y u Q I B C D ⟨a,b,j,rfl,rfl,E,dM,k _ F ?_ (Gr.refl _)⟩;simp only[g];exact R.put hc h l ⟨_,aE,L,rfl⟩ M
  | true =>
   obtain⟨Z,E,q,J,g4⟩:=d;obtain⟨cc,rfl,WQ⟩:=jV p bi;refine UH (by lia) w s σ H _ _ v x y u Q I B C D ⟨a,cc,Z,kk,rfl,rfl,E,λz Y=>bt R.sub (q z Y),bt R.sub WQ,(by
    have:ks.length=Z.length:=by grind
    exact b6 (by grind) (fx (aA _))),λr hr=>?_⟩
   obtain⟨tY,jj,wD,g,L,M,p4,p5⟩:=Uy bv hr WQ q f g4;rw[J]at g;refine k _ F ?_ (Gr.refl _);simp only[g];exact R.put hc h l ⟨_,aE,M,L,p5⟩ p4
 ·cases e
def OX(a fo b:Gx PV):Gx dE:=bnd a λv=>bnd fo λo=>bnd b λi=>stp (CP o i v)
def Zd(f:X.A.units+1150<cLine)(he:PE X e (tE X aa ab g))(ho:PE X o (tE X aa ab fo))(j:PE X k (tE X aa ab l))
  (m:∀v,assign (.Subscript o k a) X.env v=(do
   let b <-holding [v] (eval o X.env)
   let c <-holding [v,b] (eval k X.env)
   standAt a
   holding [v,b,c] (setItem b c v)
   release [v,b,c] []))
  (p:swapsWithSole [.Subscript o k a] e pos.line X.env=pure false) (hw:swappedStores [.Subscript o k a] e X.env=pure none):PS X (.Assign [.Subscript o k a] e pos) (tS X aa ab (OX g fo l)) :=
 (IY he (Tj ho j (Zc f) m) p hw rfl).imp λD σ H ⟨F,st,R,h⟩=>⟨F,st,R,h.bnd λq v F1 t H1 u g1 w x=>⟨F1,t,u,x.bnd λy o F2 B H2 R2 C b2 E=>⟨F2,B,R2,E.bnd λI i J L H3 M d N Q=>by
  obtain⟨Y,e,z⟩:=Q.stp;exact⟨aa,ab,J,L,σ,y,I,q,Y,e,M,b2.mono d,N,w.mono (C.trans d),λZ F' R' g'=>z F' σ Z R' g'⟩⟩⟩⟩
def Ke(t:Bool):Gx PV:=kG ⟨.fu t [],[]⟩
def Ze(t:Bool):PE X (.Dict [] [] pos) (tE X aa ab (Ke t)):=by
 cases t with
 | false=>exact JM.imp (by rintro σ H Q ⟨F,st,R,h⟩ p hp;exact Tx.kG h R hp ⟨[],aE,rfl,rfl⟩ .nil)
 | true=>exact N3.imp (by rintro σ H Q ⟨F,st,R,h⟩ p hp;exact Tx.kG h R hp ⟨[],aE,(λ_ z=>nomatch z),rfl,.nil⟩ .nil)
end
def EC(K:W.Frag)(b:Str->Option Value)(P:Params)(T:Str)(rows:List (Str×Str)):Prop :=
 ∃a c n,b T=some (.ref a)/\K.lookup a=some ⟨.type "dict",none,.dict c n,#[]⟩/\W.KeysLit P c.toList/\∀k fn,rows.lookup k=some fn->∃f,W.nsIn K a k=some (some (.ref f))/\b fn=some (.ref f)/\W.nsIn K mainGlobals fn=some (some (.ref f))
def adu(K:W.Frag)(a:Addr):R2:=λx y H Q=>∃k u v,x=.ref a/\y=.str k/\W.nsIn K a k=some (some u)/\RelV v u/\Q v H
def U0:PV->Option Str | .str x=>some x | _=>none
def GQ(h:U0 p=some i):p=.str i:=by
 cases p<;>first | (cases h;rfl) | cases h
section
variable {X:Cx} {aa:Hp} {ab:Fz} {e ke:Expr} {es:List Expr} {fk fe ff:Gx PV} {ts:Gx (List PV)} {pos p sp:Pos} {T:Str}
def U1{es:Array DictEntry}(b:X.K.lookup a=some ⟨.type "dict",none,.dict es n,#[]⟩)(hk:W.KeysLit X.w.params es.toList):WT X (adu X.K a):=by
 rintro value slice l s σ H x y v u Q I d f ⟨k,m,g,ex,h,e,i,q⟩ j
 subst ex h;cases d;obtain⟨t,rfl⟩:=f;have c:=W.mapOf_K (prog:=X.prog) I.qL b hk;exact tail_any c.typeIs slot_dict_getitem.lookup (wpAny_getItem_of (strKind_is X.prog X.w k t) c (W.find_K b e) ⟨g,H,I.tok _,i,q⟩) j
def Kf(NG:Str->Option PV)(fk:Gx PV):Gx PV:=bnd fk λq=>jS ((U0 q).bind NG)
def Zf(ht:EC X.K X.mg X.w.params T rows)(c:Gl X T)(hk:PE X ke (tE X aa ab fk))(d:pK ke)(g:(T==("__debug__":Str))=false):PE X (.Subscript (.Name T p) ke sp) (tE X aa ab (Kf (λk=>(rows.lookup k).map .fn) fk)):=by
 obtain⟨a,i,n,j,l,m,o⟩:=ht;refine(Ra (U1 l m) (D2 (v:=.ref a) c j rfl g) hk d).imp λσ H Q ⟨F,st,R,h⟩=>?_
 refine⟨F,st,R,h.bnd λpk v F1 E r t I b u=>?_⟩
 obtain⟨q,e1,z⟩:=u.jS;obtain⟨k,x,y⟩:=aR e1;obtain⟨fn,B,rfl⟩:=br y;rw[GQ x]at b;obtain⟨f,C,J,D⟩:=o k fn B;exact⟨k,.ref f,.ref f,rfl,cL.mp b,C,rfl,z _ r F1 t (Gr.refl _) (qW.mpr ⟨f,rfl,D⟩)⟩
def RD(X:Cx)(a:List (Str×Nat))(call:Str->nU):Prop:=∀x n,a.lookup x=some n->∃k f b c,FnOk X.prog X.w X.K X.mg X.base (iH X.prog X.w) k f b c (GO X.K n (call x))/\dH k X.A/\X.mg x=some (.ref f)/\W.keepIn X.K (.ref f)=true/\gp X.K b c []
def fnP:PV->Option Str | .fn x=>some x | _=>none
def Kg{p:PV}(h:fnP p=some i):p=.fn i:=by
 cases p<;>first | (cases h;rfl) | cases h
def zM(a:List (Str×Nat))(call:Str->nU)(ff:Gx PV)(ts:Gx (List PV)):Gx PV:=bnd ff λq=>bnd (jS ((fnP q).bind λx=>(a.lookup x).map λn=>(x,n))) λx=>RC x.2 (call x.1) ts
def wU(v k:Expr)(sp:Pos)(args:List Expr)(pos:Pos)(a:Env):eval (.Call (.Subscript v k sp) args [] pos) a=(do callWith pos (<-eval (.Subscript v k sp) a) [] (backTo pos (starEach args a)) (backToKw pos (keywordEach [] a))):=rfl
def OY{call:Str->nU}(B:RD X fns call)(C:∀x a,W.nsIn X.K mainGlobals x=some (some (.ref a))->X.mg x=some (.ref a))(D:PE X (.Subscript v k sp) (tE X aa ab ff))(E:PA X (e::es) (tA X aa ab ts))
  (he:starEach (e::es) X.env=(false,eval e X.env)::starEach es X.env) (J:(backTo pos (starEach es X.env)).any (·.1)=false):PE X (.Call (.Subscript v k sp) (e::es) [] pos) (tE X aa ab (zM fns call ff ts)):=by
 rintro o s σ H Q I ⟨F,st,R,h⟩
 rw[wU];refine af (thn (D o s σ H (λv d=>∃F1 b q,Rep X.K aa ab F1 b σ d/\bN X.K F1 q v/\Tx X aa ab (bN X.K) F1 b (bnd (jS ((fnP q).bind λx=>(fns.lookup x).map λn=>(x,n))) λx=>RC x.2 (call x.1) ts) σ Q) I
  ⟨F,st,R,h.bnd λq v F1 b d g g1 f i=>⟨F1,b,q,g,f,i⟩⟩) λu s1 ⟨x,d,L,M,F1,b,q,g,f,i⟩=>?_)
 obtain⟨⟨y,n⟩,e1,z⟩:=At.jS (At.bnd i);obtain⟨y',N,Y⟩:=aR e1;obtain⟨n',Z,t⟩:=br Y;simp only[nA]at t;obtain⟨rfl,rfl⟩:=t;rw[Kg N]at f;obtain⟨a,rfl,Oi⟩:=qW.mp f;obtain⟨j,f',fd,ps,G,hr,m1,m2,m3⟩:=B _ _ Z;have:=cj ((C _ a Oi).symm.trans m1);cases this;cases M;exact W.callWith_K I.ok.mod.kin m2 (thn (E pos o s1 σ d (λl m=>∃F2 c as,Rep X.K aa ab F2 c σ m/\aB X.K F2 as l/\Tx X aa ab (bN X.K) F2 c (nW _ _ as) σ Q) L
  ⟨F1,b,g,Tx.bnd z λas l F2 c m R2 g2 b2 h2=>⟨F2,c,as,R2,b2,h2⟩⟩) (by rintro us s2 ⟨l,m,w,r,F2,c,as,R2,b2,z⟩;exact⟨w.qL,Y7 G hr m3 _ _ _ _ _ _ _ _ _ _ _ _ w R2 b2 r z⟩)) he J
noncomputable def ED(f:Str):List Str->List PV->Option PV
 | g::ns,p::a=>if g=f then some p else ED f ns a
 | _,_=>none
def U2(f:Str)(fe:Gx PV):Gx PV:=bnd fe λp=>hp λh=>match cw h p with
 | some (.oA _ ns,a)=>ED f ns a
 | _=>none
theorem zN{K:W.Frag}:∀{fs:List (Str×V)} {ps:List PV} {p:PV},ED f (fs.map (·.1)) ps=some p->aB K F ps (fs.map (·.2))->f∈fs.map (·.1)/\∃v,fs.lookup f=some v/\bN K F p v
 | [],_,_,h,_=>by cases h
 | (g,v)::r,[],_,h,_=>by cases h
 | (g,v)::r,q::ps,p,h,b=>by
  obtain⟨k,w,e,l,b2⟩:=b.cy;cases e;have h:(if g=f then some q else ED f (r.map (·.1)) ps)=some p:=h
  by_cases a:g=f
  ·grind
  ·rw[if_neg a]at h;obtain⟨c,d,m,i⟩:=zN h b2;have j:(f==g)=false:=by grind
   exact⟨aG _ c,d,by grind,i⟩
def Zg(he:PE X e (tE X aa ab fe))(c:attributeBase e f X.env (eval e X.env)=eval e X.env):PE X (.Attribute e f pos) (tE X aa ab (U2 f fe)):=(TR he c).imp λσ H Q ⟨F,st,R,h⟩=>⟨F,st,R,h.bnd λq v F1 E d b I g i=>by
 obtain⟨o,e,z⟩:=i.hp;split at e
 ·rename_i C J L hd;obtain⟨a,M,rfl,⟨j,k,fs,N,l,m,r,t,u⟩,x⟩:=b.at hd g;subst t u;obtain⟨y,w,B,D⟩:=zN e x;exact⟨a,j,k,fs,w,rfl,r,l,m f y,B,z _ d F1 b (Gr.refl _) D⟩
 ·cases e⟩
noncomputable def pw(f:Str)(q:PV):List Str->List PV->List Str×List PV
 | g::ns,p::a=>if g=f then(g::ns,q::a)else(g::(pw f q ns a).1,p::(pw f q ns a).2)
 | _,_=>([f],[q])
theorem EE{K:W.Frag}(d:bN K F q v):∀{fs:List (Str×V)} {ps:List PV},aB K F ps (fs.map (·.2))->(iE f v fs).map (·.1)=(pw f q (fs.map (·.1)) ps).1/\aB K F (pw f q (fs.map (·.1)) ps).2 ((iE f v fs).map (·.2))/\∀g∈(pw f q (fs.map (·.1)) ps).1,g=f\/g∈fs.map (·.1)
 | [],ps,b=>by
  have e:=nq b.length;subst e;exact⟨rfl,.cons d .nil,λg a=>.inl (by simpa[pw]using a)⟩
 | (g,w)::r,[],b=>by have:=b.length;simp at this
 | (g,w)::r,p::ps,b=>by
  obtain⟨l,m,e,i,b2⟩:=b.cy;cases e;obtain⟨j,k,o⟩:=EE d b2;by_cases a:g=f
  ·subst a;have e1:iE g v ((g,w)::r)=(g,v)::r:=if_pos rfl;have h:pw g q (((g,w)::r).map (·.1)) (p::ps)=(g::r.map (·.1),q::ps):=if_pos rfl;rw[e1,h];exact⟨rfl,.cons d b2,λy c=>.inr c⟩
  ·have e1:iE f v ((g,w)::r)=(g,w)::iE f v r:=if_neg a;have h:pw f q (((g,w)::r).map (·.1)) (p::ps)=(g::(pw f q (r.map (·.1)) ps).1,p::(pw f q (r.map (·.1)) ps).2):=if_neg a;rw[e1,h];refine⟨by rw[aI,j],.cons i k,λy c=>?_⟩
   rcases aF.mp c with rfl | c
   ·grind
   ·grind
def Kh(K:W.Frag)(b:List Str)(a:List Str):Prop:=∀C,b.contains C=true->∃c,ClsAt K C (.ref c)/\FQ K c/\∀f,a.contains f=true->jd K c f
def adw(b a:List Str)(f:Str)(i g:PV):cz->Option cz:=λd=>(gX d.h i).bind λc=>match c.2.k with
 | .oA C ns=>if(b.contains C&&a.contains f&&decide (ns.length<900))=true then some ⟨d.ρ,d.h.set c.1 ⟨.oA C (pw f g ns c.2.ps).1,(pw f g ns c.2.ps).2⟩⟩else none
 | _=>none
def U3(b a:List Str)(f:Str)(c d:Gx PV):Gx dE:=bnd c λv=>bnd d λo=>stp (adw b a f o v)
def Zh{d b:List Str}(hc:Kh X.K d b)(ho:PE X o (tE X aa ab B))(he:PE X e (tE X aa ab E))(I:swapsWith e (some (.Attribute o f J)) pos.line X.env=pure false):PS X (.Assign [.Attribute o f J] e pos) (tS X aa ab (U3 d b f E B)) :=
 (TU ho he I).imp λD σ H ⟨F,st,R,h⟩=>⟨F,st,R,h.bnd λpv v F1 L H1 M g1 N Q=>⟨F1,L,M,Q.bnd λpo o F2 eX H2 R2 Y b2 Z=>by
  obtain⟨cD,e,z⟩:=Z.stp;obtain⟨⟨n,c⟩,e1,m⟩:=aR e;clear e;have e:=m;clear m;obtain⟨rfl,q,r⟩:=eY e1;obtain⟨a,t,rfl⟩:=c8.mp b2;obtain⟨_,vs,i,g3⟩:=R2.c.cell n c a q t r;split at e
  ·rename_i C ns hk;have hk:=hk;obtain⟨j,rfl⟩:=aM e;rw[aO,aO]at j;rw[hk]at i;obtain⟨k,u,fs,w,x,k3,k4,rfl,rfl⟩:=i;obtain⟨Cb,m1,m2,y⟩:=hc C j.1.1;have eC:k=Cb:=by
    have:=w.symm.trans m1;cases this;rfl
   subst eC;have dM:=d9 j.2;rw[aj]at dM;obtain⟨p1,p2,p3⟩:=EE (N.mono Y) g3;refine⟨a,k,u,fs,rfl,k4,x,y f j.1.2,(Nat.le_add_left_of_le ‹_›),z F2 σ _ (R2.put q r t ⟨k,u,_,w,x,λg l=>?_,aE,p1,rfl⟩ p2) (Gr.refl _)⟩
   rcases p3 g l with rfl | l
   ·exact y _ j.1.2
   ·exact k3 g l
  ·cases e⟩⟩
def adx(st:cz):Rs PV×List ak->Option (Rs PV×cz)
 | (.ok .bj,h)=>(oJ h 4 (.ref 0)).map λq=>(.ok q,st)
 | _=>none
def mkP(C:Str)(n:Nat)(g:nU)(ts:Gx (List PV)):Gx PV:=bnd ts λas a=>if as.length+1=n/\(a.h.isEmpty || ai as)=true then(g (.ref 0::as) [⟨.oA C [],[]⟩]).bind (adx a)else none
section
variable {C:Str} {Ca f:Addr} {fd:FuncData} {ps:List Str} {g:nU} {k n:Nat}
def OZ(M:ClsAt X.K C (.ref Ca))(c:FQ X.K Ca)(h:tE X aa ab (mkP C n g ts) σ H Q):QY Ca (GO X.K n g) [] E0 (tA X aa ab ts) σ H Q:=by
 obtain⟨F,N,R,h⟩:=h;refine⟨F,N,R,h.bnd λas Y F1 bf l t g1 Z h1 y j E u w=>?_⟩
 obtain⟨q,e1,x⟩:=h1;obtain⟨⟨hl,hn⟩,e1⟩:=bP e1;obtain⟨r,I,B⟩:=aR e1;have i:cx l j (.own y) y=none:=by rw[aK w.symm];exact E
 have J:cK l (cx l j (.own y)):=eF u;have b2:aB X.K ⟨F1.F,[y]⟩ (.ref 0::as) (.ref y::Y):=.cons (c8.mpr ⟨y,rfl,rfl⟩) (uV t hn Z [y]);have C0:kq X.K (cx l j (.own y)) ⟨F1.F,[y]⟩ ⟨F1.F,[y]⟩ [⟨.oA C [],[]⟩] (cx (cx l j (.own y)) y (.oA Ca j [])):=by
  refine⟨λb o e=>eF i _ _ (J _ _ (t.sub _ _ e)),eF i,Gr.refl _,λa o e=>.inl e,λm a e=>?_,rfl,by simp,λm d a e1 x I=>?_⟩
  ·cases m with
   | zero=>cases e;exact⟨i,_,aE⟩
   | succ m=>simp at e
  ·cases m with
   | zero=>cases e1;cases x;exact⟨t.sub.free E,[],⟨Ca,j,[],M,c,(λ_ z=>nomatch z),aE,rfl,rfl⟩,.nil⟩
   | succ m=>simp at e1
 match r,B with
 | (.ok .bj,h'),B =>
  obtain⟨p,e5,rfl⟩:=br B;refine⟨_,_,_,.ref 0::as,_,h',C0,λb o e=>?_,by grind,by grind,I,λv F' H' D b'=>⟨dn.mp b',?_⟩⟩
  ·by_cases L:b=y
   ·subst L;exact .inr ⟨0,rfl⟩
   ·rw[aK L]at e;exact .inl e
  ·obtain⟨R3,g3⟩:=t.back J D;exact x _ H' _ R3 g3 (D.oJ F1.μ _ _ _ _ e5 (c8.mpr ⟨y,D.base.m 0 y rfl,rfl⟩))
end
end
def Zi(X:Cx)(a:Hp)(b:Fz)(d:Addr)(ω:PV->Gx PV):Prop:=∀(H:Hp) (F:Fz) (st:cz) (σ:St) (c:List (Addr×Obj)) (s:Shared) (Q:VK) (p:PV) (u:Value) (v:V),Inv X c σ H s->Rep X.K a b F st σ H->bN X.K F p v->RelV v u->Tx X a b (bN X.K) F st (ω p) σ Q ->
 wpAny (model X.prog X.w) X.A (call (.ref d) [u]) (EP X c σ Q) X.xe s
structure zO (X:Cx) (aa:Hp) (ab:Fz) (n:Nat) (ω:PV->Gx PV):Prop where
 ex:∃fa o u Zj,ab.μ[n]?=some fa/\X.aa fa=some (.oC o u)/\o.data=.func Zj/\Zi X aa ab fa ω
def Zk(n:Nat):PV->Option Unit
 | .ref m=>if m=n then some ()else none
 | _=>none
def Ki(i n:Nat)(ω:PV->Gx PV)(fe:Gx PV):Gx PV:=bnd (rd i) λq=>bnd (jS (Zk n q)) λ_=>bnd fe ω
section
variable {X:Cx} {aa:Hp} {ab:Fz} {e:Expr} {fe:Gx PV} {pos p:Pos} {i n:Nat} {ω:PV->Gx PV} {y:Str}
def Zl(L:zO X aa ab n ω)(hy:PE X (.Name y p) (Nh i))(B:PE X e (tE X aa ab fe))(he:starEach [e] X.env=(false,eval e X.env)::starEach [] X.env):PE X (.Call (.Name y p) [e] [] pos) (tE X aa ab (Ki i n ω fe)):=by
 rintro g s σ H Q I ⟨F,st,R,h⟩
 obtain⟨b,o,u,Zj,hm,C,D,L⟩:=L;refine i8 (thn (Rj i hy g s σ H (λv j=>v=.ref b/\∃F1 d,Rep X.K aa ab F1 d σ j/\Tx X aa ab (bN X.K) F1 d (bnd fe ω) σ Q) I ⟨F,st,R,h.bnd λq v F1 d j l g1 b1 E=>?_⟩) λv Y M=>?_)
 ·obtain⟨_,e1,z⟩:=At.jS (At.bnd E);cases q with
  | ref m =>
   obtain⟨rfl,_⟩:=aM e1;obtain⟨a,B,rfl⟩:=c8.mp b1;have:=l.c.base.m _ _ hm;rw[B]at this;cases this;exact⟨rfl,F1,d,l,z⟩
  | _=>cases e1
 ·obtain⟨z,j,I1,rx,rfl,F1,d,l,E⟩:=M;cases rx;have hP:∀{Z:St} {H':Hp} {N:Shared},Inv X g Z H' N->N.heap.get? b=some o:=λ{Z H' N} J=>(J.hok b _ (J.base.frzs b o u C)).1
  have hk:∀h:Heap,h.get? b=some o->∃k,(k=Keeper.frame\/k=Keeper.machine\/k=Keeper.boundFrame)/\W.Looks (model X.prog X.w) h (keeperOf (.ref b)) k:=λh ho=>by
   obtain⟨c1,c2,c3,c4⟩:=o;cases D;exact⟨.frame,.inl rfl,(W.Looks.ld ho).andThen .now⟩
  have RE:wpAny (model X.prog X.w) X.A (spliced (backTo pos (starEach [e] X.env))) (λus t=>t.heap.get? b=some o/\wpAny (model X.prog X.w) X.A (call (.ref b) ([]++us)) (EP X g σ Q) X.xe t) X.xe Y :=
   thn ((ji B qQ he) pos g Y σ j (λvs x=>∃v F2 f p,vs=[v]/\Rep X.K aa ab F2 f σ x/\bN X.K F2 p v/\Tx X aa ab (bN X.K) F2 f (ω p) σ Q) I1 ⟨F1,d,l,E.bnd λp v F2 f x R2 g2 b2 T=>⟨v,F2,f,p,rfl,R2,b2,T⟩⟩)
    λus t M=>by
     obtain⟨vs,x,I2,r,v,F2,f,p,rfl,R2,b2,T⟩:=M;obtain⟨u2,rfl,ru⟩:=jx r;exact⟨hP I2,L x F2 f σ g t Q p u2 v I2 R2 b2 ru T⟩
  rw[he]at RE ⊢;exact W.callWith_of rfl hk (PySem.Calls.evalArgs_plain RE)
end
noncomputable def adA(ρ:List (Option PV)):Rs PV×cz->Option (Rs PV×cz)
 | (.ok p,st)=>some (.ok p,⟨ρ,st.h⟩)
 | _=>none
def O0(fb:Gx PV)(b:List (Option PV)):PV->Gx PV:=λp a=>(fb ⟨some p::b,a.h⟩).bind (adA a.ρ)
def U4(g:X.ex=[])(hL:Jx X.aa a qual j body scope cl)(hC:lJ X.s₀.heap X.aa scope cl N J)(hF:Lc X.K rG m J)(B:Gr rG D)(M:dH (k+1) X.A)
  (hb:∀(T d Y u:Value),bindArgs (W.kla_fn "<lambda>" qual j body scope cl T d Y) ⟨[u],[]⟩=pure [(x,u)]) (hk:scope.kind=.function) (T6:scope.isCoroutine=false) (T7:scope.isGenerator=false) (hx:scope.names.lookup x=some .local) (nc:∀y∈scope.names,y.2≠.cell)
  (hbody:∀(d:Value) (s:Shared) (H Z:Hp) (D:Fz),dH k (X.A.deeper (W.envX qual scope s.heap.objs.size a d cl))->PE (Rf (iH X.prog X.w) X.prog X.w X.K X.mg X.base (x::N) qual scope a d cl X.A X.stack s H E0) body (tE (Rf (iH X.prog X.w) X.prog X.w X.K X.mg X.base (x::N) qual scope a d cl X.A X.stack s H E0) Z D fb)):Zi X Z D a (O0 fb m):=by
 rintro H F st σ ae s Q p u v I R b ru ⟨q,e1,e2⟩
 obtain⟨r,e3,E⟩:=aR e1;obtain⟨o,u',T,d,Y,c,oc,uc,vs,t,k1,k2,rfl,k3,k4,k5⟩:=hL;have g1:=(I.hok a _ (I.base.frzs a o u' k1)).1;have g2:=(I.hok c _ (I.base.frzs c oc uc k3)).1;have C:=hC.un (by have:=I.base;rw[g]at this;exact this)
 match r,E with
 | (.ok p',cD),E =>
  cases E;have L:Lc X.K F (some p::m) (some v::J):=⟨λi y e=>by
   cases i with
   | zero=>cases e;exact⟨v,rfl,b⟩
   | succ i =>
    obtain⟨z,h1,h2⟩:=hF.av i y (by grind)
    exact⟨z,by grind,h2.mono (B.trans R.c.base)⟩,by simp[hF.len]⟩
  obtain⟨C0,_⟩:=R.c.enter;refine wpAny_call (nF (N5 g1 k2 ⟨c,oc,vs,t,rfl,g2,k4,k5⟩ M I.NL (hb _ _ _ _) ru hk T6 T7 hx nc C ⟨_,hbody (.ref c) s H _ F (M.deeper _),F,⟨some p::m,st.h⟩,⟨C0,L⟩,_,e3,λv' H' F' R' g' b'=>e2 v' H' F' ⟨R.c.leave R'.c,R.l.mono g'⟩ g' b'⟩) λr s' f=>?_)
  cases r with
  | error e=>exact y0 ae σ H s e s' I f
  | ok fl =>
   cases fl with
   | ret u=>exact I.after f
   | next=>exact False.elim f
   | brk=>exact False.elim f
   | cont=>exact False.elim f
structure rH (X:Cx) (x:Str) (N:List Str) (link:List (Option Nat)) (scope:Scope):Prop where
 kind:scope.kind=.function
 co:scope.isCoroutine=false
 gen:scope.isGenerator=false
 par:scope.names.lookup x=some .local
 cell:∀y∈scope.names,y.2≠.cell
 free:∀y∈scope.names,y.2=.free->(X.env.kindOf y.1=some .cell\/X.env.kindOf y.1=some .free)
 len:link.length=N.length
 link:∀(i j:Nat) (y:Str),link[i]?=some (some j)->N[i]?=some y->X.N[j]?=some y/\scope.names.lookup y=some .free
def O1(I:Inv X M σ H s)(S:rH X x N link scope):lJ s.heap H scope (jX X.env scope.names []) N (gr link σ) where
 inj:=λy z c e a=>I.ok.inj y z c (cg e) (cg a)
 has:=λy B=>by
  have b:=d8 B;obtain⟨c,hc⟩:=I.ok.has y (S.free _ b rfl);obtain⟨f,g⟩:=jY scope.names [] b ⟨c,hc⟩;cases z:(jX X.env scope.names []).lookup y with
  | some p=>exact⟨p,rfl⟩
  | none=>exact absurd g (by intro k;have:=List.lookup_eq_none_iff.mp z (y,f) k;simp at this)
 cell:=λy c h=>I.cell y c (cg h)
 free:=λy c h=>I.freeC y c (cg h)
 val:=λi y v e a=>by
  unfold L2.U.gr at a;rw[bG]at a;cases z:link[i]? with
  | none=>rw[z]at a;cases a
  | some o =>
   rw[z]at a;cases o with
   | none=>cases a
   | some j =>
    have a:(σ[j]?).join=some v:=cj a;obtain⟨C,r⟩:=S.link i j y z e;have b:=d8 r;obtain⟨m,_,D⟩:=I.loc;have d:=S.free _ b rfl;obtain⟨u,E,J⟩:=D j y v C (by
     cases w:σ[j]? with
     | none=>rw[w]at a;cases a
     | some q=>rw[w]at a;exact cV some a) (by
     rcases d with q | q
     ·exact .inr (.inl q)
     ·exact .inr (.inr q))
    rcases J with⟨q,_⟩ | ⟨_,c,hc,L⟩
    ·rcases d with l | l<;>rw[q]at l<;>cases l
    ·obtain⟨f,g⟩:=jY scope.names [] b ⟨c,hc⟩;cases t:(jX X.env scope.names []).lookup y with
     | none=>exact absurd g (by intro k;have:=List.lookup_eq_none_iff.mp t (y,f) k;simp at this)
     | some p =>
      have:=cg t;rw[hc]at this;cases this;exact⟨c,u,r,rfl,L,E⟩
 len:=by unfold L2.U.gr;rw[aj];exact S.len
structure RF (X:Cx):Prop where
 ex:∃x c T,x∈du/\W.tabIn X.K x=some (c,T)/\W.codeHdIn X.K c T=true/\X.env.code=.ref c/\X.env.qual++"<lambda>"=yK x
 blt:yY X.mg X.base
def oneArg(x:Str)(a:Pos):Arguments:={posonlyargs:=[],args:=[{arg:=x,annotation:=none,pos:=a}],vararg:=none,kwonlyargs:=[],kw_defaults:=[],kwarg:=none,defaults:=[]}
def GR(a b c u:Value):bindArgs (W.kla_fn "<lambda>" qual (oneArg x ap) body scope cl a b c) ⟨[u],[]⟩=pure [(x,u)]:=by
 have d:seqItems? Value.none=pure none:=rfl;unfold bindArgs;simp only[oneArg,d,BQ];simp[List.lookup]
def mx:ak:=⟨.ao,[]⟩
def Zn(b:(PV->Gx PV)->Nat->nU)(fb:Gx PV)(link:List (Option Nat)):PV->Gx PV:=λp a =>
 (b (O0 fb (bM link a.ρ)) a.h.length [p,.ref a.h.length] (a.h++[mx])).map λr=>(Y6 r.1,⟨a.ρ,r.2⟩)
def Kj(a:(PV->Gx PV)->Nat->nU)(fe fb:Gx PV)(link:List (Option Nat)):Gx PV:=bnd fe (Zn a fb link)
section
variable {K:W.Frag} {aa H H':Hp} {ab F:Fz} {h:List ak}
def kq.adC(C:kq K aa ab F h H)(hp:F.F p=none)(k:aa p=none)(l:∃o,H p=some o)(m:p∉F.μ):kq K aa ab ⟨F.F,F.μ++[p]⟩ (h++[mx]) H/\Gr F ⟨F.F,F.μ++[p]⟩/\(F.μ++[p])[h.length]?=some p:=by
 have g:Gr F ⟨F.F,F.μ++[p]⟩:=⟨cK.refl _,λn a q=>by
  grind⟩
 have b:∀n a,(F.μ++[p])[n]?=some a->F.μ[n]?=some a\/n=F.μ.length/\a=p:=λn a q=>by
  grind
 refine⟨⟨C.sub,C.keep,C.base.trans g,C.fresh,λn a q=>?_,by simp[C.hl],?_,λn d a hd e hk=>?_⟩,g,by rw[C.hl];simp⟩
 ·rcases b n a q with z | ⟨_,rfl⟩
  ·exact C.new n a z
  ·grind
 ·rw[qm];exact⟨C.nd,by grind⟩
 ·rcases b n a e with z | ⟨rfl,rfl⟩
  ·rw[cU (by rw[C.hl];exact(bu.mp z).1)]at hd
   obtain⟨f,ws,i,j⟩:=C.cell n d a hd z hk;exact⟨f,ws,i,j.mono g⟩
  ·rw[<-C.hl,iX (aA _),qB]at hd;cases hd;cases hk
end
section
variable {X:Cx} {aa:Hp} {ab:Fz} {e body:Expr} {fe fb:Gx PV} {scope:Scope} {x:Str} {ap lp p1 pos:Pos} {N Ns:List Str} {link:List (Option Nat)} {fs:Addr} {RG:FuncData} {k:Nat} {st:Stmt} {pr:List Str} {rb:(PV->Gx PV)->Nat->Gx dE}
def Kk(D:BZ X.K "spread" "spread" st fs RG)(mS:X.mg "spread"=some (.ref fs))(bS:gp X.K RG pr [])(scS:dD Ns pr (aw st))(hpr:pr.length=2)(L:RF X)(hg:Gl X "spread")(hr:dH (k+2) X.A)(he:PE X e (tE X aa ab fe))(lY:starEach [e,.Lambda (oneArg x ap) body scope lp] X.env=(false,eval e X.env)::starEach [.Lambda (oneArg x ap) body scope lp] X.env)(S:rH X x N link scope)
  (Kl:∀(j:Value) (A:Around) (ay:List Env) (s:Shared) (H:Hp) (E:XK) (aa:Hp) (ab:Fz) (n:Nat) (ω:PV->Gx PV),dH (k+1) (A.deeper (envOfC "spread" (aw st) s.heap.objs.size fs j))->zO (eZ (iH X.prog X.w) X.prog X.w X.K X.mg X.base Ns "spread" (aw st) fs j A ay s H E) aa ab n ω ->
   PSs (eZ (iH X.prog X.w) X.prog X.w X.K X.mg X.base Ns "spread" (aw st) fs j A ay s H E) (dm st) (tS (eZ (iH X.prog X.w) X.prog X.w X.K X.mg X.base Ns "spread" (aw st) fs j A ay s H E) aa ab (rb ω n)))
  (hbody:∀(qual:Str) (d:Addr) (j:Value) (cl:List (Str×Addr)) (A:Around) (stack:List Env) (s:Shared) (H wV:Hp) (rG:Fz),dH k (A.deeper (W.envX qual scope s.heap.objs.size d j cl)) ->
   PE (Rf (iH X.prog X.w) X.prog X.w X.K X.mg X.base (x::N) qual scope d j cl A stack s H E0) body (tE (Rf (iH X.prog X.w) X.prog X.w X.K X.mg X.base (x::N) qual scope d j cl A stack s H E0) wV rG fb)) :
  PE X (.Call (.Name "spread" p1) [e,.Lambda (oneArg x ap) body scope lp] [] pos) (tE X aa ab (Kj (λω n=>dO (rb ω n) Ns.length) fe fb link)):=by
 rintro ae s σ H Q I ⟨F,st0,R,h⟩
 obtain⟨⟨xn,c,T,l1,l2,l3,l4,l5⟩,hB⟩:=L;have hcl:=rn λy hy hy2=>I.ok.has y.1 (S.free y hy hy2)
 refine i8 (ld_glob I hg mS ?_ rfl);refine W.callWith_K I.ok.mod.kin D.kp (thn ((ji he (ji (T8 l1 l2 l3 l4 l5 hB rfl hcl) qQ rfl) lY) pos ae s σ H
  (λvs i=>∃v d F1 bf p M,vs=[v,.ref d]/\Rep X.K aa ab F1 bf σ M/\bN X.K F1 p v/\Tx X aa ab (bN X.K) F1 bf (Zn (λω n=>dO (rb ω n) Ns.length) fb link p) σ Q/\M d=none/\cK M i/\(∀b o,i b=some o->M b=some o\/M b=none)/\Jx i d (yK xn) (oneArg x ap) body scope (jX X.env scope.names [])) I
  ⟨F,st0,R,h.bnd λp v F1 bf M C g1 b1 h1 d i hn sm fr hL=>⟨v,d,F1,bf,p,M,rfl,C,b1,h1,hn,sm,fr,hL⟩⟩) λus J z9=>?_) lY rfl
 obtain⟨vs,i,I2,r,v,d,F1,bf,p,M,rfl,C,b1,z,hn,sm,fr,hL⟩:=z9;refine⟨I2.qL,?_⟩;obtain⟨q,e1,e2⟩:=z;obtain⟨⟨rs,h'⟩,e3,e4⟩:=br e1;subst e4;obtain⟨o,u,pm,ahb,HW,c',oc,uc,wD,t,k1,k2,k3⟩:=id hL;have C1:=C.c.after sm (cK.refl _) rfl (C.sub.trans sm) λ_ _ e=>.inl e
 have nfa:d∉F1.μ:=λhm=>by
  obtain⟨n,QT⟩:=qh.mp hm;obtain⟨_,o',m8⟩:=C.c.new n d QT;rw[hn]at m8;cases m8
 obtain⟨C2,g2,hm⟩:=C1.adC (C.sub.free hn) (C.c.keep.free hn) ⟨_,k1⟩ nfa;obtain⟨C3,nV⟩:=C2.enter;have b2:aB X.K ⟨F1.F,F1.μ++[d]⟩ [p,.ref bf.h.length] [v,.ref d]:=.cons (b1.mono g2) (.cons (c8.mpr ⟨d,hm,rfl⟩) .nil);obtain⟨q2,e5,e6⟩:=aR e3;have run:∀Q' Y,US X.K (pj i (F1.μ++[d])) ⟨F1.F,F1.μ++[d]⟩ h' Q' Y rs->codeAny (model X.prog X.w) X.A (.call (.ref fs) ⟨us,[]⟩) (CR (iH X.prog X.w) X.stack X.prog X.w i J Q' Y) J:=λQ' Y res=>by
  refine Yl D scS hr I2.NL (bS J us I2.qL (by rw[dB,<-r.length,hpr];rfl)) (by rw[dB];exact r) (by rw[hpr];rfl) λj=>⟨_,Kl j X.A X.stack J i Y _ _ bf.h.length _ (hr.deeper _) ⟨d,o,u,_,hm,k1,k2,?_⟩,_,⟨gm Ns.length [p,.ref bf.h.length],_⟩,⟨C3,zK b2⟩,q2,e5,?_⟩
  ·exact U4 rfl hL (O1 I2 S) (C.l.gr link) g2 (hr.deeper _) GR S.kind S.co S.gen S.par S.cell λj s H wV rG H0=>hbody _ _ _ _ _ _ _ _ _ _ H0
  ·rcases q2 with⟨f | ⟨m,c⟩,st⟩
   ·cases f with
    | rt=>cases e6;exact λv B H' C' g b'=>res v B H' C' b'
    | nx=>cases e6;exact λB bJ H' R g=>res .bj B H' R.c (dn.mpr rfl)
    | _=>cases e6
   ·cases e6;cases m with
    | true=>exact λB bJ H' ae J h1 a Z vs R sf I hc hm=>Ez I hm (EA nV R.c) (res Z B H' R.c hc)
    | false=>exact λbJ ae M J e s' I h=>zJ I h (by rintro Z i ⟨hc,B,R,sf⟩;exact⟨EA nV R.c,res Z B i R.c hc⟩)
 have done:∀Q' Y,(∀e s',iH X.prog X.w X.stack i J Y e s'->X.xe e s')->US X.K (pj i (F1.μ++[d])) ⟨F1.F,F1.μ++[d]⟩ h' Q' Y rs->wpAny (model X.prog X.w) X.A (call (.ref fs) us) (EP X ae σ Q') X.xe J:=λQ' Y hx res=>by
  refine wpAny_call (nF (run Q' Y res) λr s' tO=>?_)
  cases r with
  | error e=>exact hx e s' tO
  | ok fl =>
   cases fl with
   | ret u=>exact I2.after tO
   | next=>exact False.elim tO
   | brk=>exact False.elim tO
   | cont=>exact False.elim tO
 cases rs with
 | ok p'=>exact done Q E0 (λe s' hx=>y0 ae σ i J e s' I2 hx) λv B H' D' b'=>e2 v H' B ⟨C2.leave D',C.l.mono (g2.trans D'.base)⟩ (g2.trans D'.base) b'
 | ex m c=>exact thn (done (λ_ _=>False) _ (λe s' hx=>e2 σ ae i J e s' I2 hx) λZ B H' D' hc=>⟨hc,B,⟨C2.leave D',C.l.mono (g2.trans D'.base)⟩,g2.trans D'.base⟩) (by rintro v s3 ⟨_,_,_,_,z⟩;exact z.elim)
end
theorem uW{K:W.Frag}:∀a:List Int,aB K F (a.map .int) (a.map V.int)
 | []=>.nil
 | n::r=>.cons (aH.mpr rfl) (uW r)
section
variable {X:Cx} {aa:Hp} {ab:Fz} {e o:Expr} {fe fo:Gx PV} {pos p wW zp ap cp:Pos}
def zP(h:starEach [e] X.env=(false,eval e X.env)::starEach [] X.env)(a:wpAny M A (eval e X.env) (λv s1=>Q [v] s1) E s):wpAny M A (spliced (backTo pos (starEach [e] X.env))) Q E s:=by
 rw[h];exact Calls.spliced_cons (thn a λv s1 q=>Calls.spliced_nil q)
def zQ:bootBuiltins "sorted"=some (.builtin "sorted"):=by kernel_rfl
noncomputable def adE:PV->Option PV
 | .str a=>some (.bl (Txt.isdigit a))
 | _=>none
def U5(fo:Gx PV):Gx PV:=bnd fo λp=>jS (adE p)
def GS:WU X "str.isdigit" (λx xs H Q=>∃a,x=.str a/\xs=[]/\Q (.bl (Txt.isdigit a)) H):=by
 rintro f s σ H x xs v us Q I c rs ⟨a,e1,d,q⟩
 subst e1 d;obtain⟨t,rfl⟩:=c;have b:=rs.zero;subst b;exact SC.isdigit ⟨.bl _,H,I,rfl,q⟩
def Zo(ho:PE X o (tE X aa ab fo))(a:attributeBase o "isdigit" X.env (eval o X.env)=eval o X.env)(b:(ap.endLine==cp.line)=true):PE X (.Call (.Attribute o "isdigit" ap) [] [] cp) (tE X aa ab (U5 fo)) :=
 (Jq F.plainAttrs_str F.slot_str_isdigit F.type_str_isdigit GS ho a b).imp λσ H Q ⟨F,st,R,h⟩=>⟨F,st,R,h.bnd λp v F1 i c d j f g=>by
  obtain⟨o,e,z⟩:=g.jS;cases p<;>cases e
  rw[cL.mp f];exact⟨rfl,_,rfl,rfl,z _ c F1 d (Gr.refl _) (b8.mpr rfl)⟩⟩
end
end L2.U
namespace PySem
open PyProof.Rows
namespace F
def fy:entryFor table "dict.update.loop"=some Builtin.«dict.update.loop» := entryFor_of_tree (by kernel_rfl)
def cX:plainId "dict.update.loop"=true:=by decide +kernel
end F
section
variable {prog:Program} {w:World} {K:Type} [DecidableEq K] {knd:KeyKind prog w K} {A:Around} {R:Result->Shared->Prop} {I:Addr} {fp wr:List Addr} {G:Array GenState->Array GenState->Prop} {n:Nat} {P:Nat->Value->Prop} {St:Nat->Shared->Prop}
def zR(h:Heap)(b:Addr)(key v:Value):Prop:=∃o m,h.get? b=some o/\o.cls=.type "tuple"/\o.data=.seq #[key,v] m
def px(hp:zR s.heap b key v)(h:Q [key,v] s):wpAny (model prog w) A (Builtin.Dict.pairItems (.ref b)) Q E s:=by
 obtain⟨o,m,d,a,c⟩:=hp;unfold Builtin.Dict.pairItems;refine af (qC ⟨o,d,a⟩ ?_);rw[if_pos (by decide)]
 refine af ?_;unfold seqItems?;obtain⟨e,f,g,i⟩:=o;simp only at a c;subst a c
 wp_walk
 exact h
def GU(W:WalksS prog w A.in1 I fp wr G n P St)(S:Addr)(j:S∉fp)(hl:kvs.length=n)(hn:n<=sizeLine){s₀:Shared}
  (Q:∀i v,P i v->∃b k key u,v=.ref b/\kvs[i]?=some (k,u)/\knd.is k key=true/\b∉S::wr/\zR s₀.heap b key u) :
  ∀(c i:Nat) (s:Shared),n-i=c->i<=n->St i s->(∀b o,b∉S::wr->s₀.heap.get? b=some o->s.heap.get? b=some o)->s.heap.DictOf knd S (merged [] (kvs.take i)) ->
   (∀a,Moved (S::wr) G s a->a.heap.DictOf knd S (merged [] kvs)->R (.ok (.ret .none)) a) ->
   codeAny (model prog w) A (.builtin "dict.update.loop" ⟨[.ref S,.ref I,rawInt (i:Int),.none],[]⟩) R s:=by
 have l:S∉wr:=λh=>j (W.sub _ h)
 have L:∀b∈wr,b∈S::wr:=by grind
 intro c;induction c with
 | zero =>
  intro i s hk T q ho hS t;have X:i=n:=by lia
  subst X;refine BU F.fy ?_;rw[BE F.cX _];refine af (W.done s _ _ q λa g=>?_)
  refine af (au ?_);rw[qf (jb ‹_›)]at hS;refine au (t a (g.mono L) ?_);obtain⟨o,x,y,p,r⟩:=hS;exact⟨o,x,y,g.heap S _ l p,r⟩
 | succ c ih =>
  intro i s hk T q ho hS t;have M:i<n:=by lia
  refine BU F.fy ?_;rw[BE F.cX _];refine af (W.item i s _ _ M q λv a Y B g=>?_)
  obtain⟨b,k,key,u,rfl,C,Z,D,Zq⟩:=Q i v Y;have N:∀b o,b∉S::wr->s₀.heap.get? b=some o->a.heap.get? b=some o:=λb o d e=>g.heap b o (λz=>d (aG _ z)) (ho b o d e)
  refine af (fM ?_);refine af (wpAny_tryCatch (px (by
   obtain⟨o,m,p,r⟩:=Zq;exact⟨o,m,N b o D p,r⟩) ?_))
  refine fM ?_;have hsz:(merged [] (kvs.take i)).length<=sizeLine:=by
   have:=merged_length_le ([]:List (K×Value)) (kvs.take i);rw[nz]at this;simp at this
   lia
  refine wpAny_dictSet_pairs Z (by
   obtain⟨o,x,y,p,r⟩:=hS;exact⟨o,x,y,g.heap S _ l p,r⟩) λh' hd f=>?_
  rw[<-merged_take_succ _ _ _ _ C]at hd;have E:∀b o,b∉S::wr->s₀.heap.get? b=some o->h'.get? b=some o:=λb o d e=>(f.2 b (λh:b=S=>d (by grind))).trans (N b o d e)
  refine au ⟨plainId_quiet F.cX _,ih (i+1) _ (by lia) M (W.frame _ a _ _ B (qr ..) λb d o e=>?_) E hd λNQ H J=>?_⟩
  ·exact(f.2 b (λh:b=S=>j (by grind))).trans e
  ·refine t NQ (Moved.trans W.gtrans ((g.mono L).then_heap (qr ..) λb o d e=>?_) H) J
   exact(f.2 b (λh:b=S=>d (by grind))).trans e
end
namespace F
def t7:typeLookup (.type "tuple") "keys"=pure none:=by rw[typeLookup_type,builtinLookup_eq_fast];kernel_rfl
end F
section
variable {prog:Program} {w:World} {A:Around} {E:Value->Shared->Prop} {s:Shared} {a:Addr} {o:Obj} {xs:Array Value} {k:Nat} {Q:Option Value->Shared->Prop}
def pz(i:s.heap.get? a=some o)(hc:o.cls=.type "tuple")(j:o.data=.seq xs k)(hd:o.dict=none)(q:A.handled=none)
  (h:∀h' tk,(∀b l,s.heap.get? b=some l->h'.get? b=some l)->Q none {s with heap:=h',toks:=tk}) :
  wpAny (model prog w) A (getAttr? (.ref a) "keys") Q E s:=by
 obtain⟨c,r,t,u⟩:=o;simp only at hc j hd;subst hc j hd;obtain⟨hp,g,d,tk,v⟩:=s;have m:∀f,(⟨hp,g,d,f,v⟩:Shared).TypeIs (.ref a) "tuple":=λ_=>⟨_,i,rfl⟩
 have x:=sub_AttributeError;have y:=Bn.lookup;have B:=Bn.bind (.ref a);have C:=am_tuple_getattr_none;unfold getAttr? getAttrBy? getAttrBy
 repeat (any_goals (first | assumption | exact m _ | ((with_reducible show wpAny _ _ (call (Value.builtin "tuple.__getattribute__") _ _) _ _ _);refine lF Bn (m _) am_entry_tuple_getattribute (F.args_tuple_getattribute_2 _ _) (meets_getattribute_miss_tuple a xs k u "keys" _ F.t7 (by decide +kernel) (by decide +kernel)) ⟨i,q,λh' f e p=>?_⟩) | wp_step))
 obtain⟨D,H,he⟩:=p.there;show wpAny _ _ (getattributeRaised _ _ _ _ _ _ _) _ _ _;unfold getattributeRaised
 repeat (any_goals (first | assumption | wp_step))
 exact h _ _ p.keeps
end
section
variable {prog:Program} {w:World} {A:Around} {E:Value->Shared->Prop} {s:Shared} {K:Type} [DecidableEq K] {knd:KeyKind prog w K}
def CQ(M:A.handled=none)(N:s.heap.get? l=some ol)(hc:ol.cls=.type "tuple")(R:ol.data=.seq items m)(t:ol.dict=none)
  (Y:∀(i:Nat) (v:Value),items[i]?=some v->∃b k key u,v=.ref b/\kvs[i]?=some (k,u)/\knd.is k key=true/\zR s.heap b key u) (x:kvs.length=items.size) (j:items.size<=sizeLine)
  (h:∀(h':Heap) (tk:Nat),h'.DictOf knd s.heap.objs.size (merged [] kvs)->(∀b o,b<s.heap.objs.size->s.heap.get? b=some o->h'.get? b=some o)->Q (.ref s.heap.objs.size) {s with heap:=h',toks:=tk}) :
  wpAny (model prog w) A (call (.type "dict") [.ref l]) Q E s:=by
 refine callType_codes (Q₁:=λobj a=>obj=.ref s.heap.objs.size/\a={s with heap:=s.heap.push {cls:=.type "dict",data:=.dict #[]}}) F.kt_called_dict (F.kt_typeCall_dict_1 _) F.entry_dict_init (kt_code_dict_new _ ⟨rfl,rfl⟩) ?_
 rintro obj a ⟨rfl,rfl⟩
 have y:(s.heap.push {cls:=.type "dict",data:=.dict #[]}).DictOf knd s.heap.objs.size []:=Heap.DictOf.new s.heap
 have B:(s.heap.push {cls:=.type "dict",data:=.dict #[]}).get? l=some ol:=bg _ N
 have C:=aY N;refine⟨y.typeIs,F.args_dict_init_2 _ _,?_⟩;unfold Builtin.«dict.__init__»;refine af ?_;unfold Builtin.Dict.selfAndRest;refine af (Bx y.typeIs ?_);refine au ?_;show wpAny _ _ (Builtin.Dict.updateFrom "dict.__init__" s.heap.objs.size (.ref l) [] .none) _ _ _;unfold Builtin.Dict.updateFrom;refine af (qC ⟨ol,B,hc⟩ ?_);rw[if_pos (by decide)]
 refine af (pz B hc R t (by simp[M]) λd Z p=>?_)
 rw[if_pos (show(none:Option Value).isNone=true from rfl)]
 have Zr:=p l ol B;have T:d.DictOf knd s.heap.objs.size []:=by
  obtain⟨o,D,H,f,r⟩:=y;exact⟨o,D,H,p _ _ f,r⟩
 have g:d.IsTuple l items:=⟨ol,Zr,hc,m,R⟩;refine af (qF ?_);refine af ?_;refine BL g ?_;refine au ⟨plainId_quiet F.cX _,?_⟩;have c:s.heap.objs.size<d.objs.size:=by
  obtain⟨o,_,_,f,_⟩:=T;exact aY f
 have I:=bH (nH C c);have U6:∀i (v:Value),items[i]?=some v->∃b k key u,v=.ref b/\kvs[i]?=some (k,u)/\knd.is k key=true/\b∉[s.heap.objs.size,d.objs.size]/\zR s.heap b key u:=λi v hv=>by
  obtain⟨b,k,key,u,e1,e2,e3,X⟩:=Y i v hv;refine⟨b,k,key,u,e1,e2,e3,?_,X⟩;obtain⟨o,_,ho,_⟩:=X;have:=aY ho;simp only[aF,fJ,fN,not_or];exact⟨bH this,bH (nH this c)⟩
 refine GU (knd:=knd) (s₀:=s) ((Walks.tuple (by simp[M]) d.objs.size l I items).toS) s.heap.objs.size (by grind) x j U6 (items.size-0) 0 _ (by lia) (fj _) ⟨⟨_,cO _ rfl,rfl,rfl⟩,g.push _⟩ (λb o _ e=>bg _ (p _ _ (bg _ e))) ?_ ?_
 ·obtain⟨o,D,H,f,r⟩:=T;exact⟨o,D,H,bg _ f,r⟩
 ·intro s' q J;obtain⟨h',g',d',L,XY⟩:=s';have eg:g'=s.gens:=q.gens;have ed:d'=s.drawn:=q.drawn;have eo:XY=s.os:=q.os;subst eg;subst ed;subst eo;refine⟨rfl,h h' L J λb o j e=>?_⟩
  refine q.heap b o ?_ (bg _ (p _ _ (bg _ e)));simp only[aF,fJ,fN,not_or];exact⟨bH j,bH (nH j c)⟩
end
end PySem
namespace L2.U
open PySem PySem.Spec PyProof.Rows
section
variable {X:Cx} {a b:Expr} {ta tb:TE} {p cp bp:Pos}
def oK(K:W.Frag)(H:Hp):List V->List (bz×V)->Prop:=Paired λv d=>∃c,v=.ref c/\gT K H c [kV d.1,d.2]
def my(kvs:List (bz×V)):List (bz×V):=kvs.foldl (λc d=>putK c d.1 d.2) []
def Zs(K:W.Frag):R2:=λx y H Q=>∃a b d e c,x=.ref a/\y=.ref b/\gT K H a d/\gT K H b e/\d≠[]/\e≠[]/\d.length+e.length<=1000/\oK K H (d++e) c/\∀p,H p=none->Q (.ref p) (cx H p (.dK (my c)))
theorem zS:∀{kvs:List (bz×V)} {vs:List (bz×Value)} {acc:List (bz×V)} {d:List (bz×Value)},L2.KV kvs vs->L2.KV acc d->L2.KV (kvs.foldl (λacc c=>putK acc c.1 c.2) acc) (vs.foldl (λacc c=>stored acc c.1 c.2) d)
 | _,_,_,_,.nil,h=>h
 | _,_,_,_,.cons (a:=x) r t,h=>by
  have e:=h.put x.1 r.2;rw[BW,BW];rw[r.1]at e ⊢;exact zS (t) e
def Km(f:List (bz×V)):∀acc:List (bz×V),(f.foldl (λacc c=>putK acc c.1 c.2) acc).length<=acc.length+f.length:=by
 induction f with
 | nil=>intro acc;simp
 | cons x f ih =>
  intro acc;have:=ih (putK acc x.1 x.2);have:=Ep acc x.1 x.2;rw[BW,aN]
  lia
theorem EF(I:Inv X L σ H s):∀{vs:List V} {kvs:List (bz×V)},oK X.K H vs kvs->∀{d:List Value},Vals vs d->∃f:List (bz×Value),L2.KV kvs f/\f.length=d.length/\∀(i:Nat) (u:Value),d[i]?=some u->∃b k key w,u=.ref b/\f[i]?=some (k,w)/\(b9 X.prog X.w).is k key=true/\zR s.heap b key w
 | _,_,.nil,d,r=>by
  cases r;exact⟨[],.nil,rfl,λi u h=>by cases h⟩
 | _,_,.cons (b:=g) q t,d,r=>by
  cases r with
  | cons l m =>
   obtain⟨f,v,x,y⟩:=EF I t m;obtain⟨c,rfl,B⟩:=q;obtain⟨M,C,⟨o,D,E,n,J⟩,_⟩:=I.tuple B;obtain⟨key,w,e,hk,hw⟩:=C.two;subst e;cases l;refine⟨(g.1,w)::f,.cons ⟨rfl,hw⟩ v,by rw[aN,aN,x],λi u j=>?_⟩
   cases i with
   | zero =>
    cases j;exact⟨c,g.1,key,w,rfl,rfl,oI hk,o,n,D,E,J⟩
   | succ i=>exact y i u j
def O2(J:X.A.handled=none)(L:Gl X "dict")(M:X.mg "dict"=none)(N:PE X a ta)(R:PE X b tb)(B:starEach [.BinOp a .Add b bp] X.env=[(false,eval (.BinOp a .Add b bp) X.env)]):PE X (.Call (.Name "dict" p) [.BinOp a .Add b bp] [] cp) (WR (Zs X.K) ta tb):=by
 intro ae s σ H Q I h;refine Call_ (ld_blt I L M (show bootBuiltins "dict"=some (.type "dict") by decide +kernel) (ik (zP B (wpAny_BinOp (Ny N R I h λv u j x y H2 d T Y q=>?_))) B rfl))
 obtain⟨t1,t2,xs,ys,l,rfl,rfl,Z,h2,h3,h4,h5,h6,q⟩:=q;cases T;cases Y;obtain⟨f,m,p1,_⟩:=d.tuple Z;obtain⟨g,r,p2,_⟩:=d.tuple h2;have hz:f.length+g.length<=1000:=by rw[<-m.length,<-r.length];exact h5
 have afo:1000<=sizeLine:=by decide
 refine HT.D5 p1 p2 (λz=>h3 (m.l7.mp z)) (λz=>absurd (r.l7.mp z) h4) (λz=>?_) (bK ‹_› ‹_›)
 obtain⟨WZ,C,D,g3⟩:=EF d h6 (m.append r);obtain⟨O3,ahj⟩:=nw (j.heap.push {cls:=.type "tuple",data:=.seq (f++g).toArray})
 have hsz:(f++g).toArray.size=f.length+g.length:=by simp
 refine CQ (knd:=b9 X.prog X.w) J (cO _ rfl) rfl rfl rfl (λi v E=>?_) (by rw[D];simp) (by grind) λh' tk dd kp=>?_
 ·rw[List.getElem?_toArray]at E;obtain⟨c,k,t,w,e1,e2,e3,o,n,e4,e5⟩:=g3 i v E;exact⟨c,k,t,w,e1,e2,e3,o,n,bg _ e4,e5⟩
 ·have hS:j.heap.objs.size<=(j.heap.push {cls:=.type "tuple",data:=.seq (f++g).toArray}).objs.size:=by simp_all
  have N1:=zS C .nil;refine⟨.ref _,_,d.laid (λb u e=>kp b u (b6 (aY e) hS) (bg _ e)) hS ?_,rfl,q _ (d.hok.fresh hS)⟩
  refine⟨?_,eR.mpr (dt (bH (b6 (qU d) hS))),_,N1,dd⟩;have:=Km l [];have e:=nC C;rw[aZ]at D;unfold my;simp only[vT]at this
  lia
end
def EG:PV->Option (bz×PV)
 | .nd .ao [k,v]=>(zu k).map λj=>(j,v)
 | _=>none
def uX:List (bz×PV)->ak->ak
 | [],c=>c
 | (k,v)::r,c=>match c.k with
  | .fu t ks=>uX r (mr t [k] v ks c.ps)
  | _=>c
def GV(ps:List PV):Option ak:=if ps.length<=1000 then(cb EG ps).map λa=>uX a ⟨.fu false [],[]⟩else none
section
variable {K:W.Frag} {F:Fz}
theorem zT:∀{ps:List PV} {kvs:List (bz×PV)} {vs:List V},cb EG ps=some kvs->aB K F ps vs->∃ks:List (bz×V),oK K F.F vs ks/\ks.map (·.1)=kvs.map (·.1)/\aB K F (kvs.map (·.2)) (ks.map (·.2))
 | [],_,_,h,b=>by
  cases h;rw[b.cW];exact⟨[],.nil,rfl,.nil⟩
 | p::ps,kvs,vs,h,b=>by
  obtain⟨u,r,a,e,rfl⟩:=dX h;obtain⟨v,w,rfl,f,b2⟩:=b.cy;obtain⟨ks,g,i,l⟩:=zT e b2;unfold EG at a;split at a
  ·rename_i k q;obtain⟨j,e1,rfl⟩:=br a;obtain⟨c,ws,rfl,d,m⟩:=cq.mp f;obtain⟨x,y,rfl,o,t⟩:=jl m;rw[rm e1 o]at d;exact⟨(j,y)::ks,.cons ⟨c,rfl,d⟩ g,by rw[aI,aI,i],.cons t l⟩
  ·cases a
theorem EH:∀{kvs:List (bz×PV)} {ks:List (bz×V)} {acc:List (bz×V)} {ps:List PV},ks.map (·.1)=kvs.map (·.1)->aB K F (kvs.map (·.2)) (ks.map (·.2))->aB K F ps (acc.map (·.2)) ->
  ∃d f,uX kvs ⟨.fu false (acc.map λy=>[y.1]),ps⟩=⟨.fu false d,f⟩/\(ks.foldl (λacc b=>putK acc b.1 b.2) acc).map (λy=>[y.1])=d/\aB K F f ((ks.foldl (λacc b=>putK acc b.1 b.2) acc).map (·.2))
 | [],ks,acc,ps,a,g,c=>by
  have:=List.map_eq_nil_iff.mp a;subst this;exact⟨_,_,rfl,rfl,c⟩
 | (k,q)::kvs,[],acc,ps,a,g,c=>by cases a
 | (k,q)::kvs,(j,v)::ks,acc,ps,a,g,c=>by
  simp only[aI,BV]at a;obtain⟨rfl,a⟩:=a;obtain⟨u,w,e,l,b2⟩:=g.cy;cases e;obtain⟨d,f,e1,m,o⟩:=JL l c;obtain⟨h,i,p,r,t⟩:=EH a b2 o;refine⟨h,i,?_,r,t⟩;show uX kvs (mr false [j] q (acc.map λy=>[y.1]) ps)=_
  rw[e1,<-m];exact p
end
def O4{K:W.Frag}(h:GV ps=some c)(b:aB K F ps vs):∃ks:List (bz×V),oK K F.F vs ks/\ps.length<=1000/\∃a d,c=⟨.fu false a,d⟩/\(my ks).map (λy=>[y.1])=a/\aB K F d ((my ks).map (·.2)):=by
 obtain⟨e,h⟩:=bP h;obtain⟨f,g,rfl⟩:=br h;obtain⟨ks,i,j,k⟩:=zT g b;obtain⟨a,l,e1,m,o⟩:=EH (acc:=[]) j k .nil;exact⟨ks,i,e,a,l,e1,m,o⟩
theorem oK.mono{K:W.Frag}(h:cK F G):∀{vs:List V} {ks:List (bz×V)},oK K F vs ks->oK K G vs ks
 | _,_,.nil=>.nil
 | _,_,.cons ⟨c,e,q⟩ t=>.cons ⟨c,e,bt h q⟩ (oK.mono h t)
def O5:PV->Option (List PV)
 | .nd .ao a=>some a
 | _=>none
def adN(p q:PV):Gx PV:=λd=>(O5 p).bind λa=>(O5 q).bind λb=>if(a.isEmpty || b.isEmpty)=true then none else(GV (a++b)).bind λc=>kG c d
def EI(a fb:Gx PV):Gx PV:=bnd a λp=>bnd fb λq=>adN p q
section
variable {X:Cx} {aa:Hp} {ab:Fz} {a b e:Expr} {fa fb fe:Gx PV} {p cp bp:Pos}
def U8(m:X.A.handled=none)(o:Gl X "dict")(t:X.mg "dict"=none)(u:PE X a (tE X aa ab fa))(w:PE X b (tE X aa ab fb))(x:starEach [.BinOp a .Add b bp] X.env=[(false,eval (.BinOp a .Add b bp) X.env)]):PE X (.Call (.Name "dict" p) [.BinOp a .Add b bp] [] cp) (tE X aa ab (EI fa fb)) :=
 (O2 m o t u w x).imp λσ H Q ⟨F,st,R,h⟩=>⟨F,st,R,h.bnd λq v F1 y H1 B g1 C D=>⟨F1,y,B,D.bnd λE v2 F2 I H2 R2 J b2 L=>by
  obtain⟨r,e1,M⟩:=L;obtain⟨N,i,e1⟩:=aR e1;obtain⟨T,j,e1⟩:=aR e1;split at e1
  ·cases e1
  ·rename_i d;obtain⟨c,Y,e1⟩:=aR e1;have Z:q=.ao N:=by
    unfold O5 at i;split at i
    ·grind
    ·cases i
   have t2:E=.ao T:=by
    unfold O5 at j;split at j
    ·grind
    ·cases j
   subst Z t2;obtain⟨a1,vs,rfl,k,f⟩:=cq.mp (C.mono J);obtain⟨a2,ws,rfl,MP,g⟩:=cq.mp b2;obtain⟨ks,k1,l,tY,jj,rfl,e6,e7⟩:=O4 Y (f.append g);simp only[vW,vR,not_or]at d;rw[aZ]at l;refine⟨a1,a2,vs,ws,ks,rfl,rfl,bt R2.sub k,bt R2.sub MP,λz=>d.1 ?_,λz=>d.2 ?_,by rw[<-f.length,<-g.length];exact l,k1.mono R2.sub,λp hp=>?_⟩
   ·subst z;exact nq f.length
   ·subst z;exact nq g.length
   ·exact Tx.kG (show Tx X aa ab (bN X.K) F2 I (kG ⟨.fu false tY,jj⟩) σ Q from⟨r,e1,M⟩) R2 hp ⟨my ks,aE,e6,rfl⟩ e7⟩⟩
end
noncomputable def U9:List PV->Option (List Int)
 | [.int n]=>if 0<=n/\n<=1000 then some (rangeInts 0 1 n.toNat)else none
 | [.int a,.int b]=>if 0<=a/\a<=b/\b<=1000 then some (rangeInts a 1 (b-a).toNat)else none
 | _=>none
def zU(m:Nat)(ps:List PV):Gx PV:=λa=>match m with
 | 0=>some (.ok (.lst ps),a)
 | _=>kG ⟨.lst,ps⟩ a
def lrg(m:Nat)(a:Gx (List PV)):Gx PV:=bnd a λb=>bnd (jS (U9 b)) λl=>zU m (l.map .int)
def qD:bootBuiltins "range"=some (.type "range"):=by kernel_rfl
section
variable {X:Cx} {aa:Hp} {ab:Fz} {e:Expr} {es:List Expr} {ts:Gx (List PV)} {pos p wW zp:Pos} {m:Nat}
def Tx.zU{st:cz}(h:Tx X aa ab (bN X.K) F st (zU m ps) σ Q)(R:Rep X.K aa ab F st σ H)(a:H q=none)(b:aB X.K F ps vs):Q (.ref q) (cx H q (.lst vs)):=by
 cases m with
 | zero =>
  obtain⟨r,e1,d⟩:=h;cases e1;obtain⟨R2,c⟩:=R.laid (.lst vs) a;exact d _ _ _ R2 c (gu.mpr ⟨q,vs,rfl,kW.of aE,b.mono c⟩)
 | succ m=>exact Tx.kG (h) R a aE b
def CS(h:ItemsOf (fun(i:Nat) (v:Value)=>∃t:Tok,v=Value.int (a+i*c) t) acc n):Vals ((rangeInts a c n).map V.int) acc.toList:=by
 have:∀l k,(∀j v,l[j]?=some v->∃t:Tok,v=Value.int (a+(k+j:Nat)*c) t)->Vals (((List.range' k l.length).map fun(i:Nat)=>a+i*c).map V.int) l:=by
  intro l;induction l with
  | nil=>intro k _;exact .nil
  | cons x l ih =>
   intro k d;obtain⟨t,ht⟩:=d 0 x rfl;rw[aN,List.range'_succ,aI,aI];refine .cons ⟨t,by rw[ht];rfl⟩ (ih (k+1) λj v b=>?_)
   have:=d (j+1) v (by simpa using b)
   rw[show k+(j+1)=k+1+j by lia]at this
   exact this
 have f:=this acc.toList 0 λj v b=>by
  rw[eS];exact h.2 j v (by rw[<-Bz];exact b)
 rw[ip,h.1,<-List.range_eq_range']at f;exact f
def Zu(hh:X.A.handled=none)(Zv:Gl X "list")(Zw:X.mg "list"=none)(hg:Gl X "range")(hm:X.mg "range"=none)(ha:PA X (e::es) (tA X aa ab ts))(hs:starEach (e::es) X.env=(false,eval e X.env)::starEach es X.env)(MP:(backTo wW (starEach es X.env)).any (·.1)=false) :
  PE X (.Call (.Name "list" p) [.Call (.Name "range" zp) (e::es) [] wW] [] pos) (tE X aa ab (lrg m ts)):=by
 rintro T s σ H Q I ⟨F,st,Rp,h⟩
 refine i8 (ld_blt I Zv Zw (kr .list) ?_ (by decide) (by decide))
 refine ik (zP rfl ?_) rfl rfl;have hA:=ha wW T s σ H (λq H'=>∃x Y g,Rep X.K aa ab x Y σ H'/\aB X.K x g q/\Tx X aa ab (bN X.K) x Y (bnd (jS (U9 g)) λl=>zU m (l.map .int)) σ Q) I ⟨F,st,Rp,h.bnd λg q F1 Z H1 y g1 j d=>⟨F1,Z,g,y,j,d⟩⟩
 refine Call_ (ld_blt I hg hm qD (ik (thn hA λus s1 z9=>?_) hs MP))
 obtain⟨q,H1,I1,k,F1,Z,g,y,j,d⟩:=z9;obtain⟨B,i,d⟩:=At.jS (At.bnd d);have kX:∀r d f (a b c:Int) (t u v:Tok) (n:Nat),(∀b o,s1.heap.get? b=some o->d.get? b=some o)->IsRange d r a b c t u v->Builtin.Range.small a b c=true->Builtin.Range.rangeSize a b c=n->n<=3000->B=rangeInts a c n ->
   wpAny (model X.prog X.w) X.A (call (.type "list") [.ref r]) (EP X T σ Q) X.xe {s1 with heap:=d,toks:=f}:=λr C f a b c t u v n hk hr D hn CF Ju=>by
  refine call_list_range hh hr D hn (by lia) λh' tk E c' J hS rJ=>?_
  have I2:=I1.kept (t':=f) hk;have hz:=I2.hok.fresh (aA _);have hv:=CS rJ;rw[<-Ju]at hv;refine⟨.ref C.objs.size,cx H1 C.objs.size (.lst (B.map V.int)),I2.laid J (aA _) ⟨?_,E.toList,c',hv,hS⟩,rfl,Tx.zU d y hz (uW B)⟩;rw[aj,Ju,rangeInts_length];exact bK CF (by decide)
 clear d;unfold U9 at i;split at i
 ·rename_i n;obtain⟨⟨h0,d⟩,e1⟩:=aM i;obtain⟨v,rfl,bv⟩:=dG j;rw[aH.mp bv]at k;obtain⟨u,rfl,ru⟩:=jx k;obtain⟨tk0,rfl⟩:=ru;refine call_range_1 ?_;refine kX _ _ _ 0 n 1 _ _ _ n.toNat (λb o e=>bg _ e) (v9 ..) ?_ ?_ (by lia) e1.symm
  ·exact small_one (by decide) (by decide) (by lia) (by lia)
  ·unfold Builtin.Range.rangeSize;rw[if_pos (by decide)]
   split<;>lia
 ·rename_i a b;obtain⟨⟨h0,d,C⟩,e1⟩:=aM i;obtain⟨v1,v2,rfl,L,M⟩:=jl j;rw[aH.mp L,aH.mp M]at k;obtain⟨u1,u2,rfl,N,R⟩:=QX k;obtain⟨k1,rfl⟩:=N;obtain⟨k2,rfl⟩:=R;refine call_range_2 ?_;refine kX _ _ _ a b 1 _ _ _ (b-a).toNat (λb o e=>bg _ e) (v9 ..) (small_one (by lia) (by lia) (by lia) (by lia)) (rangeSize_nat a b) (by lia) e1.symm
 ·cases i
end
end L2.U
namespace PySem
open PyProof.Rows PySem.W
section
variable {prog:Program} {w:World} {A:Around} {d:Addr} {es:Array DictEntry} {ep:Nat}
def Raw.at{h h':Heap}(x:Raw h d es ep)(e:∀o,h.get? d=some o->h'.get? d=some o):Raw h' d es ep:=let ⟨o,ho,r⟩:=x;⟨o,e _ ho,r⟩
def GW(k:A.handled=none)(I:Addr)(f:d≠I):Walks prog w A I [I,d] [I] es.size (λi v=>∃e,es[i]?=some e/\e.key=v) (λi h=>h.IsKeyIter I d i es.size ep/\Raw h d es ep) where
 sub:=λb c=>by simp at c;simp[c]
 frame:=λ_ _ _ a hk=>⟨a.1.at λo e=>hk I (by simp) o e,a.2.at λo e=>hk d (by simp) o e⟩
 item:=λi s Q E m a g=>mw k a.1 a.2 (λe he j it l=>g _ j s.toks ⟨e,he,rfl⟩ ⟨it,a.2.at λo x=>l.extBut d o f x⟩ λb o c x=>l.extBut b o (λz=>c (by simp[z])) x) λz=>by rw[lb m]at z;cases z
 done:=λs Q E a g=>mw k a.1 a.2 (λe he=>by rw[vF (aA _)]at he;cases he) λ_ j p=>g j s.toks λb o c x=>p b o (λz=>c (by simp[z])) x
 self:=λ_ _ _ _ a h=>wpAny_pyIter_keyiter a.1 h
def EJ(lo:(d==sysModules)=false):KdlSrc prog w "dict" d d es.size (λi v=>∃e,es[i]?=some e/\e.key=v) (λh=>Raw h d es ep) where
 type:=λ_ ⟨o,ho,hc,_⟩=>⟨o,ho,hc.1⟩
 there:=λ_ ⟨_,ho,_⟩=>⟨aY ho,aY ho⟩
 keep:=λ_ _ a hk=>a.at λo e=>hk d (.inl rfl) o e
 notList:=by decide
 notTuple:=by decide
 hint:=λ_ _ _ _ ⟨o,ho,hc,_⟩ b=>kdl_hint_dict ⟨o,ho,hc.1⟩ b
 iter:=λ_ _ c a=>⟨_,_,(λ_ _ b=>zH lo a b),GW c _ (by obtain⟨o,ho,_⟩:=a;exact bH (aY ho)),⟨⟨_,cO _ rfl,rfl,rfl⟩,a.at λo e=>bg _ e⟩⟩
end
end PySem
namespace L2.U
open PySem PySem.Spec PyProof.Rows
def Ko(m:Nat)(fe:Gx PV):Gx PV:=bnd fe λp=>bnd (hp λh=>(gX h p).bind λq=>CK q.2.k) λks=>zU m (jA ks)
section
variable {X:Cx} {aa:Hp} {ab:Fz} {e:Expr} {fe:Gx PV} {pos p:Pos} {m:Nat}
theorem Kp{K:W.Frag}{F:Fz}:∀{xs:List (List bz×Addr×Value)},eU K F.F xs->aB K F (jA (xs.map (·.1))) (xs.map λz=>V.ref z.2.1)
 | [],_=>.nil
 | z::xs,h=>.cons (cq.mpr ⟨_,_,rfl,h z aD,pT _⟩) (Kp λy a=>h y (aG _ a))
theorem Kq:∀(xs:List (List bz×Addr×Value)) (us:List Value),us.length=xs.length->(∀(j:Nat) (u:Value),us[j]?=some u->∃z:List bz×Addr×Value,xs[j]?=some z/\u=Value.ref z.2.1)->Vals (xs.map λz=>V.ref z.2.1) us
 | [],[],_,_=>.nil
 | [],_::_,h,_=>nomatch h
 | _::_,[],h,_=>nomatch h
 | z::xs,u::us,h,a=>by
  obtain⟨y,b,rfl⟩:=a 0 u rfl;cases b;exact .cons rfl (Kq xs us (Nat.succ.inj h) λj v c=>a (j+1) v (by simpa using c))
def Va(Y:X.A.handled=none)(Z:Gl X "list")(Zw:X.mg "list"=none)(he:PE X e (tE X aa ab fe))(C:∀g,starEach (e::g) X.env=(false,eval e X.env)::starEach g X.env):PE X (.Call (.Name "list" p) [e] [] pos) (tE X aa ab (Ko m fe)):=by
 rintro ae s σ H Q I ⟨F,st,Rp,h⟩
 refine i8 (ld_blt I Z Zw (kr .list) ?_ (by decide) (by decide))
 refine ik (zP (C []) ?_) (C []) rfl;have hA:=he ae s σ H (λv H'=>∃r D q,Rep X.K aa ab r D σ H'/\bN X.K r q v/\Tx X aa ab (bN X.K) r D (bnd (hp λh=>(gX h q).bind λc=>CK c.2.k) λks=>zU m (jA ks)) σ Q) I ⟨F,st,Rp,h.bnd λq v F1 E J i g1 w d=>⟨F1,E,q,i,w,d⟩⟩
 refine thn hA λu l z9=>?_
 obtain⟨x,J,y,r1,F1,E,q,i,w,d⟩:=z9;obtain⟨ks,f2,d⟩:=At.hp (At.bnd d);obtain⟨⟨n,c⟩,d1,f⟩:=aR f2;obtain⟨rfl,WX,hl⟩:=eY d1;obtain⟨a,ha,rfl⟩:=c8.mp w;cases r1;obtain⟨L,cp⟩:=c;have f:CK L=some ks:=f;cases L with
 | fu t tY =>
  cases t with
  | false=>cases f
  | true =>
   cases f;obtain⟨hf,ws,⟨B,k1,k2,k3,k4⟩,hv⟩:=i.c.cell n _ a WX ha hl;subst k3;obtain⟨M,hS,o,g,ep,e1,e2,e3,N,e5⟩:=y.hok a _ k1;have dd:Raw l.heap a g ep:=⟨o,e1,e2,e3⟩;have sz:=BS N;refine W.kdl_call (EJ hS) Y dd (by rw[sz];exact M) λh' tk b c' hk hD R=>?_
   have hn:=y.hok.fresh (aA l.heap.objs.size);have hV:Vals (B.map λz=>V.ref z.2.1) b.toList:=Kq B b.toList (by rw[ip,R.1,sz]) λj u hu=>by
    obtain⟨en,T,rfl⟩:=R.2 j u (by rw[<-Bz];exact hu)
    rw[entry_at N]at T;obtain⟨z,h4,rfl⟩:=il.mp T;exact⟨z,h4,rfl⟩
   exact⟨.ref l.heap.objs.size,cx J l.heap.objs.size (.lst (B.map λz=>V.ref z.2.1)),y.laid hk (aA _) ⟨by rw[aj];exact M,b.toList,c',hV,hD⟩,rfl,Tx.zU d i hn (Kp k2)⟩
 | _=>cases f
end
end L2.U
namespace PySem.W
open PySem PyProof.Rows
abbrev Cmp:=Nat->Nat->(Bool->Shared->Prop)->Shared->Prop
def xk{O:KeyOrd}(key:Nat->O.α)(p:Array Nat)(i:Nat):O.α:=key (p.getD i 0)
def GX{O:KeyOrd}(key:Nat->O.α)(p:Array Nat)(a:Nat):Prop:=∀i j,i<j->j<a->O.blt (xk key p i) (xk key p j)=true
def Dwn{O:KeyOrd}(key:Nat->O.α)(p:Array Nat)(a:Nat):Prop:=∀i j,i<j->j<a->O.blt (xk key p j) (xk key p i)=true
structure RI {O:KeyOrd} (key:Nat->O.α) (pA:Cmp) (s:Shared) (n:Nat):Prop where
 Rl:∀{i j C},i<n->j<n->C (O.blt (key i) (key j)) s->pA i j C s
 dif:∀{i j},i<n->j<n->i≠j->key i≠key j
abbrev tD(p:Array Nat)(n:Nat):Prop:=p.toList.Perm (List.range n)
section
variable {O:KeyOrd} {key:Nat->O.α} {pA:Cmp} {s:Shared} {n:Nat} {p:Array Nat}
theorem mz(hp:tD p n):p.size=n:=by
 have h:=hp.length_eq
 rwa [ip,gD]at h
theorem gd(q:Array Nat)(j:Nat):q.getD j 0=q[j]?.getD 0:=by simp
theorem gn(hp:tD p n)(a:i<n):p.getD i 0<n:=by
 have b:=mz hp;rw[gd,lb (b▸a)];exact ez.mp (hp.mem_iff.mp (Array.getElem_mem_toList _))
theorem O6(hp:tD p n)(c:i<n)(d:j<n)(b:i≠j):p.getD i 0≠p.getD j 0:=by
 have a:=mz hp;rw[gd,gd,lb (a▸c),lb (a▸d)];have f:p.toList.Nodup:=hp.nodup_iff.mpr List.nodup_range;intro e;have h:=(qy (i:=i) (j:=j) (h₀:=by simp[a,c]) (h₁:=by simp[a,d]) f).mp (by simpa using e)
 exact b h
theorem Kr(K:RI key pA s n)(hp:tD p n)(b:i<n)(c:j<n)(a:i≠j)(h:O.blt (xk key p i) (xk key p j)=false):O.blt (xk key p j) (xk key p i)=true:=by
 cases e:O.blt (xk key p j) (xk key p i)with
 | true=>rfl
 | false=>exact absurd (O.total _ _ h e) (K.dif (gn hp b) (gn hp c) (O6 hp b c a))
theorem O7:GX key p 1:=λi j a b=>by lia
theorem Ks(h:GX key p (m+1))(e:O.blt (xk key p m) (xk key p (m+1))=true):GX key p (m+2):=λi j a d=>by
 by_cases b:j<m+1
 · exact h i j a b
 obtain rfl:j=m+1:=by lia
 by_cases c:i=m
 · exact c▸e
 exact O.trans _ _ _ (h i m (by lia) (by lia)) e
theorem zV(h:Dwn key p (m+1))(e:O.blt (xk key p (m+1)) (xk key p m)=true):Dwn key p (m+2):=λi j a d=>by
 by_cases b:j<m+1
 · exact h i j a b
 obtain rfl:j=m+1:=by lia
 by_cases c:i=m
 · exact c▸e
 exact O.trans _ _ _ e (h i m (by lia) (by lia))
theorem Kt(K:RI key pA s n)(hp:tD p n){Q:Nat->Shared->Prop}:∀f m,m+1+f=n->GX key p (m+1)->(∀a,m<=a->a<n->GX key p (a+1)->(a+1<n->O.blt (xk key p (a+1)) (xk key p a)=true)->Q (a+1) s)->(kas_asc p f (m+1)).kasWp pA Q s:=by
 intro f;induction f with
 | zero=>exact λm d b c=>c m (by lia) (by lia) b λh=>by lia
 | succ f ih =>
  intro m d b c;refine K.Rl (gn hp (by lia)) (gn hp (by lia)) ?_
  show KasT.kasWp pA (ite (O.blt (xk key p (m+1)) (xk key p m)=true) _ _) Q s;cases e:O.blt (xk key p (m+1)) (xk key p m)with
  | true=>exact c m (by lia) (by lia) b λ_=>e
  | false=>exact ih (m+1) (by lia) (Ks b (Kr K hp (by lia) (by lia) (by lia) e)) λa g=>c a (by lia)
theorem O8(K:RI key pA s n)(hp:tD p n){Q:Array Nat×Nat×Nat->Shared->Prop}:∀f m,m+1+f=n->Dwn key p (m+1)->(∀a,m<=a->a<n->Dwn key p (a+1)->Q (p,a+1,0) s)->(kas_desc f p (m+1) 0).kasWp pA Q s:=by
 intro f;induction f with
 | zero=>exact λm d b c=>c m (by lia) (by lia) b
 | succ f ih =>
  intro m d b c;refine K.Rl (gn hp (by lia)) (gn hp (by lia)) ?_
  show KasT.kasWp pA (ite (O.blt (xk key p (m+1)) (xk key p m)=true) _ _) Q s;cases e:O.blt (xk key p (m+1)) (xk key p m)with
  | true=>exact ih (m+1) (by lia) (zV b e) λa g=>c a (by lia)
  | false =>
   refine K.Rl (gn hp (by lia)) (gn hp (by lia)) ?_
   show KasT.kasWp pA (ite (O.blt (xk key p m) (xk key p (m+1))=true) _ _) Q s;rw[Kr K hp (by lia) (by lia) (by lia) e]
   exact c m (by lia) (by lia) b
theorem EK(hp:tD p n)(i j:Nat):tD (kas_rev p i j) n:=(Ir.mp (mirror_perm p i j _)).trans hp
theorem Ku(hp:tD p n)(b:a<=n)(c:i<a):xk key (kas_rev p 0 a) i=xk key p (a-1-i):=by
 show key _=key _;rw[gd,gd,kas_rev,getElem?_mirror_all (by rw[mz hp];exact b),if_pos ⟨fj _,c⟩,eS]
theorem O9(K:RI key pA s n)(hp:tD p n){Q:Nat×Array Nat->Shared->Prop}(h1:2<=n)(hd:O.blt (xk key p 1) (xk key p 0)=true)(d:∀a r,1<=a->a<=n->tD r n->GX key r a->Q (a,r) s):(kas_descPart 1 n p).kasWp pA Q s:=by
 unfold kas_descPart;rw[KasT.kasWp_bind];refine O8 K hp _ 1 (by lia) (zV (m:=0) (λi j h1 e=>by lia) hd) λa h1 e f=>?_
 show KasT.kasWp pA (kas_tail3 (a+1) n p) Q s;unfold kas_tail3;rw[KasT.kasWp_bind];refine Kt K (EK hp _ _) _ a (by lia) (λi j g c=>?_) λb g c h _=>d _ _ (by lia) (by lia) (EK hp _ _) h
 rw[Ku hp (by lia) (by lia),Ku hp (by lia) c]
 exact f _ _ (by lia) (by lia)
theorem Kv(K:RI key pA s n)(hp:tD p n){Q:Nat×Array Nat->Shared->Prop}(h1:1<=n)(b:∀a r,1<=a->a<=n->tD r n->GX key r a->Q (a,r) s):(kas_count n p).kasWp pA Q s:=by
 unfold kas_count;rw[KasT.kasWp_bind];refine Kt K hp _ 0 (by lia) O7 λa g h c e=>?_
 by_cases d:a+1=n
 · rw[if_pos (by simp[d])]
   exact b _ _ (by lia) (by lia) hp c
 rw[if_neg (by simp[d])]
 by_cases f:a=0
 · subst f
   exact O9 K hp (by lia) (e (by lia)) b
 rw[if_pos (by lia)]
 refine K.Rl (gn hp (by lia)) (gn hp (by lia)) ?_
 show KasT.kasWp pA (ite (O.blt (xk key p 0) (xk key p a)=true) _ _) Q s;rw[c 0 a (by lia) (by lia)]
 exact b _ _ (by lia) (by lia) hp c
theorem Kw(K:RI key pA s n)(hp:tD p n){Q:Nat->Shared->Prop}(hk:k<n)(g:GX key p k)(j:∀l,l<=k->(∀i,i<l->O.blt (xk key p i) (xk key p k)=true)->(∀i,l<=i->i<k->O.blt (xk key p k) (xk key p i)=true)->Q l s) :
  ∀f l r,l<=r->r<=k->r<=l+f->(∀i,i<l->O.blt (xk key p i) (xk key p k)=true)->(∀i,r<=i->i<k->O.blt (xk key p k) (xk key p i)=true)->(kas_place p k f l r).kasWp pA Q s:=by
 intro f;induction f with
 | zero =>
  intro l r q a t b c;obtain rfl:l=r:=by lia
  exact j l a b c
 | succ f ih =>
  intro l r q a t b c;unfold kas_place;by_cases h:l=r
  · subst h
    rw[if_pos (aA _)];exact j l a b c
  rw[if_neg (by lia)]
  obtain⟨m,u⟩:∃m,m=(l+r)/2:=⟨_,rfl⟩
  rw[<-u];refine K.Rl (gn hp hk) (gn hp (by lia)) ?_
  show KasT.kasWp pA (ite (O.blt (xk key p k) (xk key p m)=true) _ _) Q s;cases e:O.blt (xk key p k) (xk key p m)with
  | true =>
   refine ih l m (by lia) (by lia) (by lia) b λi v w=>?_
   by_cases d:i=m
   · exact d▸e
   exact O.trans _ _ _ e (g m i (by lia) w)
  | false =>
   refine ih (m+1) r (by lia) a (by lia) (λi v=>?_) c
   have o:=Kr K hp hk (by lia) (by lia) e
   by_cases d:i=m
   · exact d▸o
   exact O.trans _ _ _ (g i m (by lia) (by lia)) o
theorem Pa(hp:tD p n)(i j:Nat):tD (bubble p i j) n:=(Ir.mp (bubble_perm p i j)).trans hp
theorem Kx(hp:tD p n)(hk:k<n)(a:l<=k)(i:Nat):xk key (bubble p k (k-l)) i=if i=l then xk key p k else if l<i/\i<=k then xk key p (i-1)else xk key p i:=by
 unfold xk;have e:=getElem?_bubble (xs:=p) (src:=k) (by rw[mz hp];exact hk) (k-l) (by lia) i
 rw[show k-(k-l)=l by lia]at e
 rw[gd,e,gd p,gd p,gd p];split
 · rfl
 split<;>rfl
theorem Vb(K:RI key pA s n){Q:Array Nat->Shared->Prop}(c:∀r,tD r n->GX key r n->Q r s):∀f k p,k+f=n->tD p n->GX key p k->(kas_bin f p k).kasWp pA Q s:=by
 intro f;induction f with
 | zero=>exact λk p hk hp a=>c p hp (hk▸a)
 | succ f ih =>
  intro k p hk hp a;show KasT.kasWp pA (KasT.bind _ _) Q s;rw[KasT.kasWp_bind];refine Kw K hp (by lia) a (λl b d e=>ih (k+1) _ (by lia) (Pa hp _ _) λi j g m=>?_) k 0 k (by lia) (by lia) (by lia) (λi h=>by lia) λi h o=>by lia
  rw[Kx hp (by lia) b,Kx hp (by lia) b]
  split
  · rw[if_neg (by lia),if_pos (by lia)]
    exact e _ (by lia) (by lia)
  split
  · rw[if_neg (by lia),if_pos (by lia)]
    exact a _ _ (by lia) (by lia)
  split
  · exact d _ (by lia)
  split<;>exact a _ _ (by lia) (by lia)
theorem Pb(K:RI key pA s n){Q:Array Nat->Shared->Prop}(h1:1<=n)(b:∀r,tD r n->GX key r n->Q r s):(kas_sort n).kasWp pA Q s:=by
 unfold kas_sort;rw[KasT.kasWp_bind];refine Kv K (.refl _) h1 λa r d f c e=>?_
 show KasT.kasWp pA (ite (a<n) _ _) Q s;split
 · rw[Nat.max_eq_left d]
   exact Vb K b _ _ _ (by lia) c e
 · exact b r c (by rwa [show n=a by lia])
end
def Bf(a b:List Nat×Int):Prop:=a.1<b.1\/a.1=b.1/\a.2<b.2
instance (a b:List Nat×Int):Decidable (Bf a b):=inferInstanceAs (Decidable (_\/_))
def H9:KeyOrd where
 α:=List Nat×Int
 blt a b:=decide (Bf a b)
 irrefl a:=by
  have:=List.lt_irrefl a.1;simp[Bf,this]
 trans a b c d f:=by
  simp only[i9]at *;rcases d with d | ⟨e1,d⟩<;>rcases f with f | ⟨g,f⟩
  · exact .inl (List.lt_trans d f)
  · exact .inl (g▸d)
  · exact .inl (e1▸f)
  · exact .inr ⟨e1.trans g,by lia⟩
 negTrans a b c h:=by
  simp only[i9]at *;by_cases x:a.1<b.1
  · exact .inl (.inl x)
  by_cases y:b.1<a.1
  · rcases h with h | ⟨e,h⟩
    · exact .inr (.inl (List.lt_trans y h))
    · exact .inr (.inl (e▸y))
  have e:a.1=b.1:=List.le_antisymm (wa.mp y) (wa.mp x);rcases h with h | ⟨g,h⟩
  · exact .inr (.inl (e▸h))
  · by_cases z:a.2<b.2
    · exact .inl (.inr ⟨e,z⟩)
    · exact .inr (.inr ⟨e.symm.trans g,by lia⟩)
 total a b d f:=by
  have d:¬(_\/_):=BJ d;have f:¬(_\/_):=BJ f;simp only[not_or,not_and]at d f;have e:a.1=b.1:=List.le_antisymm (wa.mp f.1) (wa.mp d.1);exact Prod.ext e (by have:=d.2 e;have:=f.2 e.symm;lia)
noncomputable def pk(k:Str×Int):List Nat×Int:=(k.1.cps.toList,k.2)
theorem CU{a b:Str×Int}(h:pk a=pk b):a=b:=by
 obtain⟨⟨x⟩,n⟩:=a;obtain⟨⟨y⟩,m⟩:=b;simp only[pk,nA]at h;obtain⟨c,rfl⟩:=h;obtain rfl:=Array.toList_inj.mp c;rfl
def Vc(h:Heap)(v:Value)(k:Str×Int):Prop:=∃a o m t u,v=.ref a/\h.get? a=some o/\o.cls=.type "tuple"/\o.data=.seq #[.str k.1 t,.int k.2 u] m
def Vc.at{h h':Heap}(x:Vc h v k)(e:∀a o,h.get? a=some o->h'.get? a=some o\/o.cls≠.type "tuple"):Vc h' v k :=
 let ⟨a,o,m,t,u,q,ho,hc,hd⟩:=x
 ⟨a,o,m,t,u,q,(e a o ho).resolve_right λn=>n hc,hc,hd⟩
def t8(h:Heap):List Value->List (Str×Int)->Prop
 | [],[]=>True
 | v::a,k::ks=>Vc h v k/\t8 h a ks
 | _,_=>False
section
variable {prog:Program} {w:World} {A:Around} {E:Value->Shared->Prop} {s:Shared}
theorem Zx{Q:Bool->Shared->Prop}(g:Vc s.heap x c)(i:Vc s.heap y d)(h:Q (H9.blt (pk c) (pk d)) s):wpAny (model prog w) A (keyLt' (tuples' true) x y) Q E s:=by
 obtain⟨a,o,m,t,u,rfl,ho,hc,hd⟩:=g;obtain⟨l,r,v,B,C,rfl,j,D,k⟩:=i;refine kat_lt ho hd j k (kat_cons (wpAny_eqBool_str ?_));have f:Q (decide (Bf (pk c) (pk d))) s:=h;refine kat_go (λe=>kat_yes (kat_cons (wpAny_eqBool_int ?_))) λe=>kat_no (oneLt_str ?_)
 · have e:=d9 e
   refine kat_go (λz=>kat_yes (kat_nil ?_)) λz=>kat_no (kat_one _ _ (lt_int ?_))
   · have z:=bc z
     rw[show decide (Bf (pk c) (pk d))=false from by simp[Bf,pk,e,z,List.lt_irrefl]]at f
     exact f
   · rw[show decide (Bf (pk c) (pk d))=decide (c.2<d.2)from by simp[Bf,pk,e,List.lt_irrefl]]at f
     exact f
 · have e:=BJ e
   rw[show decide (Bf (pk c) (pk d))=decide (c.1.cps.toList<d.1.cps.toList)from decide_eq_decide.mpr ⟨λp=>p.resolve_right λq=>e (by
    exact(Prod.mk.inj (CU (a:=(c.1,0)) (b:=(d.1,0)) (cV (·,0) q.1))).1),.inl⟩]at f
   exact f
theorem zW:∀{vs ks},t8 s.heap vs ks->∃fs,KatTups s.heap vs fs/\fs.length=vs.length/\∀v∈fs,∃a t,v=Value.str a t
 | [],[],_=>⟨[],.nil,rfl,λ_ h=>nomatch h⟩
 | v::vs,k::ks,⟨⟨a,o,m,t,u,e,ho,hc,hd⟩,r⟩=>by
  obtain⟨fs,c,d,f⟩:=zW r;refine⟨.str k.1 t::fs,e▸.cons ho hc hd rfl c,by simp[d],λv b=>?_⟩
  rcases aF.mp b with rfl | b
  · exact⟨_,_,rfl⟩
  · exact f v b
theorem EL:∀{vs ks},t8 h vs ks->vs.length=ks.length
 | [],[],_=>rfl
 | v::vs,k::ks,⟨_,r⟩=>by simp[EL r]
theorem wX:∀{vs ks},t8 h vs ks->∀i,i<vs.length->Vc h (vs.getD i Value.none) (ks.getD i d)
 | v::vs,k::ks,⟨x,r⟩,0,_=>x
 | v::vs,k::ks,⟨x,r⟩,i+1,a=>wX r i (by simpa using a)
theorem t8.at{h h':Heap}:∀{vs ks},t8 h vs ks->(∀a o,h.get? a=some o->h'.get? a=some o\/o.cls≠.type "tuple")->t8 h' vs ks
 | [],[],_,_=>trivial
 | v::vs,k::ks,⟨x,r⟩,e=>⟨x.at e,r.at e⟩
theorem Ky{P:PySem.Fin->Shared->Prop}(ho:s.heap.get? a=some (seqObj "list" vs.toArray n))(J:t8 s.heap vs ks)(Y:ks.Nodup)(y:vs.length<64)
  (h:∀r:List Nat,r.Perm (List.range vs.length)->(r.map λi=>pk (ks.getD i ("",0))).Pairwise (λa b=>Bf a b)->P (.done (.ret .none)) {s with heap:=sortedHeap s.heap a vs (r.map λi=>vs.getD i Value.none).toArray}) :
  wpAny (model prog w) A (Builtin.«list.sort» ⟨[.ref a],[]⟩) P E s:=by
 rw[list_sort_plain];have L:=aY ho;refine af (listItems_at ho rfl ?_);refine af (listUpdate_at ho rfl ?_);obtain⟨e1,M⟩:∃e1,(s.heap.update a (Obj.mapSeq λ_=>#[])).get? a=some (seqObj "list" #[] e1):=⟨_,get?_update_seq ho (λ_=>#[])⟩
 refine af (seqEpoch_at M rfl ?_);refine af (wpAny_newTuple ?_);refine af (wpAny_newList ?_);refine fM ?_;have keep:∀b o,s.heap.get? b=some o->b≠a->(((s.heap.update a (Obj.mapSeq λ_=>#[])).push (seqObj "tuple" vs.toArray 0)).push (seqObj "list" #[] 0)).get? b=some o:=λb o q k=>by
  have N:b<s.heap.objs.size:=aY q;rw[ql _ _ _ (by rw[size_push',vM];exact bH (BN N)),ql _ _ _ (by rw[vM];exact bH N),Heap.get?_update_ne _ _ _ _ k]
  exact q
 have c:(((s.heap.update a (Obj.mapSeq λ_=>#[])).push (seqObj "tuple" vs.toArray 0)).push (seqObj "list" #[] 0)).get? a=some (seqObj "list" #[] e1):=by
  rw[ql _ _ _ (by rw[size_push',vM];exact bH (BN L)),ql _ _ _ (by rw[vM];exact bH L)]
  exact M
 have g:=J.at (h':=((s.heap.update a (Obj.mapSeq λ_=>#[])).push (seqObj "tuple" vs.toArray 0)).push (seqObj "list" #[] 0)) λb o k=>by
  by_cases e:b=a
  · refine .inr ?_
    subst e;rw[ho]at k;cases k;show Value.type "list"≠_;simp
  · exact .inl (keep b o k e)
 show wpAny (model prog w) A _ P E {s with heap:=((s.heap.update a (Obj.mapSeq λ_=>#[])).push (seqObj "tuple" vs.toArray 0)).push (seqObj "list" #[] 0)}
 dsimp only
 by_cases l:vs.length<2
 · rw[if_pos (by simpa using l),if_pos (by simpa using l)]
   refine af (au ?_);rw[StateT.run_pure];refine af (au ?_);dsimp only
   refine af (seqEpoch_at c rfl ?_);refine af (listUpdate_at c rfl ?_ (hsz2:=by rw[Array.size_map];show(pairsOf vs).size<=_;rw[pairsOf_size,lD];lia))
   simp only[bne_self_eq_false,jM,fq];have R:=kas_range (vs.toArray.zip vs.toArray);rw[show(vs.toArray.zip vs.toArray).size=vs.length by simp]at R
   have e:=kat_snds (ks:=vs) (vs:=vs) (st:=SortSt.mk' general' (vs.toArray.zip vs.toArray) #[] 7 none) rfl R.symm;rw[e];refine au (h _ (.refl _) ?_);have hz:(List.range vs.length).length<2:=by simpa using l
   rw[List.pairwise_iff_getElem];intro i j f d m;have:j<(List.range vs.length).length:=by simpa using d
   lia
 rw[if_neg (by simpa using l),if_neg (by simpa using l)]
 obtain⟨fs,Z,f2,f3⟩:=zW (s:={s with heap:=((s.heap.update a (Obj.mapSeq λ_=>#[])).push (seqObj "tuple" vs.toArray 0)).push (seqObj "list" #[] 0)}) g
 refine af (kat_kind Z (by lia) (T:=.type "str") (λv hv=>?_) (by rfl) ?_)
 · obtain⟨a,t,rfl⟩:=f3 v hv
   exact .now
 refine af (jc (kat_run (Q:=λx u=>u={s with heap:=((s.heap.update a (Obj.mapSeq λ_=>#[])).push (seqObj "tuple" vs.toArray 0)).push (seqObj "list" #[] 0)}/\∃p:Array Nat,p.size=vs.length/\arrOf x=p.map (kas_item (vs.toArray.zip vs.toArray))/\failedOf x=none/\tD p vs.length/\GX (O:=H9) (λi=>pk (ks.getD i ("",0))) p vs.length)
  (G:=λp u=>u={s with heap:=((s.heap.update a (Obj.mapSeq λ_=>#[])).push (seqObj "tuple" vs.toArray 0)).push (seqObj "list" #[] 0)}/\tD p vs.length/\GX (O:=H9) (λi=>pk (ks.getD i ("",0))) p vs.length)
  rfl (by lia) y (λp x u B C a3 X=>⟨X.1,p,B,C,a3,X.2⟩) (Pb (O:=H9) (key:=λi=>pk (ks.getD i ("",0))) ⟨λf d hC=>Zx (wX g _ f) (wX g _ d) hC,λf d ne e=>?_⟩ (by lia) λr B C=>⟨rfl,B,C⟩)) ?_ λ_ _ e=>e)
 · have hl:=EL J
   have e:=CU e;rw[hl]at f d;rw[<-List.getElem_eq_getD (h:=f),<-List.getElem_eq_getD (h:=d)]at e;exact ne ((qy Y).mp e)
 rintro⟨⟨⟩,x⟩ u ⟨rfl,p,hp,D,hf,b1,b2⟩
 dsimp only
 refine af (seqEpoch_at c rfl ?_);have H:=kat_snds rfl D;have I:(List.toArray (p.toList.map λi=>vs.getD i Value.none)).size=vs.length:=by rw[eu,aj,ip,hp]
 rw[H];refine af (listUpdate_at c rfl ?_ (fj _) (bK (jb I) (by rw[lD];lia)))
 rw[hf];simp only[bne_self_eq_false,jM,fq];refine au (h p.toList b1 ?_);rw[List.pairwise_iff_getElem];intro i j f d m;simp only[aj,ip]at f d;have h:=b2 i j m (by lia)
 have h:Bf (pk (ks.getD (p.getD i 0) ("",0))) (pk (ks.getD (p.getD j 0) ("",0))):=d9 h;simpa[f,d]using h
end
section
variable {prog:Program} {w:World} {A:Around} {E:Value->Shared->Prop} {s:Shared} {a:Addr} {vs:List Value} {ks:List (Str×Int)} {Q:Value->Shared->Prop}
def Ve(prog:Program)(w:World)(A:Around)(s:Shared)(a:Addr)(vs:List Value):Prop:=∀{c:Around} {e:Value->Shared->Prop} {R:List Value->Shared->Prop},(A.handled=none->c.handled=none)->(∀d f,(∀b o,s.heap.get? b=some o->d.get? b=some o)->R vs {s with heap:=d,toks:=f})->wpAny (model prog w) c (collect (.ref a)) R e s
def GY(d:s.heap.IsList a vs.toArray)(hz:vs.length<64):Ve prog w A s a vs:=λ_ f=>collect_list d (f _ _ λb o e=>by
 have c:b<s.heap.objs.size:=aY e;rw[Heap.get?_update_ne _ _ _ _ (bH c),ql _ _ _ (bH c)];exact e) (by rw[lD];lia)
theorem CV(hc:Ve prog w A s a vs)(g:t8 s.heap vs ks)(j:ks.Nodup)(hz:vs.length<64)
  (h:∀(h1 h':Heap) (tk:Nat) (D:Addr) (r:List Nat) (e:Nat),(∀b o,s.heap.get? b=some o->h1.get? b=some o)->(∀b o,h1.get? b=some o->h'.get? b=some o)->h1.objs.size<=D->h'.get? D=some (seqObj "list" (r.map λi=>vs.getD i Value.none).toArray e)->r.Perm (List.range vs.length)->(r.map λi=>pk (ks.getD i ("",0))).Pairwise (λa b=>Bf a b)->Q (.ref D) {s with heap:=h',toks:=tk}) :
  wpAny (model prog w) A (call (.builtin "sorted") [.ref a]) Q E s:=by
 refine Calls.call_function_entry kind_sorted plain_sorted entry_sorted (args_sorted1 _) ?_;unfold Builtin.«sorted»;refine af (au ?_);refine af (hc (λk=>by simp[k]) λh' tk hk=>?_)
 refine af (wpAny_newList ?_ (by rw[lD];lia))
 have c:(h'.push (seqObj "list" vs.toArray 0)).get? h'.objs.size=some (seqObj "list" vs.toArray 0):=cO _ rfl;show wpAny _ _ _ _ _ {s with heap:=h'.push (seqObj "list" vs.toArray 0),toks:=tk}
 refine af (fM (iq slot_list_sort ⟨_,c,rfl⟩ entry_list_sort (Ky c (g.at λb o e=>.inl (bg _ (hk b o e))) j hz λr l m=>⟨_,rfl,?_⟩) (args_list_sort _)))
 obtain⟨e,p⟩:=sortedHeap_at c;refine au ⟨_,rfl,h h' _ tk h'.objs.size r e hk (λb o d=>?_) (aA _) p l m⟩
 have f:=aY d;rw[sortedHeap_old (bH f) (by rw[size_push'];exact BN f)]
 exact bg _ d
end
end PySem.W
namespace L2.U
open PySem PySem.Spec PyProof.Rows PySem.W
def CW:PV->Option (Str×Int)
 | .nd .ao [.str a,.int n]=>some (a,n)
 | _=>none
theorem rK(h:CW p=some k):p=.ao [.str k.1,.int k.2]:=by
 unfold CW at h;split at h
 ·cases h;rfl
 ·cases h
def kk(p:PV):List Nat×Int:=pk ((CW p).getD ("",0))
def Bg(a b:PV):Bool:=!decide (Bf (kk b) (kk a))
def rL(ps:List PV):List PV:=ps.mergeSort Bg
def CY(ps:List PV):Option PV:=(cb CW ps).bind λks=>if(ks.Nodup/\ps.length<64)then some (.lst (rL ps))else none
def t9(h:List ak)(p:PV):Option (List PV):=match qZ h p with
 | some a=>some a
 | none=>(gX h p).bind λq=>(CK q.2.k).map jA
def Kz(fe:Gx PV):Gx PV:=bnd fe λp=>hp λh=>(t9 h p).bind CY
theorem uY(a b c:PV)(h1:Bg a b=true)(h2:Bg b c=true):Bg a c=true:=by
 have x:=@KeyOrd.kle_trans H9 (kk a) (kk b) (kk c);simp only[KeyOrd.kle,H9]at x;simp only[Bg,qo]at *;exact x h1 h2
theorem uZ(a b:PV):(Bg a b || Bg b a)=true:=by
 have x:=@KeyOrd.klt_asymm H9 (kk a) (kk b);simp only[KeyOrd.kle,KeyOrd.klt,H9]at x;simp only[Bg,vW,qo];cases h:decide (Bf (kk a) (kk b))with
 | true=>exact .inl (x h)
 | false=>exact .inr rfl
theorem KA(c:CW a=some x)(d:CW b=some y)(h1:Bg a b=true)(h2:Bg b a=true):a=b:=by
 have z:=@KeyOrd.kle_antisymm H9 (kk a) (kk b);simp only[KeyOrd.kle,H9]at z;simp only[Bg,qo]at h1 h2;have e:=z h1 h2;simp only[kk,c,d,Option.getD_some]at e;have e:=CU e;rw[rK c,rK d,e]
theorem EM{ps c:List PV}(hp:c.Perm ps)(hk:∀p∈ps,∃k,CW p=some k)(e:c.Pairwise λa b=>Bg a b=true):c=rL ps:=by
 have d:=BF ps Bg;refine List.Perm.eq_of_pairwise (λa b f g h i=>?_) e (List.pairwise_mergeSort uY uZ ps) (hp.trans d.symm)
 obtain⟨x,j⟩:=hk a (hp.mem_iff.mp f);obtain⟨y,l⟩:=hk b (d.mem_iff.mp g);exact KA j l h i
theorem GZ{ps a:List PV}(hp:a.Perm ps)(hk:∀p∈ps,∃k,CW p=some k):rL a=rL ps :=
 EM ((BF a Bg).trans hp) hk (List.pairwise_mergeSort uY uZ a)
theorem KC:∀{ps:List PV} {ks:List (Str×Int)},cb CW ps=some ks->ps.length=ks.length/\∀i,i<ps.length->CW (ps.getD i .bj)=some (ks.getD i ("",0))
 | [],_,h=>by cases h;exact⟨rfl,λi a=>absurd a (BX i)⟩
 | p::ps,ks,h=>by
  obtain⟨k,r,b,c,rfl⟩:=dX h;obtain⟨d,e⟩:=KC c;refine⟨by simp[d],λi a=>?_⟩
  cases i with
  | zero=>exact b
  | succ i=>exact e i (by simpa using a)
theorem G0(ps:List PV):(List.range ps.length).map (λi=>ps.getD i .bj)=ps:=by
 refine List.ext_getElem (by simp) λi b a=>?_
 simp[a]
theorem Pc{r:List Nat}(h:cb CW ps=some ks)(e:r.Perm (List.range ps.length)) (hp:(r.map λi=>pk (ks.getD i ("",0))).Pairwise (λa b=>Bf a b)):(r.map λi=>ps.getD i .bj)=rL ps:=by
 obtain⟨k,d⟩:=KC h;have f:∀i∈r,i<ps.length:=λi c=>ez.mp (e.mem_iff.mp c)
 refine EM ((e.map _).trans (by rw[G0])) (λp hp=>?_) ?_
 ·obtain⟨i,c,rfl⟩:=qj hp;exact⟨_,by have:=d i c;simpa[c]using this⟩
 ·rw[List.pairwise_map]at hp ⊢;refine hp.imp_of_mem λ{i j} c g x=>?_
  simp only[Bg,kk,d _ (f i c),d _ (f j g),Option.getD_some];have z:=@KeyOrd.klt_asymm H9 (pk (ks.getD i ("",0))) (pk (ks.getD j ("",0)));simp only[KeyOrd.kle,KeyOrd.klt,H9]at z;rw[z (fg x)];rfl
section
variable {X:Cx} {aa:Hp} {ab:Fz} {e:Expr} {fe:Gx PV} {pos p:Pos} {ae:List (Addr×Obj)} {σ:St} {H:Hp} {s:Shared} {F:Fz}
theorem KD(I:Inv X ae σ H s)(b:cK F.F H):∀{ps:List PV} {ks:List (Str×Int)} {xs:List V} {vs:List Value},cb CW ps=some ks->aB X.K F ps xs->Vals xs vs->t8 s.heap vs ks
 | [],_,_,_,h,.nil,.nil=>by cases h;trivial
 | p::ps,ks,_,_,h,.cons c b2,.cons d f=>by
  obtain⟨k,r,g,i,rfl⟩:=dX h;refine⟨?_,KD I b i b2 f⟩;rw[rK g]at c;obtain⟨a,ws,rfl,sq,j⟩:=cq.mp c;obtain⟨C,D,rfl,l,m⟩:=jl j;cases cL.mp l;cases aH.mp m;obtain⟨E,q,⟨o,v,w,n,x⟩,_⟩:=I.tuple (bt b sq);obtain⟨J,L,rfl,y,B⟩:=q.two;cases d;obtain⟨t,rfl⟩:=y;obtain⟨u,rfl⟩:=B;exact⟨a,o,n,t,u,rfl,v,w,x⟩
theorem u0:∀(r:List Nat) {xs:List V} {vs:List Value},Vals xs vs->(∀i∈r,i<xs.length)->Vals (r.map λi=>xs.getD i .bj) (r.map λi=>vs.getD i Value.none)
 | [],_,_,_,_=>.nil
 | i::r,xs,vs,h,a=>.cons (by
  have b:=a i aD;obtain⟨u,c,d⟩:=h.get (bQ b);have e:xs.getD i .bj=xs[i]:=by simp[b]
  have f:vs.getD i Value.none=u:=by simp[c]
  show RelV (xs.getD i .bj) (vs.getD i Value.none);rw[e,f];exact d) (u0 r h λj g=>a j (aG _ g))
theorem zX{K:W.Frag}:∀(r:List Nat) {ps:List PV} {xs:List V},aB K F ps xs->(∀i∈r,i<ps.length)->aB K F (r.map λi=>ps.getD i .bj) (r.map λi=>xs.getD i .bj)
 | [],_,_,_,_=>.nil
 | i::r,ps,xs,h,a=>.cons (by
  have b:=a i aD;obtain⟨u,c,d⟩:=h.get (bQ b);have e:ps.getD i .bj=ps[i]:=by simp[b]
  have f:xs.getD i .bj=u:=by simp[c]
  show bN K F (ps.getD i .bj) (xs.getD i .bj);rw[e,f];exact d) (zX r h λj g=>a j (aG _ g))
theorem u3{Q:VK}{ps:List PV}{xs:List V}{vs:List Value}{q:PV}{st:cz}{a:Addr}(I:Inv X ae σ H s)(R:Rep X.K aa ab F st σ H)(d:aB X.K F ps xs)(f:Vals xs vs)(hc:Ve X.prog X.w X.A s a vs)(h1:CY ps=some q)
  (h2:∀b H' F',Rep X.K aa ab F' st σ H'->Gr F F'->bN X.K F' q b->Q b H'):wpAny (model X.prog X.w) X.A (call (.builtin "sorted") [.ref a]) (λv o=>∃x H',Inv X ae σ H' o/\RelV x v/\Q x H') E s:=by
 obtain⟨ks,e1,t⟩:=aR h1;obtain⟨⟨u,T⟩,rfl⟩:=aM t;have h:=d.length;have y:=f.length;refine CV hc (KD I R.sub e1 d f) u (by lia) λh1 Y B D r C J L j M c hp=>?_
 have k:=I.kept (t':=B) J;rw[<-y,<-h]at c;have l:∀i∈r,i<ps.length:=λi g=>ez.mp (c.mem_iff.mp g)
 have N:=k.hok.fresh j;obtain⟨R2,m⟩:=R.laid (.lst (r.map λi=>xs.getD i .bj)) N
 refine⟨.ref D,cx H D (.lst (r.map λi=>xs.getD i .bj)),k.laid L j ⟨?_,_,C,u0 r f λi g=>by rw[<-h];exact l i g,M⟩,rfl,h2 _ _ _ R2 m (gu.mpr ⟨_,_,rfl,kW.of aE,?_⟩)⟩
 ·rw[aj,c.length_eq,gD];exact bK (show ps.length<=64 by lia) (by decide)
 ·rw[<-Pc e1 c hp];exact(zX r d l).mono m
def Zy(hh:X.A.handled=none)(Zv:Gl X "sorted")(Zw:X.mg "sorted"=none)(he:PE X e (tE X aa ab fe))(N:starEach [e] X.env=[(false,eval e X.env)]) :
  PE X (.Call (.Name "sorted" p) [e] [] pos) (tE X aa ab (Kz fe)):=by
 rintro ae s σ H Q I ⟨F,st,Rp,h⟩
 have hA:=he ae s σ H (λv B=>∃F1 d q,Rep X.K aa ab F1 d σ B/\bN X.K F1 q v/\Tx X aa ab (bN X.K) F1 d (hp λh=>(t9 h q).bind CY) σ Q) I ⟨F,st,Rp,h.bnd λq v F1 d B f g1 m C=>⟨F1,d,q,f,m,C⟩⟩
 refine i8 (ld_blt I Zv Zw zQ ?_ (by decide) (by decide))
 refine Ik (zP N (thn hA λu s1 z9=>?_)) N rfl
 obtain⟨v,B,w,T,F1,d,q,f,m,C⟩:=z9;obtain⟨o,e0,k⟩:=C.hp;obtain⟨ps,e1,g⟩:=aR e0;cases i:qZ d.h q with
 | some qs =>
  rw[t9,i]at e1;cases e1;obtain⟨a,x,rfl,D,Y⟩:=f.at (iI i) m;cases T;obtain⟨aJ,r,pl,_⟩:=w.list (kW.sq D);refine u3 w f Y r (GY pl.isList ?_) g k;obtain⟨ks,e1,g⟩:=aR g;obtain⟨⟨hn,E⟩,_⟩:=aM g;rw[<-r.length,<-Y.length];exact E
 | none =>
  rw[t9,i]at e1;obtain⟨⟨n,c⟩,d1,l⟩:=aR e1;obtain⟨ks,d3,rfl⟩:=br l;obtain⟨rfl,WX,i⟩:=eY d1;obtain⟨a,D,rfl⟩:=c8.mp m;cases T;obtain⟨Z,cp⟩:=c;have l:CK Z=some ks:=d3;cases Z with
  | fu t tY =>
   cases t with
   | false=>cases l
   | true =>
    cases l;obtain⟨hf,ws,⟨x,k1,k2,k3,k4⟩,hv⟩:=f.c.cell n _ a WX D i;subst k3;obtain⟨E,hS,o,es,ep,e1,J,e3,e4,e5⟩:=w.hok a _ k1;have dd:Raw s1.heap a es ep:=⟨o,e1,J,e3⟩;have sz:=BS e4;refine u3 w f (vs:=x.map λz=>Value.ref z.2.1) (Kp k2) (Kq x _ (by simp) λj u hu=>?_) (λ{A' E' R} L hR=>W.kdu_collect (EJ hS) (L hh) dd (by rw[sz];exact E) λh' tk b hk rJ=>?_) g k
    ·rw[bG]at hu;obtain⟨z,M,rfl⟩:=il.mp hu;exact⟨z,M,rfl⟩
    ·have:=hR h' tk hk
     rwa [show b.toList=x.map λz=>Value.ref z.2.1 from ?_]
     refine List.ext_getElem? λj=>?_
     rw[Bz,bG];by_cases y:j<b.size
     ·obtain⟨en,h3,h5⟩:=rJ.2 j b[j] (by simp[y])
      rw[entry_at e4]at h3;obtain⟨z,M,rfl⟩:=il.mp h3;rw[lb y,M,<-h5];rfl
     ·rw[vF (qw y),iZ (by rw[<-sz,<-rJ.1];exact qw y)]
      rfl
  | _=>cases l
end
end L2.U
namespace PySem
def F.pB:isSubtype (.type "range_iterator") (.type "reversed")=pure false:=by rw[isSubtype_type];kernel_rfl
section
variable {prog:Program} {w:World} {A:Around} {E:Value->Shared->Prop} {s:Shared} {r:Addr} {j:Int} {t u v:Tok} {Q:Value->Shared->Prop}
def lN(j:Int):Obj:={cls:=.type "range_iterator",data:=.fields #[rawInt (0+(Builtin.Range.rangeSize 0 j 1-1)*1),rawInt (Builtin.Range.rangeSize 0 j 1),rawInt (-1)]}
def kM(b:IsRange s.heap r 0 j 1 t u v)(h1:-(2^62)<=j)(h2:j<2^62)
  (h:Q (.ref s.heap.objs.size) {s with heap:=s.heap.push (lN j)}):wpAny (model prog w) A (call (.builtin "range.__reversed__") [.ref r]) Q E s:=by
 have d:s.TypeIs (.ref r) "range":=⟨_,b,rfl⟩;refine iq BB d F.entry_range_reversed ?_ (F.args_range_reversed_1 _);unfold Builtin.«range.__reversed__»;refine af (gH (a:=Value.ref r) rfl ?_);refine af ?_;unfold Builtin.Range.rangeFields;refine af (gI b rfl (x:=.int 0 t) rfl ?_);refine af (gH (a:=some 0) rfl ?_);refine af (gI b rfl (x:=.int j u) rfl ?_);refine af (gH (a:=some j) rfl ?_);refine af (gI b rfl (x:=.int 1 v) rfl ?_);refine af (gH (a:=some 1) rfl ?_);refine au ?_;have c:(Builtin.Range.rangeFitsLong 0&&Builtin.Range.rangeFitsLong j&&Builtin.Range.rangeFitsLong 1&&Builtin.Range.rangeFitsLong (-1)&&Builtin.Range.rangeFitsLong (0-1)&&Builtin.Range.rangeFitsLong (Builtin.Range.rangeSize 0 j 1))=true:=by
  rw[rangeSize_one];unfold Builtin.Range.rangeFitsLong;simp only[aO,i9];split<;>lia
 dsimp only
 rw[c];simp only[Bool.not_true,jM,fq,jQ];exact af (gC (au ⟨_,rfl,h⟩))
def kN(b:IsRange s.heap r 0 j 1 t u v)(h1:-(2^62)<=j)(h2:j<2^62)
  (h:Q (.ref s.heap.objs.size) {s with heap:=s.heap.push (lN j)}):codeAny (model prog w) A (.call (.builtin "reversed.__new__") ⟨[.type "reversed",.ref r],[]⟩) (wants Q E) s:=by
 have c:s.TypeIs (.ref r) "range":=⟨_,b,rfl⟩;refine codeAny_of_tree ?_;show wpAny _ A.in1 (do checkBuiltinCall "reversed.__new__" ⟨[.type "reversed",.ref r],[]⟩;again (.builtin "reversed.__new__" ⟨[.type "reversed",.ref r],[]⟩)) _ _ s
 refine af (gH (F.newCall_reversed_1 _) (au ⟨plainId_quiet F.plain_reversed_new _,BU F.entry_reversed_new ?_⟩));rw[BE F.plain_reversed_new _];unfold Builtin.«reversed.__new__»;refine af (gH (newClass_reversed _) ?_)
 try dsimp only
 refine af (gH (a:=()) (by first | rfl | kernel_rfl) ?_)
 refine af (gH (a:=()) (by first | rfl | kernel_rfl) ?_)
 try dsimp only
 refine af (wpAny_specialOf c BB.lookup ?_)
 try dsimp only
 refine af (gH (BB.bind _) ?_)
 try dsimp only
 rw[if_neg (show ¬((Value.builtin "range.__reversed__"==Value.none)=true)from c5)]
 refine af (qF ?_);refine af (m:=runValue (.call (.builtin "range.__reversed__") ⟨[.ref r],[]⟩)) (show wpAny _ _ (call (.builtin "range.__reversed__") [.ref r]) _ _ _ from kM b h1 h2 ?_)
 first
 | exact au h
 | exact af (au (au h))
def kO(b:IsRange s.heap r 0 j 1 t u v)(h1:-(2^62)<=j)(h2:j<2^62)
  (h:Q (.ref s.heap.objs.size) {s with heap:=s.heap.push (lN j)}):wpAny (model prog w) A (call (.type "reversed") [.ref r]) Q E s:=by
 refine callType_other (U:="range_iterator") (Q₁:=λobj a=>obj=.ref s.heap.objs.size/\a={s with heap:=s.heap.push (lN j)}) (by decide +kernel) F.create_reversed ⟨_,_,F.mro_reversed⟩ F.made_reversed F.pB (F.typeCall_reversed_1 _) (kN b h1 h2 ⟨rfl,rfl⟩) ?_
 rintro obj a ⟨rfl,rfl⟩
 exact⟨⟨_,cO _ rfl,rfl⟩,h⟩
end
end PySem
namespace L2.U
open PySem PySem.Spec PyProof.Rows
def Itb(n:Nat):It:=⟨λi _=>i<n,λi H x a=>a=H/\x=.int ((n:Int)-1+i * -1),λi _=>n<=i⟩
def KH{P:Program}{w:World}{K:W.Frag}{C:Expr}(it:Addr)(n:Nat):Turn P w K C (Itb n) [it] it (λi h=>IsRangeIter h it ((n:Int)-1+(i:Nat) * -1) ((n:Int)-(i:Nat)) (-1)) where
 mem:=by simp
 obj:=λi h a b c=>by
  grind
 keep:=λi h f a k=>k it (by simp) _ a
 item:=by
  intro X g hw j hc i x s y H E I d a l;subst g hw j;obtain⟨m,p,D,q,r,u⟩:=d it (by simp)
  have W:=Walks.range (prog:=X.prog) (w:=X.w) (I.ok.hd hc) it ((n:Int)-1) (-1) n;refine W.item i s _ _ l a λv f J L B kk=>?_
  obtain⟨t,rfl⟩:=L;have M:Inv X x y H {s with heap:=f,toks:=J}:=I.turned (λb o c e=>kk b o (by grind) e) m p q r u
  exact⟨_,rfl,yO B rfl rfl (by decide) ⟨.int ((n:Int)-1+i * -1),H,M,⟨t,rfl⟩,⟨rfl,rfl⟩,B,λb c=>(d b c).1⟩⟩
 done:=by
  intro X g hw j hc i x s y H E I d a l;subst g hw j;obtain⟨m,p,D,q,r,u⟩:=d it (by simp)
  exact wpAny_pyNext_range_end (I.ok.hd hc) a (by have:n<=i:=l;lia) λf N=>⟨rfl,I.turned (λb o c e=>N b o c e) m p q r u⟩
 self:=λ_ _ _ _ _ a h=>Bv a h
def ua:bootBuiltins "reversed"=some (.type "reversed"):=by kernel_rfl
def G1:List PV->Option (List PV)
 | [.int j]=>if zD 0 j=true then some (jE 0 j.toNat).reverse else none
 | _=>none
def KI{K:W.Frag}{F:Fz}(n:Nat):Walk K F (jE 0 n).reverse (Itb n):=by
 intro f g c h j H R s i;have a:(jE 0 n).length=n:=by simp[jE]
 refine⟨λp e=>?_,λe=>?_⟩
 ·have b:i<(jE 0 n).reverse.length:=(bu.mp e).1;rw[BH,a]at b;rw[List.getElem?_reverse (by rw[a];exact b),a]at e
  unfold jE at e;rw[bG,lr (by lia)]at e
  cases e;exact⟨b,λx k ⟨d,y⟩=>by subst d y;exact⟨c,R,Gr.refl _,aH.mpr (cV V.int (by lia))⟩⟩
 ·have:=iY.mp e;rw[BH,a]at this;exact this
section
variable {X:Cx} {aa:Hp} {ab:Fz} {a tg:Expr} {ts:Gx (List PV)} {pos p zp wW:Pos}
def Zz(E:Gl X "reversed")(J:X.mg "reversed"=none)(g:Gl X "range")(i:X.mg "range"=none)(L:PA X [a] (tA X aa ab ts))(M:starEach [a] X.env=[(false,eval a X.env)]):PI X tg (.Call (.Name "reversed" p) [.Call (.Name "range" zp) [a] [] wW] [] pos) (tI X aa ab (ph G1 ts)):=by
 rintro w s σ H R I ⟨F,st,N,h⟩
 have Q:=L wW w s σ H (λk T=>∃x y j,k=[.int j]/\zD 0 j=true/\Rep X.K aa ab x y σ T/\∀b B l,Rep X.K aa ab l y σ B->Gr x l->Walk X.K l (jE 0 j.toNat).reverse b->R b B) I
  ⟨F,st,N,h.bnd λps k F1 C f m g1 Y Z=>by
   obtain⟨o,e,z⟩:=Z.jS;unfold G1 at e;split at e
   ·obtain⟨r,rfl⟩:=aM e;obtain⟨v,rfl,b⟩:=dG Y;rw[aH.mp b];exact⟨F1,C,_,rfl,r,m,z⟩
   ·cases e⟩
 refine Call_ (ld_blt I E J ua (ik (zP rfl ?_) rfl rfl));refine Call_ (ld_blt I g i qD (ik (thn Q λus c z9=>?_) M rfl))
 obtain⟨k,f,I1,r1,F1,C,j,ev,r,m,q⟩:=z9;subst ev;obtain⟨u1,rfl,t,rfl⟩:=jx r1;obtain⟨_,_,h3,h4⟩:=d9 r;refine call_range_1 (kO (v9 ..) h3 h4 ?_);have u:Inv X w σ f {c with heap:=c.heap.push {cls:=.type "range",data:=.fields #[.int 0 c.toks,.int j t,.int 1 (c.toks+1)]},toks:=c.toks+1+1}:=I1.kept λb o e=>bg _ e
 have d:IsRangeIter ((c.heap.push {cls:=.type "range",data:=.fields #[.int 0 c.toks,.int j t,.int 1 (c.toks+1)]}).push (lN j)) (c.heap.push {cls:=.type "range",data:=.fields #[.int 0 c.toks,.int j t,.int 1 (c.toks+1)]}).objs.size ((j.toNat:Int)-1+(0:Nat) * -1) ((j.toNat:Int)-(0:Nat)) (-1):=by
  have e2:Builtin.Range.rangeSize 0 j 1=(j.toNat:Int):=by rw[rangeSize_one];split<;>lia
  have e:=cO (c.heap.push {cls:=.type "range",data:=.fields #[.int 0 c.toks,.int j t,.int 1 (c.toks+1)]}) (o:=lN j) rfl
  rw[IsRangeIter,e,lN,e2];simp
 refine Bv d ?_;refine⟨_,[_],_,_,f,rfl,u.kept λb o e=>bg _ e,KH _ j.toNat,d,λb D=>?_,q _ f F1 m (Gr.refl _) (KI _)⟩
 rw[ax]at D;subst D;exact u.B6 (aA _) (u.hok.fresh (aA _))
end
section
variable {X:Cx}
def Pd(a:Operator):Option G2:=Uo a
def KJ{a:Operator}{g:G2}(h:Pd a=some g):uL X (binaryOp a) g:=by
 exact Oj h
end
structure Gm where
 sc:List (Str×NameKind)
 N:List Str
 own:Bool
 fns:List (Str×Nat)
 call:Str->nU
 cons:List (Str×PV)
 dk:List Str
 tabs:List (Str×List (Str×Str))
 cls:List (Str×Nat)
 make:Str->nU
 clss:List Str
 flds:List Str
 /-- what adV in a cell: 1 a list,2 a list of cells,10 a dict QN keys are tuples -/
 Xj:List (Str×Nat)
 tF:Option ((PV->Gx PV)->Nat->nU)
 wZ:Option (Nat×(PV->Gx PV))
def slot(a:Gm)(x:Str):Option Nat:=a.N.findIdx? (· == x)
noncomputable def Nv(a:Gm)(x:Str):Bool:=match a.sc.lookup x with | some .local=>true | some .cell=>true | some .free=>true | _=>false
noncomputable def W0(a:Gm)(x:Str):Bool:=match a.sc.lookup x with | some .local=>true | some .cell=>a.own | _=>false
noncomputable def yw(a:Gm)(x:Str):Bool:=match a.sc.lookup x with | some .globalImplicit=>true | _=>false
noncomputable def iu(x:Str):Bool:=!(x==("__debug__":Str))&&!(x==("__classdict__":Str))&&!(x==("__name__":Str))
noncomputable def md(a:Gm)(x:Str):Nat:=(a.Xj.lookup x).getD 0
def G3(m:Nat):Nat:=if m<10 then m-1 else 0
def Vf(X:Cx)(k:Nat)(a:List (Str×Nat))(call:Str->nU):Prop:=∀x n,a.lookup x=some n->∃j f b c,j<=k/\FnOk X.prog X.w X.K X.mg X.base (iH X.prog X.w) j f b c (GO X.K n (call x))/\X.mg x=some (.ref f)/\W.keepIn X.K (.ref f)=true/\gp X.K b c []
structure KN (Γ:Gm) (X:Cx) (rs:(PV->Gx PV)->Nat->nU):Prop where
 ex:∃(st:Stmt) (fs:Addr) (RG:FuncData) (pr Ns:List Str) (k:Nat) (rb:(PV->Gx PV)->Nat->Gx dE),rs=(λω n=>dO (rb ω n) Ns.length)/\BZ X.K "spread" "spread" st fs RG/\X.mg "spread"=some (.ref fs)/\gp X.K RG pr []/\dD Ns pr (aw st)/\pr.length=2/\dH (k+2) X.A /\
  (∀(cY:Value) (A:Around) (ay:List Env) (s:Shared) (H:Hp) (E:XK) (aa:Hp) (ab:Fz) (n:Nat) (ω:PV->Gx PV),dH (k+1) (A.deeper (envOfC "spread" (aw st) s.heap.objs.size fs cY))->zO (eZ (iH X.prog X.w) X.prog X.w X.K X.mg X.base Ns "spread" (aw st) fs cY A ay s H E) aa ab n ω ->
   PSs (eZ (iH X.prog X.w) X.prog X.w X.K X.mg X.base Ns "spread" (aw st) fs cY A ay s H E) (dm st) (tS (eZ (iH X.prog X.w) X.prog X.w X.K X.mg X.base Ns "spread" (aw st) fs cY A ay s H E) aa ab (rb ω n))) /\
  Vf X k Γ.fns Γ.call
 lam:RF X
structure GOk (Γ:Gm) (X:Cx) (aa:Hp) (ab:Fz):Prop where
 names:X.env.scope.names=Γ.sc
 N:X.N=Γ.N
 nd:X.N.Nodup
 kind:X.env.scope.kind=.function
 calm:X.calm=true
 hd:X.A.handled=none
 un:X.A.units+1150<cLine
 own:Γ.own=true->∀x,X.fn x=true
 fns:RD X Γ.fns Γ.call
 cons:∀x p,Γ.cons.lookup x=some p->∃u v,X.mg x=some u/\RelV v u/\∀F,bN X.K F p v
 dk:∀x,Γ.dk.contains x=true->X.mg x=none
 tabs:∀T rows,Γ.tabs.lookup T=some rows->EC X.K X.mg X.w.params T rows
 ns:∀x a,W.nsIn X.K mainGlobals x=some (some (.ref a))->X.mg x=some (.ref a)
 RJ:Kh X.K Γ.clss Γ.flds
 cls:∀C n,Γ.cls.lookup C=some n->∃k Ca f fd ps,ClsAt X.K C (.ref Ca)/\FQ X.K Ca/\Mk X.K Ca f/\FnOk X.prog X.w X.K X.mg X.base (iH X.prog X.w) k f fd ps (GO X.K n (Γ.make C))/\dH (k+1) X.A/\X.mg C=some (.ref Ca)/\gp X.K fd ps []
 tF:∀rs,Γ.tF=some rs->KN Γ X rs
 wZ:∀n ω,Γ.wZ=some (n,ω)->zO X aa ab n ω
def bD:Expr->Bool
 | .Starred _ _=>false
 | .Set _ _ _=>false
 | _=>true
def pV:Expr->Bool
 | .Slice _ _ _ _=>false
 | _=>true
def EN:Expr->Bool
 | .Tuple _ _ _=>false
 | .ListComp _ _ _ _=>false
 | .SetComp _ _ _ _=>false
 | .DictComp _ _ _ _ _=>false
 | _=>true
def lO:Expr->Bool
 | .ListComp _ _ _ _=>false
 | .SetComp _ _ _ _=>false
 | .DictComp _ _ _ _ _=>false
 | _=>true
def w5:Expr->Bool
 | .Name _ _=>true
 | .Subscript _ _ _=>true
 | .Attribute _ _ _=>true
 | .Call _ (_::_) _ _=>true
 | _=>false
def pW(h:w5 e=true):attributeBase e f env (eval e env)=eval e env:=by
 cases e with
 | Call f as ks=>cases as with
  | nil=>cases h
  | cons=>cases f<;>rfl
 | _=>first | rfl | cases h
def w6(h:EN e=true):lO e=true:=by
 cases e<;>first | rfl | cases h
def CZ:Expr->Bool
 | .UnaryOp .Not _ _=>false
 | .BoolOp _ _ _=>false
 | .IfExp _ _ _ _=>false
 | .Compare _ _ _ _=>false
 | _=>true
def bI(h:bD e=true)(b:List Expr)(a:Env):starEach (e::b) a=(false,eval e a)::starEach b a:=by
 cases e<;>first | rfl | cases h
def ia(h:bD e=true)(a:CmpOp):behindInMarks a e=false:=by
 cases e<;>first | rfl | cases h
def fP(h:bD e=true)(a:Env)(x:Value):foldedSetIterable e a x=pure x:=by
 cases e<;>first | rfl | cases h
def zY(h:pV e=true):pK e:=by
 intro o i;cases e<;>first | rfl | cases h
def KO(h:CZ e=true)(b:Env)(c:Sem Value):isTrue e b c=(do let v <-c;standAt e.pos;holding [v] (truthy v)):=by
 cases e with
 | UnaryOp op a p=>cases op<;>first | rfl | cases h
 | BoolOp _ _ _=>cases h
 | IfExp _ _ _ _=>cases h
 | Compare _ _ _ _=>cases h
 | _=>rfl
def ib(h:lO e=true)(t:Option Expr)(l:Nat)(a:Env):swapsWith e t l a=pure false:=by
 cases e<;>first | rfl | cases h
def ie(h:a.all bD=true)(b:Env)(pos:Pos):(backTo pos (starEach a b)).any (·.1)=false:=by
 induction a with
 | nil=>rfl
 | cons e a ih =>
  rw[gi,aO]at h;rw[bI h.1];exact ih h.2
def C4(h:a.all bD=true)(b:Env)(pos:Pos):(backTo pos (starEach a b)).all (λx=>!x.1)=true:=by
 induction a with
 | nil=>rfl
 | cons e a ih =>
  rw[gi,aO]at h;rw[bI h.1];exact ih h.2
def Pe(h:a.all bD=true)(b:a.length<30):((backTo cp (starEach a env)).all (λx=>!x.1)&&(backToKw cp (keywordEach [] env)).all (λx=>x.1.isSome)
   && decide (a.length+([]:List Keyword).length+(if([]:List Keyword).isEmpty then 0 else 1)<30))=true:=by
 rw[C4 h];simp only[Bool.true_and,aO,i9];exact⟨rfl,b⟩
def jZ(h:iu x=true):(x==("__debug__":Str))=false/\(x==("__classdict__":Str))=false/\x≠"__name__":=by
 unfold iu at h;simp only[aO,qo]at h;exact⟨h.1.1,h.1.2,by simpa using h.2⟩
noncomputable def w9:Nat->Gm->Expr->Option (Tg×List Nat)
 | 0,_,_=>none
 | n+1,b,e=>match e with
  | .Name x _=>if W0 b x=true then(slot b x).map λi=>(aV i,[i])else none
  | .Tuple c _ _=>(c.foldr (λe r=>(w9 n b e).bind λg=>r.map λa=>(cR g.1 a.1,g.2++a.2)) (some (lK,[]))).map λa=>(gj c.length a.1,a.2)
  | _=>none
def KP(h:slot a x=some i):a.N[i]?=some x:=by
 unfold slot at h;obtain⟨b,hp,_⟩:=Bj.mp h;rw[bQ b];exact cV some (bc hp)
section
variable {Γ:Gm} {X:Cx} {x:Str} {pos:Pos} {aa:Hp} {ab:Fz}
def GOk.adW(G:GOk Γ X aa ab)(h:Nv Γ x=true):Xu X.env.scope x:=by
 unfold Nv at h;unfold Xu;rw[G.names];split at h<;>simp_all
def GOk.Vg(G:GOk Γ X aa ab)(h:W0 Γ x=true):QR X.env.scope x/\(X.fn x=true\/X.env.scope.names.lookup x=some .local):=by
 unfold W0 at h;unfold QR;rw[G.names];split at h
 ·grind
 ·rename_i z;exact⟨.inr z,.inl (G.own h x)⟩
 ·cases h
def GOk.jG(G:GOk Γ X aa ab)(h:yw Γ x=true):Gl X x:=by
 unfold yw at h;show X.env.scope.names.lookup x=_;rw[G.names];split at h
 ·assumption
 ·cases h
def GOk.rM(G:GOk Γ X aa ab)(h:slot Γ x=some i):X.N[i]?=some x:=by
 rw[G.N];exact KP h
theorem kz(G:GOk Γ X aa ab):∀(n:Nat) (e:Expr) (g:Tg×List Nat),w9 n Γ e=some g->PG X e (tG X.K aa ab g.1)/\KG g.2 g.1/\(∀a:Env,(assignEach [e] a).map (·.2)=[assign e a])/\∀(b:List Expr) (a:Env),assignEach (e::b) a=(false,assign e a)::assignEach b a
 | 0,_,_,h=>by cases h
 | n+1,e,g,h=>by
  cases e with
  | Name x p =>
   have h:=h;obtain⟨j,h⟩:=bP h;obtain⟨i,z,rfl⟩:=br h;obtain⟨l,m⟩:=G.Vg j;exact⟨Uk i (Nr G.nd (G.rM z) l m),OF i,λ_=>rfl,λ_ _=>rfl⟩
  | Tuple b k p =>
   have all:∀b c,b.foldr (λe r=>(w9 n Γ e).bind λg=>r.map λc=>(cR g.1 c.1,g.2++c.2)) (some (lK,[]))=some c ->
     PGs X b (YD X.K aa ab c.1)/\YU c.2 c.1/\∀a:Env,(assignEach b a).length=b.length/\(assignEach b a).findIdx? (·.1)=none:=by
    intro b;induction b with
    | nil =>
     intro c h;cases h;exact⟨Ul,OG,λa=>⟨rfl,rfl⟩⟩
    | cons e b ih =>
     intro c h;rw[List.foldr_cons]at h;obtain⟨o,e1,h⟩:=aR h;obtain⟨q,z,rfl⟩:=br h;obtain⟨t,u,y,v⟩:=kz G n e o e1;obtain⟨f,b2,d⟩:=ih q z;refine⟨Ob t f (by grind),JS u b2,λa=>?_⟩
     rw[v];obtain⟨w,B⟩:=d a;exact⟨by rw[aN,aN,w],by grind⟩
   have h:=h;obtain⟨c,z,rfl⟩:=br h;obtain⟨f,b2,d⟩:=all b c z;exact⟨YE G.calm f (d _).1 (d _).2,UI b2,λ_=>rfl,λ_ _=>rfl⟩
  | _=>cases h
def u4(G:GOk Γ X aa ab)(a:iu x=true)(b:Nv Γ x=true)(c:slot Γ x=some i):PE X (.Name x pos) (Nh i) :=
 pe_var (G.rM c) (G.adW b) (jZ a).1 (jZ a).2.1
end
def xb(x:Str):Option GC :=
 if x==("len":Str)then some gK
 else if x==("tuple":Str)then some Gp
 else if x==("int":Str)then some Gq
 else if x==("sum":Str)then some Gu
 else if x==("str":Str)then some Gs
 else none
def KQ:bootBuiltins "sum"=some (.builtin "sum"):=by kernel_rfl
set_option maxHeartbeats 4000000 in
theorem Vh(h:xb x=some g)(j:X.A.handled=none)(b:Gl X x)(c:X.mg x=none)(d:PA X (a::i) (tA X k l m))
  (he:starEach (a::i) X.env=(false,eval a X.env)::starEach i X.env) (f:(backTo pos (starEach i X.env)).any (·.1)=false):PE X (.Call (.Name x p) (a::i) [] pos) (tE X k l (gw g m)):=by
 unfold xb at h;split at h
 ·rename_i e;cases h;have e:=bc e;subst e;exact(qR Gv b c PySem.boot_len d (by decide) (by decide) he f).imp λ_ _ _ h=>mq h
 ·split at h
  ·rename_i e;cases h;have e:=bc e;subst e;exact(nM Gw b c (kr .tuple) d (by decide) (by decide) he f).imp λ_ _ _ h=>mq h
  ·split at h
   ·rename_i e;cases h;have e:=bc e;subst e;exact(nM Gy b c (kr .int) d (by decide) (by decide) he f).imp λ_ _ _ h=>mq h
   ·split at h
    ·rename_i e;cases h;have e:=bc e;subst e;exact(qR (GA j) b c KQ d (by decide) (by decide) he f).imp λ_ _ _ h=>mq h
    ·split at h
     ·rename_i e;cases h;have e:=bc e;subst e;exact(nM Gz b c (kr .str) d (by decide) (by decide) he f).imp λ_ _ _ h=>mq h
     ·cases h
def xc:ScopeKind->Bool
 | .function=>true
 | _=>false
noncomputable def u5(a:Scope):List Str:=(a.names.filter λy=>match y.2 with | .local=>true | .free=>true | _=>false).map (·.1)
def gP(b:Gm)(a:Scope):List (Option Nat):=(u5 a).map λx=>match a.names.lookup x with | some .free=>slot b x | _=>none
noncomputable def C5(b:Gm)(a:Scope):List (Str×NameKind):=a.names.map fun(n,k)=>if(k==NameKind.free&&b.sc.lookup n==some .cell)then(n,NameKind.cell)else(n,k)
def u6(b:Gm)(a:Scope):Gm:={b with sc:=C5 b a,N:=u5 a,own:=false,tF:=none,wZ:=none}
def rN(b:Gm)(a:Scope)(L:List Nat):Bool :=
 xc a.kind&&a.names.all (λy=>match y.2 with
  | .cell=>false
  | .local=>(match a.names.lookup y.1 with | some .local=>true | _=>false)
  | .free=>(match b.sc.lookup y.1 with | some .cell=>true | some .free=>true | _=>false)
  | _=>true)&&decide (u5 a).Nodup&&L.all λi=>match(gP b a)[i]? with | some none=>true | _=>false
noncomputable def pX(a:Arguments):Option (Str×Pos):=match a.args with
 | [y]=>bif a.posonlyargs.isEmpty&&(a.vararg.isNone&&(a.kwonlyargs.isEmpty&&(a.kw_defaults.isEmpty&&(a.kwarg.isNone&&(a.defaults.isEmpty&&y.annotation.isNone)))))then some (y.arg,y.pos)else none
 | _=>none
def xf(h:pX args=some a):args=oneArg a.1 a.2:=by
 obtain⟨b,as,c,d,e,kw,f⟩:=args;rcases as with _ | ⟨⟨x,an,ap⟩,_ | _⟩
 ·cases h
 ·cases b;rotate_left;cases h;cases c;rotate_left;cases h;cases d;rotate_left;cases h;cases e;rotate_left;cases h;cases kw;rotate_left;cases h;cases f;rotate_left;cases h;cases an;rotate_left;cases h;cases h;rfl
 ·cases h
noncomputable def isFree(k:Option NameKind):Bool:=match k with | some .free=>true | _=>false
def xg(a:Scope):List Str:=(a.names.filter λy=>isFree (some y.2)).map (·.1)
def pY(b:Gm)(a:Scope):List (Option Nat):=(xg a).map (slot b)
def ZA(b:Gm)(x:Str)(a:Scope):Gm:={b with sc:=a.names,N:=x::xg a,own:=false,tF:=none,wZ:=none,cls:=[]}
def KR(b:Gm)(x:Str)(a:Scope):Bool :=
 xc a.kind&&!a.isCoroutine&&!a.isGenerator&&(match a.names.lookup x with | some .local=>true | _=>false)&&a.names.all (λy=>match y.2 with
  | .cell=>false
  | .free=>(match b.sc.lookup y.1 with | some .cell=>true | some .free=>true | _=>false)&&isFree (a.names.lookup y.1)
  | _=>true)&&decide (x::xg a).Nodup
section
variable {Γ:Gm} {X:Cx} {scope:Scope} {L:List Nat} {aa:Hp} {ab:Fz}
def mB(h:rN Γ scope L=true):scope.kind=.function/\(∀y∈scope.names,(match y.2 with
  | .cell=>false
  | .local=>(match scope.names.lookup y.1 with | some .local=>true | _=>false)
  | .free=>(match Γ.sc.lookup y.1 with | some .cell=>true | some .free=>true | _=>false)
  | _=>true)=true)/\(u5 scope).Nodup/\∀i∈L,(gP Γ scope)[i]?=some none:=by
 unfold rN at h;simp only[aO,gE,i9]at h;obtain⟨⟨⟨a,b⟩,c⟩,d⟩:=h;refine⟨?_,b,c,λi e=>?_⟩
 ·unfold xc at a;split at a
  ·assumption
  ·cases a
 ·grind
def C6(G:GOk Γ X aa ab)(h:rN Γ scope L=true):iQ X (u5 scope) (gP Γ scope) scope:=by
 obtain⟨c,d,f,g⟩:=mB h;refine⟨c,λy b z=>?_,λy b z=>?_,λy b z=>?_,by unfold gP;rw[aj],λi j x a e=>?_⟩
 ·grind
 ·grind
 ·have:=d y b;rw[z]at this;simp only at this;show X.env.scope.names.lookup y.1=_\/X.env.scope.names.lookup y.1=_;rw[G.names];split at this
  ·grind
  ·grind
  ·cases this
 ·unfold gP at a;rw[bG,e]at a;have a:(match scope.names.lookup x with | some .free=>slot Γ x | _=>none)=some j:=by grind
  split at a
  ·exact⟨G.rM a,by assumption⟩
  ·cases a
def KU(G:GOk Γ X aa ab)(h:rN Γ scope L=true)(C:Addr)(s:Shared)(H:Hp)(a:List Addr)(b:Hp)(c:Fz):GOk (u6 Γ scope) (cP X (u5 scope) scope C s H a) b c where
 names:=by
  show(relabel scope X.env).names=C5 Γ scope;have e:∀n,X.env.kindOf n=Γ.sc.lookup n:=λn=>by show X.env.scope.names.lookup n=_;rw[G.names]
  unfold C5 relabel;simp only[G.kind,e]
  congr 1
  funext y
  obtain⟨n,k⟩:=y;simp
 N:=rfl
 nd:=(mB h).2.2.1
 kind:=by
  exact(mB h).1
 calm:=G.calm
 hd:=G.hd
 un:=G.un
 own:=λz=>by cases z
 fns:=G.fns
 cons:=G.cons
 dk:=G.dk
 tabs:=G.tabs
 ns:=G.ns
 RJ:=G.RJ
 cls:=G.cls
 tF:=λ_ z=>by cases z
 wZ:=λ_ _ z=>by cases z
def KW{i:Nat}(h:(xg scope)[i]?=some y):(y,NameKind.free)∈scope.names:=by
 have a:=cZ h;unfold xg at a;obtain⟨z,b,rfl⟩:=az.mp a;obtain⟨c,d⟩:=b7.mp b;obtain⟨n,k⟩:=z;cases k<;>first | exact c | cases d
def G4(h:isFree k=true):k=some .free:=by
 unfold isFree at h;split at h
 ·rfl
 ·cases h
def G5{x:Str}(G:GOk Γ X aa ab)(h:KR Γ x scope=true):rH X x (xg scope) (pY Γ scope) scope/\(x::xg scope).Nodup:=by
 unfold KR at h;simp only[aO]at h;obtain⟨⟨⟨⟨⟨a,k⟩,l⟩,m⟩,e⟩,f⟩:=h;have b:=gE.mp e;refine⟨⟨?_,by grind,by grind,?_,λy c z=>?_,λy c z=>?_,?_,λi j y e1 d=>?_⟩,d9 f⟩
 ·unfold xc at a;split at a
  ·assumption
  ·cases a
 ·grind
 ·grind
 ·have:=b y c;rw[z]at this;simp only[aO]at this;have hk:X.env.kindOf y.1=Γ.sc.lookup y.1:=by show X.env.scope.names.lookup y.1=_;rw[G.names]
  rw[hk];have t:=this.1;split at t
  ·grind
  ·grind
  ·cases t
 ·unfold pY;rw[aj]
 ·have g:=KW d;have:=b _ g;simp only[aO]at this;refine⟨?_,G4 this.2⟩;unfold pY at e1;rw[bG,d]at e1;exact G.rM (cj e1)
def Pf(G:GOk Γ X aa ab)(hk:scope.kind=.function)(b:(x::xg scope).Nodup)(c:Vf X k Γ.fns Γ.call)
  {stack:List Env} (a:dH k (A.deeper (W.envX qual scope s.heap.objs.size d g cl))) (h:Hp) (i:Fz) :
  GOk (ZA Γ x scope) (Rf (iH X.prog X.w) X.prog X.w X.K X.mg X.base (x::xg scope) qual scope d g cl A stack s H E) h i where
 names:=rfl
 N:=rfl
 nd:=b
 kind:=hk
 calm:=rfl
 hd:=a.hd
 un:=by
  have:=a.un;show(A.deeper _).units+1150<cLine
  lia
 own:=λz=>by cases z
 fns:=λy n e=>let ⟨j,f,fd,l,m,o,p,q,r⟩:=c y n e;⟨j,f,fd,l,o,a.mono m,p,q,r⟩
 cons:=G.cons
 dk:=G.dk
 tabs:=G.tabs
 ns:=G.ns
 RJ:=G.RJ
 cls:=λ_ _ z=>by cases z
 tF:=λ_ z=>by cases z
 wZ:=λ_ _ z=>by cases z
end
def cJ{a:Type}:Gx a:=λ_=>none
section
variable {X:Cx} {aa:Hp} {ab:Fz} {e:Expr} {es:List Expr}
def u7{C:Prop}(h:tX X aa ab a cJ σ H Q):C:=by
 obtain⟨F,b,R,r,z,_⟩:=h;cases z
def bh:PE X e (tE X aa ab cJ):=λ_ _ _ _ _ _ h=>u7 h
def u9:PT X e (tT X aa ab cJ):=λ_ _ _ _ _ _ h=>u7 h
def KY:PW X e (tT X aa ab cJ):=λ_ _ _ _ _ _ _ h=>u7 h
def RK:PA X es (tA X aa ab cJ):=λ_ _ _ _ _ _ _ h=>u7 h
def EO{a:Expr}:PI X a e (GI X aa ab cJ):=λ_ _ _ _ _ _ h=>u7 h
end
def cC(m n:Nat)(g:nU)(as:List PV):Gx PV:=λa=>if((m==0)&&(a.h.isEmpty || ai as))=true then nW n g as a else CM n g as a
def adX(G:FnOk X.prog X.w X.K X.mg X.base (iH X.prog X.w) k f fd ps (GO X.K n g))(a:dH k X.A)(c:gp X.K fd ps []):OQ X f (cC m n g):=by
 rintro d H e F st σ h s Q as us i I R b r ⟨q,e1,j⟩
 unfold cC at e1;split at e1
 ·exact Y7 G a c d H e F st σ h s Q as us i I R b r ⟨q,e1,j⟩
 ·exact adq G a c d H e F st σ h s Q as us i I R b r ⟨q,e1,j⟩
def ZC(a:Gm):Expr->Nat
 | .Name x _=>G3 (md a x)
 | .Attribute _ f _=>G3 (md a f)
 | _=>0
def adY(a:Gm)(g:Str)(o:Expr):Nat:=if g==("get":Str)then 0 else ZC a o
def xh(e:Expr):Option {x:Option Expr×Option Expr // ∃p,e=.Slice x.1 x.2 none p}:=match e with
 | .Slice lo a none p=>some ⟨(lo,a),p,rfl⟩
 | _=>none
def adZ:Const->Gx PV
 | .int i=>aW (.int i)
 | .bool i=>aW (.bl i)
 | .none=>aW .bj
 | .str i=>aW (.str i)
 | _=>cJ
def Vi(a:Gm)(x:Str):Gx PV:=if iu x=true then(if Nv a x=true then(match slot a x with | some i=>rd i | none=>cJ)else if yw a x=true then(match a.cons.lookup x with | some p=>aW p | none=>cJ)else cJ)else cJ
noncomputable def C7(a:Expr):Option {x:Str×Expr×List Expr // ∃p q,a=.Call (.Name x.1 p) (x.2.1::x.2.2) [] q}:=match a with
 | .Call (.Name z p) (b::bs) [] q=>some ⟨(z,b,bs),p,q,rfl⟩
 | _=>none
noncomputable def KZ(a:Expr)(b:List Expr):Option {x:Str×Expr // b=[]/\∃p q,a=.Call (.Name x.1 p) [x.2] [] q}:=match a,b with
 | .Call (.Name z p) [e] [] q,[]=>some ⟨(z,e),rfl,p,q,rfl⟩
 | _,_=>none
def ig(a:Gm)(x:Str):Bool:=yw a x&&a.dk.contains x
mutual
noncomputable def bO:Nat->Gm->Nat->Expr->Gx PV
 | 0,_,_,_=>cJ
 | n+1,d,m,e=>match e with
  | .Constant c _ _=>adZ c
  | .Name x _=>Vi d x
  | .BinOp a op b _=>(match Pd op with | some g=>op2 g (bO n d 0 a) (bO n d 0 b) | none=>cJ)
  | .UnaryOp .Not a _=>Ua (bO n d 0 a)
  | .UnaryOp .USub a _=>zq (bO n d 0 a)
  | .BoolOp op i _=>K1 n d op i
  | .Compare a ops bs _=>Vj n d a ops bs
  | .IfExp c a b _=>dN (ub n d c) (bO n d m a) (bO n d m b)
  | .Tuple h _ _=>kF .ao (kQ n d m h)
  | .List h _=>(match m with | 0=>kF .lst (kQ n d 0 h) | _=>zf (kQ n d (G3 m) h))
  | .Dict [] [] _=>Ke (m==10)
  | .Subscript a b _=>Vk n d a b
  | .ListComp elt gens scope _=>Vl n d m elt gens scope
  | .Attribute o f _=>if w5 o=true then U2 f (bO n d 0 o)else cJ
  | .Call f (a::h) [] cp=>if(a::h).all bD=true then Vm n d m f a h cp else cJ
  | .Call (.Attribute o f ap) [] [] cp=>if(w5 o&&(ap.endLine==cp.line))=true then(if f==("isdigit":Str)then U5 (bO n d 0 o)else match CN f with | some w=>yv w.1 w.2 (bO n d 0 o) (aW []) | none=>cJ)else cJ
  | _=>cJ
termination_by structural n=>n
noncomputable def Vm:Nat->Gm->Nat->Expr->Expr->List Expr->Pos->Gx PV
 | 0,_,_,_,_,_,_=>cJ
 | n+1,b,m,f,a,c,cp=>match f with
  | .Name x _=>if iu x=true then(if yw b x=true then Vn n b m x a c else if Nv b x=true then K2 n b x a c else cJ)else cJ
  | .Subscript v k p=>zM b.fns b.call (bO n b 0 (.Subscript v k p)) (kQ n b 0 (a::c))
  | .Attribute o g ap=>if(w5 o&&(ap.endLine==cp.line)&&decide ((a::c).length<30))=true then(match EB g with | some w=>yv w.1 w.2 (bO n b 0 o) (kQ n b (adY b g o) (a::c)) | none=>cJ)else cJ
  | _=>cJ
termination_by structural n=>n
noncomputable def K2:Nat->Gm->Str->Expr->List Expr->Gx PV
 | 0,_,_,_,_=>cJ
 | n+1,b,x,a,c=>match c,slot b x,b.wZ with
  | [],some i,some o=>Ki i o.1 o.2 (bO n b 0 a)
  | _,_,_=>cJ
termination_by structural n=>n
noncomputable def Vn:Nat->Gm->Nat->Str->Expr->List Expr->Gx PV
 | 0,_,_,_,_,_=>cJ
 | n+1,b,m,x,a,c=>if x==("spread":Str)then K3 n b a c else match b.fns.lookup x with
  | some k=>bnd (kQ n b 0 (a::c)) (cC m k (b.call x))
  | none=>match b.cls.lookup x with
   | some k=>(match m with | 0=>mkP x k (b.make x) (kQ n b 0 (a::c)) | _=>cJ)
   | none=>if b.dk.contains x=true then(if x==("isinstance":Str)then K4 n b a c else if x==("sorted":Str)then K5 n b a c else if x==("dict":Str)then Vo n b a c else if x==("list":Str)then K6 n b m a c else match xb x with | some g=>gw g (kQ n b 0 (a::c)) | none=>cJ)else cJ
termination_by structural n=>n
noncomputable def K3:Nat->Gm->Expr->List Expr->Gx PV
 | 0,_,_,_=>cJ
 | n+1,b,a,d=>match d with
  | [.Lambda args body scope _]=>(match b.tF,pX args with
   | some rs,some c=>if KR b c.1 scope=true then Kj rs (bO n b 0 a) (bO n (ZA b c.1 scope) 0 body) (pY b scope)else cJ
   | _,_=>cJ)
  | _=>cJ
termination_by structural n=>n
noncomputable def K6:Nat->Gm->Nat->Expr->List Expr->Gx PV
 | 0,_,_,_,_=>cJ
 | n+1,b,m,a,c=>match c with
  | []=>(match C7 a with
   | some ⟨zs,_⟩=>if(zs.1==("range":Str)&&ig b zs.1&&(zs.2.1::zs.2.2).all bD)=true then lrg m (kQ n b 0 (zs.2.1::zs.2.2))else cJ
   | none=>Ko m (bO n b 0 a))
  | _=>cJ
termination_by structural n=>n
noncomputable def Vo:Nat->Gm->Expr->List Expr->Gx PV
 | 0,_,_,_=>cJ
 | n+1,b,a,c=>match c with
  | []=>(match a with
   | .BinOp l .Add r _=>EI (bO n b 0 l) (bO n b 0 r)
   | _=>cJ)
  | _=>cJ
termination_by structural n=>n
noncomputable def K5:Nat->Gm->Expr->List Expr->Gx PV
 | 0,_,_,_=>cJ
 | n+1,b,a,c=>match c with
  | []=>Kz (bO n b 0 a)
  | _=>cJ
termination_by structural n=>n
noncomputable def K4:Nat->Gm->Expr->List Expr->Gx PV
 | 0,_,_,_=>cJ
 | n+1,b,a,c=>match c with
  | [.Name t _]=>if ig b t=true then(match Em t with | some g=>Ux g (bO n b 0 a) | none=>cJ)else cJ
  | _=>cJ
termination_by structural n=>n
noncomputable def Vj:Nat->Gm->Expr->List CmpOp->List Expr->Gx PV
 | 0,_,_,_,_=>cJ
 | n+1,d,a,ops,bs=>match ops,bs with
  | [op],[b]=>if bD b=true then(match CD op with | some g=>op2 g (bO n d 0 a) (bO n d 0 b) | none=>cJ)else cJ
  | [op,e],[b,c]=>if bD c=true then(match CD op,CD e with | some g,some f=>chain g f (bO n d 0 a) (bO n d 0 b) (bO n d 0 c) | _,_=>cJ)else cJ
  | _,_=>cJ
termination_by structural n=>n
noncomputable def Vk:Nat->Gm->Expr->Expr->Gx PV
 | 0,_,_,_=>cJ
 | n+1,c,a,b=>match xh b with
  | some ⟨d,_⟩=>cutE (bO n c 0 a) (Ph n c d.1) (Ph n c d.2)
  | none=>if pV b=true then(match a with
   | .Name T p=>if(iu T&&yw c T)=true then(match c.tabs.lookup T with
    | some rows=>Kf (λk=>(rows.lookup k).map .fn) (bO n c 0 b)
    | none=>op2 bR (bO n c 0 (.Name T p)) (bO n c 0 b))else op2 bR (bO n c 0 (.Name T p)) (bO n c 0 b)
   | a=>op2 bR (bO n c 0 a) (bO n c 0 b))else cJ
termination_by structural n=>n
noncomputable def ub:Nat->Gm->Expr->Gx Bool
 | 0,_,_=>cJ
 | n+1,d,e=>match e with
  | .UnaryOp .Not a _=>zd (ub n d a)
  | .BoolOp op f _=>K8 n d op f
  | .Compare a [op] [b] _=>if bD b=true then(match CD op with | some g=>toB (op2 g (bO n d 0 a) (bO n d 0 b)) | none=>cJ)else cJ
  | .Compare a [op,h] [b,c] _=>if bD c=true then(match CD op,CD h with | some g,some i=>toB (chain g i (bO n d 0 a) (bO n d 0 b) (bO n d 0 c)) | _,_=>cJ)else cJ
  | e=>if CZ e=true then fX (bO n d 0 e)else cJ
termination_by structural n=>n
noncomputable def K1:Nat->Gm->BoolOp->List Expr->Gx PV
 | 0,_,_,_=>cJ
 | n+1,c,op,[a]=>bO n c 0 a
 | n+1,c,.And,a::b::r=>T9 (bO n c 0 a) (K1 n c .And (b::r))
 | n+1,c,.Or,a::b::r=>orG (bO n c 0 a) (K1 n c .Or (b::r))
 | _,_,_,_=>cJ
termination_by structural n=>n
noncomputable def K8:Nat->Gm->BoolOp->List Expr->Gx Bool
 | 0,_,_,_=>cJ
 | n+1,c,op,[a]=>ub n c a
 | n+1,c,.And,a::b::r=>dN (ub n c a) (K8 n c .And (b::r)) (aW false)
 | n+1,c,.Or,a::b::r=>dN (ub n c a) (aW true) (K8 n c .Or (b::r))
 | _,_,_,_=>cJ
termination_by structural n=>n
noncomputable def kQ:Nat->Gm->Nat->List Expr->Gx (List PV)
 | 0,_,_,_=>cJ
 | n+1,a,m,[]=>aW []
 | n+1,a,m,e::b=>if bD e=true then aq (bO n a m e) (kQ n a m b)else cJ
termination_by structural n=>n
noncomputable def Ph:Nat->Gm->Option Expr->Gx (Option Int)
 | 0,_,_=>cJ
 | n+1,a,none=>aW none
 | n+1,a,some e=>rh (bO n a 0 e)
termination_by structural n=>n
noncomputable def K9:Nat->Gm->Expr->Expr->Gx yu
 | 0,_,_,_=>cJ
 | n+1,c,f,e=>match e with
  | .Call (.Name x p) [a] [] cp=>if(x==("range":Str)&&ig c x&&bD a)=true then CJ (ph wR (kQ n c 0 [a]))
    else if(x==("enumerate":Str)&&ig c x&&bD a&&Rx f)=true then CJ (rD (bO n c 0 a))
    else if(x==("reversed":Str)&&ig c x)=true then(match KZ a []with | some ⟨d,_⟩=>if(d.1==("range":Str)&&ig c d.1&&bD d.2)=true then CJ (ph G1 (kQ n c 0 [d.2]))else cJ | none=>cJ)
    else jF (bO n c 0 (.Call (.Name x p) [a] [] cp))
  | .Call (.Name x p) [a,b] [] cp=>if(x==("range":Str)&&ig c x&&bD a&&bD b)=true then CJ (ph UK (kQ n c 0 [a,b]))
    else jF (bO n c 0 (.Call (.Name x p) [a,b] [] cp))
  | e=>if bD e=true then jF (bO n c 0 e)else cJ
termination_by structural n=>n
noncomputable def Vl:Nat->Gm->Nat->Expr->List Comprehension->Scope->Gx PV
 | 0,_,_,_,_,_=>cJ
 | n+1,a,m,elt,gens,scope=>match gens with
  | [⟨b,iter,ifs,0⟩]=>if bD iter=true then(match w9 n (u6 a scope) b with
   | some g=>if rN a scope g.2=true then(match ifs with
    | []=>di (m != 0) (gP a scope) (K9 n a b iter) (lM g.1 (bO n (u6 a scope) (G3 m) elt))
    | [c]=>di (m != 0) (gP a scope) (K9 n a b iter) (jD g.1 (ub n (u6 a scope) c) (bO n (u6 a scope) (G3 m) elt))
    | _=>cJ)else cJ
   | none=>cJ)else cJ
  | _=>cJ
termination_by structural n=>n
end
def CC(X:Cx)(d:Hp)(e:Fz)(c:Expr)(b:List Comprehension)(a:Scope)(p:Pos)(f:Gx PV):Prop:=PE X (.ListComp c b a p) (tE X d e f) /\
  ∀i x g sp,X.N[i]?=some x->X.env.scope.names.lookup x=some .local->swapsWith (.ListComp c b a p) (some (.Name x g)) sp.line X.env=pure true ->
   PS X (.Assign [.Name x g] (.ListComp c b a p) sp) (tS X d e (dh f (aV i)))
structure Snd (n:Nat):Prop where
 e:∀Γ X aa ab m e,GOk Γ X aa ab->PE X e (tE X aa ab (bO n Γ m e))
 f:∀Γ X aa ab m f a es cp,GOk Γ X aa ab->(a::es).all bD=true->PE X (.Call f (a::es) [] cp) (tE X aa ab (Vm n Γ m f a es cp))
 o:∀Γ X aa ab x a es p cp,GOk Γ X aa ab->(a::es).all bD=true->iu x=true->Nv Γ x=true->PE X (.Call (.Name x p) (a::es) [] cp) (tE X aa ab (K2 n Γ x a es))
 cn:∀Γ X aa ab m x a es p cp,GOk Γ X aa ab->(a::es).all bD=true->iu x=true->yw Γ x=true->PE X (.Call (.Name x p) (a::es) [] cp) (tE X aa ab (Vn n Γ m x a es))
 sp:∀Γ X aa ab a es p cp,GOk Γ X aa ab->(a::es).all bD=true->yw Γ "spread"=true->PE X (.Call (.Name "spread" p) (a::es) [] cp) (tE X aa ab (K3 n Γ a es))
 st:∀Γ X aa ab a es p cp,GOk Γ X aa ab->(a::es).all bD=true->yw Γ "sorted"=true->Γ.dk.contains "sorted"=true->PE X (.Call (.Name "sorted" p) (a::es) [] cp) (tE X aa ab (K5 n Γ a es))
 d:∀Γ X aa ab a es p cp,GOk Γ X aa ab->(a::es).all bD=true->yw Γ "dict"=true->Γ.dk.contains "dict"=true->PE X (.Call (.Name "dict" p) (a::es) [] cp) (tE X aa ab (Vo n Γ a es))
 li:∀Γ X aa ab m a es p cp,GOk Γ X aa ab->(a::es).all bD=true->yw Γ "list"=true->Γ.dk.contains "list"=true->PE X (.Call (.Name "list" p) (a::es) [] cp) (tE X aa ab (K6 n Γ m a es))
 is:∀Γ X aa ab a es p cp,GOk Γ X aa ab->(a::es).all bD=true->yw Γ "isinstance"=true->Γ.dk.contains "isinstance"=true->PE X (.Call (.Name "isinstance" p) (a::es) [] cp) (tE X aa ab (K4 n Γ a es))
 k:∀Γ X aa ab a ops bs p,GOk Γ X aa ab->PE X (.Compare a ops bs p) (tE X aa ab (Vj n Γ a ops bs))
 x:∀Γ X aa ab a b p,GOk Γ X aa ab->PE X (.Subscript a b p) (tE X aa ab (Vk n Γ a b))
 t:∀Γ X aa ab e,GOk Γ X aa ab->PT X e (tT X aa ab (ub n Γ e))
 b:∀Γ X aa ab op vs p,GOk Γ X aa ab->PE X (.BoolOp op vs p) (tE X aa ab (K1 n Γ op vs))
 w:∀Γ X aa ab op vs p,GOk Γ X aa ab->PW X (.BoolOp op vs p) (tT X aa ab (K8 n Γ op vs))
 a:∀Γ X aa ab m es,GOk Γ X aa ab->PA X es (tA X aa ab (kQ n Γ m es))
 l:∀Γ X aa ab e,GOk Γ X aa ab->PO X e (Ut X aa ab (Ph n Γ e))
 i:∀Γ X aa ab tg e,GOk Γ X aa ab->PI X tg e (GI X aa ab (K9 n Γ tg e))
 c:∀Γ X aa ab m elt gens scope p,GOk Γ X aa ab->CC X aa ab elt gens scope p (Vl n Γ m elt gens scope)
def pI{X:Cx}{a:Hp}{b:Fz}{e:Expr}{c:Prop} [Decidable c] {f g:Gx PV} (h:c->PE X e (tE X a b f)) (h':PE X e (tE X a b g)):PE X e (tE X a b (if c then f else g)):=by
 split
 ·exact h ‹_›
 ·exact h'
def pJ{X:Cx}{a:Hp}{b:Fz}{e:Expr}{c:Prop} [Decidable c] {f:Gx PV} (h:c->PE X e (tE X a b f)):PE X e (tE X a b (if c then f else cJ)):=pI h bh
def iS:PS X s (tS X a b cJ):=λ_ _ _ _ _ _ ⟨F,st,R,r,z,_⟩=>by cases z
def xi:PS X s (tS X a b (dh cJ g)):=λ_ _ _ _ _ _ ⟨F,st,R,r,z,_⟩=>by cases z
def ZD{a:Fz}:PO X e (Ut X b a cJ):=λ_ _ _ _ _ _ h=>u7 h
def La:Snd 0 where
 e:=λ_ _ _ _ _ _ _=>bh
 f:=λ_ _ _ _ _ _ _ _ _ _ _=>bh
 o:=λ_ _ _ _ _ _ _ _ _ _ _ _ _=>bh
 cn:=λ_ _ _ _ _ _ _ _ _ _ _ _ _ _=>bh
 sp:=λ_ _ _ _ _ _ _ _ _ _ _=>bh
 st:=λ_ _ _ _ _ _ _ _ _ _ _ _=>bh
 d:=λ_ _ _ _ _ _ _ _ _ _ _ _=>bh
 li:=λ_ _ _ _ _ _ _ _ _ _ _ _ _=>bh
 is:=λ_ _ _ _ _ _ _ _ _ _ _ _=>bh
 k:=λ_ _ _ _ _ _ _ _ _=>bh
 x:=λ_ _ _ _ _ _ _ _=>bh
 t:=λ_ _ _ _ _ _=>u9
 b:=λ_ _ _ _ _ _ _ _=>bh
 w:=λ_ _ _ _ _ _ _ _=>KY
 a:=λ_ _ _ _ _ _ _=>RK
 l:=λ_ _ _ _ _ _=>ZD
 i:=λ_ _ _ _ _ _ _=>EO
 c:=λ_ _ _ _ _ _ _ _ _ _=>⟨bh,λ_ _ _ _ _ _ _=>xi⟩
section
variable {n:Nat} (S:Snd n)
include S
def ZE(c:Gm)(X:Cx)(d:Hp)(f:Fz)(g:BoolOp)(vs:List Expr)(p:Pos)(G:GOk c X d f):PE X (.BoolOp g vs p) (tE X d f (K1 (n+1) c g vs)):=by
 match g,vs with
 | .And,[]=>exact bh
 | .Or,[]=>exact bh
 | .And,[a]=>exact IQ (S.e c X d f 0 a G)
 | .Or,[a]=>exact IQ (S.e c X d f 0 a G)
 | .And,a::b::r=>exact Yx (S.e c X d f 0 a G) (S.b c X d f .And (b::r) p G)
 | .Or,a::b::r=>exact acY (S.e c X d f 0 a G) (S.b c X d f .Or (b::r) p G)
def ZF(c:Gm)(X:Cx)(d:Hp)(e:Fz)(f:BoolOp)(vs:List Expr)(p:Pos)(G:GOk c X d e):PW X (.BoolOp f vs p) (tT X d e (K8 (n+1) c f vs)):=by
 match f,vs with
 | .And,[]=>exact KY
 | .Or,[]=>exact KY
 | .And,[a]=>exact Nj (S.t c X d e a G)
 | .Or,[a]=>exact Ta (S.t c X d e a G)
 | .And,a::b::r=>exact Yv (S.t c X d e a G) (S.w c X d e .And (b::r) p G)
 | .Or,a::b::r=>exact acX (S.t c X d e a G) (S.w c X d e .Or (b::r) p G)
def ZG(c:Gm)(X:Cx)(d:Hp)(f:Fz)(m:Nat)(b:List Expr)(G:GOk c X d f):PA X b (tA X d f (kQ (n+1) c m b)):=by
 match b with
 | []=>exact Yz
 | e::b =>
  unfold kQ;split
  ·rename_i hp;exact Ub (S.e c X d f m e G) (S.a c X d f m b G) (bI hp _ _)
  ·exact RK
def ZH(a:Gm)(X:Cx)(b:Hp)(c:Fz)(e:Option Expr)(G:GOk a X b c):PO X e (Ut X b c (Ph (n+1) a e)):=by
 match e with
 | none=>exact Uu
 | some e=>exact Uv (S.e a X b c 0 e G)
def ZI(h:Gm)(X:Cx)(d:Hp)(f:Fz)(a:Expr)(i:List CmpOp)(bs:List Expr)(p:Pos)(G:GOk h X d f):PE X (.Compare a i bs p) (tE X d f (Vj (n+1) h a i bs)):=by
 rcases i with _ | ⟨op,_ | ⟨l,_ | _⟩⟩<;>rcases bs with _ | ⟨b,_ | ⟨c,_ | _⟩⟩<;>try exact bh
 ·show PE X _ (tE X d f (ite _ _ _));split
  ·rename_i hp;split
   ·rename_i g j;exact Ys (ku G.un j) (S.e h X d f 0 _ G) (S.e h X d f 0 _ G) (ia hp _)
   ·exact bh
  ·exact bh
 ·show PE X _ (tE X d f (ite _ _ _));split
  ·rename_i hp;split
   ·rename_i g m j k;exact N7 (ku G.un j) (ku G.un k) (S.e h X d f 0 _ G) (S.e h X d f 0 _ G) (S.e h X d f 0 _ G) (ia hp _)
   ·exact bh
  ·exact bh
def ZJ(h:Gm)(X:Cx)(d:Hp)(f:Fz)(e:Expr)(G:GOk h X d f):PT X e (tT X d f (ub (n+1) h e)):=by
 have i:∀e,PT X e (tT X d f (if CZ e=true then fX (bO n h 0 e)else cJ)):=λe=>by
  split
  ·rename_i hp;exact Yu (S.e h X d f 0 _ G) λk=>KO hp _ k
  ·exact u9
 cases e with
 | UnaryOp op=>cases op with
  | Not=>exact Yw (S.t h X d f _ G)
  | _=>exact i _
 | BoolOp=>exact(S.w h X d f _ _ _ G).pt
 | Compare a ops bs =>
  rcases ops with _ | ⟨op,_ | ⟨m,_ | _⟩⟩<;>rcases bs with _ | ⟨b,_ | ⟨c,_ | _⟩⟩<;>try exact i _
  ·show PT X _ (tT X d f (ite _ _ _));split
   ·rename_i hp;split
    ·rename_i g j;exact Yt (ku G.un j) (S.e h X d f 0 _ G) (S.e h X d f 0 _ G) (ia hp _)
    ·exact u9
   ·exact u9
  ·show PT X _ (tT X d f (ite _ _ _));split
   ·rename_i hp;split
    ·rename_i g o j l;exact N8 (ku G.un j) (ku G.un l) (S.e h X d f 0 _ G) (S.e h X d f 0 _ G) (S.e h X d f 0 _ G) (ia hp _)
    ·exact u9
   ·exact u9
 | _=>exact i _
def Vp(b:Gm)(X:Cx)(d:Hp)(f:Fz)(a:Expr)(c:List Expr)(p cp:Pos)(G:GOk b X d f)(hp:(a::c).all bD=true)(g:yw b "sorted"=true)(h:b.dk.contains "sorted"=true):PE X (.Call (.Name "sorted" p) (a::c) [] cp) (tE X d f (K5 (n+1) b a c)):=by
 cases c with
 | nil =>
  rw[gi,aO]at hp;exact Zy G.hd (G.jG g) (G.dk _ h) (S.e b X d f 0 _ G) (bI hp.1 _ _)
 | cons=>exact bh
def ZK(b:Gm)(X:Cx)(c:Hp)(d:Fz)(a:Expr)(f:List Expr)(p cp:Pos)(G:GOk b X c d)(hp:(a::f).all bD=true)(g:yw b "dict"=true)(h:b.dk.contains "dict"=true):PE X (.Call (.Name "dict" p) (a::f) [] cp) (tE X c d (Vo (n+1) b a f)):=by
 rw[gi,aO]at hp;cases f with
 | cons=>exact bh
 | nil=>cases a with
  | BinOp l op=>cases op with
   | Add=>exact U8 G.hd (G.jG g) (G.dk _ h) (S.e b X c d 0 _ G) (S.e b X c d 0 _ G) rfl
   | _=>exact bh
  | _=>exact bh
def Vq(c:Gm)(X:Cx)(d:Hp)(f:Fz)(m:Nat)(a:Expr)(g:List Expr)(p cp:Pos)(G:GOk c X d f)(hp:(a::g).all bD=true)(j:yw c "list"=true)(k:c.dk.contains "list"=true):PE X (.Call (.Name "list" p) (a::g) [] cp) (tE X d f (K6 (n+1) c m a g)):=by
 rw[gi,aO]at hp;cases g with
 | cons=>exact bh
 | nil =>
  show PE X _ (tE X d f (match C7 a with | some ⟨zs,_⟩=>_ | none=>Ko m (bO n c 0 a)))
  rcases C7 a with _ | ⟨⟨z,b,bs⟩,q,r,rfl⟩
  ·exact Va G.hd (G.jG j) (G.dk _ k) (S.e c X d f 0 _ G) λ_=>bI hp.1 _ _
  ·refine pJ λhc=>?_
   simp only[ig,aO]at hc;obtain⟨⟨h,l,o⟩,i⟩:=hc;have h:=bc h;subst h;rw[gi,aO]at i;exact Zu G.hd (G.jG j) (G.dk _ k) (G.jG l) (G.dk _ o) (S.a c X d f 0 _ G) (bI i.1 _ _) (ie i.2 _ _)
def Vr(c:Gm)(X:Cx)(d:Hp)(f:Fz)(a:Expr)(b:List Expr)(p cp:Pos)(G:GOk c X d f)(hp:(a::b).all bD=true)(h:yw c "isinstance"=true)(i:c.dk.contains "isinstance"=true):PE X (.Call (.Name "isinstance" p) (a::b) [] cp) (tE X d f (K4 (n+1) c a b)):=by
 cases b with
 | nil=>exact bh
 | cons e b=>cases e with
  | Name t=>cases b with
   | cons=>exact bh
   | nil =>
    refine pJ λhc=>?_
    unfold ig at hc;rw[aO]at hc;rw[gi,aO]at hp;cases j:Em t with
    | none=>exact bh
    | some g=>exact ac2 j (G.jG h) (G.dk _ i) (G.jG hc.1) (G.dk _ hc.2) (S.e c X d f 0 a G) λb=>bI hp.1 b _
  | _=>exact bh
def ZL(c:Gm)(X:Cx)(d:Hp)(f:Fz)(a b:Expr)(p:Pos)(G:GOk c X d f):PE X (.Subscript a b p) (tE X d f (Vk (n+1) c a b)):=by
 show PE X _ (tE X d f (match xh b with | some ⟨i,_⟩=>_ | none=>_))
 rcases xh b with _ | ⟨⟨lo,j⟩,k,rfl⟩
 ·refine pJ λhp=>?_
  have g:=λa=>ac5 (pos:=p) G.un (S.e c X d f 0 a G) (S.e c X d f 0 b G) (zY hp)
  cases a with
  | Name T =>
   refine pI (λhc=>?_) (g _)
   rw[aO]at hc;cases h:c.tabs.lookup T with
   | some rows=>exact Zf (G.tabs _ rows h) (G.jG hc.2) (S.e c X d f 0 _ G) (zY hp) (jZ hc.1).1
   | none=>exact g _
  | _=>exact g _
 ·exact YJ (S.e c X d f 0 _ G) (S.l c X d f _ G) (S.l c X d f _ G)
def ZM(h:Gm)(X:Cx)(d:Hp)(g:Fz)(l e:Expr)(G:GOk h X d g):PI X l e (GI X d g (K9 (n+1) h l e)):=by
 have m:∀e,PI X l e (GI X d g (if bD e=true then jF (bO n h 0 e)else cJ)):=λe=>by
  split
  ·exact J3 (S.e h X d g 0 _ G)
  ·exact EO
 cases e with
 | Call f as ks=>cases f with
  | Name x p =>
   rcases as with _ | ⟨a,_ | ⟨b,_ | _⟩⟩<;>rcases ks with _ | _<;>try exact m _
   ·show PI X _ _ (GI X d g (ite _ _ _));split
    ·rename_i hc;simp only[ig,aO]at hc;obtain⟨⟨c,i,j⟩,hp⟩:=hc;have c:=bc c;subst c;exact OM <| JY (G.jG i) (G.dk _ j) (S.a h X d g 0 _ G) (bI hp _ _)
    ·split
     ·rename_i hc;simp only[ig,aO]at hc;obtain⟨⟨⟨c,i,j⟩,hp⟩,ht⟩:=hc;have c:=bc c;subst c;exact OM <| adn ht (G.jG i) (G.dk _ j) (S.e h X d g 0 _ G) (bI hp _ _)
     ·split
      ·rename_i hc;simp only[ig,aO]at hc;obtain⟨c,i,j⟩:=hc;have c:=bc c;subst c;rcases KZ a []with _ | ⟨⟨z,e⟩,_,r,t,rfl⟩
       ·exact EO
       ·show PI X _ _ (GI X d g (ite _ _ _));split
        ·rename_i hc;simp only[ig,aO]at hc;obtain⟨⟨c,o,q⟩,k⟩:=hc;have c:=bc c;subst c;exact OM <| Zz (G.jG i) (G.dk _ j) (G.jG o) (G.dk _ q) (S.a h X d g 0 _ G) (bI k _ _)
        ·exact EO
      ·exact J3 (S.e h X d g 0 _ G)
   ·show PI X _ _ (GI X d g (ite _ _ _));split
    ·rename_i hc;simp only[ig,aO]at hc;obtain⟨⟨⟨c,i,j⟩,hp⟩,k⟩:=hc;have c:=bc c;subst c;exact OM <| JZ (G.jG i) (G.dk _ j) (S.a h X d g 0 _ G) (by rw[bI hp,bI k];rfl) (bI k _ _)
    ·exact J3 (S.e h X d g 0 _ G)
  | _=>exact m _
 | _=>exact m _
def Pk:CC X a b elt gens scope p cJ:=⟨bh,λ_ _ _ _ _ _ _=>xi⟩
def cI{c:Prop} [Decidable c] (h:c->CC X a b elt gens scope p f):CC X a b elt gens scope p (if c then f else cJ):=by
 split
 ·exact h ‹_›
 ·exact Pk
def ZN(l:Gm)(X:Cx)(d:Hp)(f:Fz)(m:Nat)(j:Expr)(b:List Comprehension)(a:Scope)(p:Pos)(G:GOk l X d f):CC X d f j b a p (Vl (n+1) l m j b a):=by
 rcases b with _ | ⟨⟨o,iter,ifs,(_ | _) | _⟩,_ | _⟩<;>try exact Pk
 refine cI λhp=>?_
 cases J:w9 n (u6 l a) o with
 | none=>exact Pk
 | some g =>
  refine cI λhc=>?_
  have q:=C6 G hc;have r:=(mB hc).2.2.2;have u:=KU G hc;have v:=S.i l X d f o iter G;have w:=λC s H k=>(kz (u C s H k d f) n o g J).1
  have y:=(kz (u 0 X.s₀ X.aa [] d f) n o g J).2.1;have he:=λC s H k=>S.e _ _ _ _ (G3 m) j (u C s H k d f)
  rcases ifs with _ | ⟨c,_ | _⟩
  ·exact⟨(Es G.calm q v (pb1 w he) (fP hp _)).imp λB H Q h=>J4 y r h,λi x L sp E I hw=>(Et G.calm G.nd E I q v (pb1 w he) hw (fP hp _)).imp λD B H h=>J4 y r (pP h)⟩
  ·have ht:=λC s H k=>S.t _ _ _ _ c (u C s H k d f)
   exact⟨(Es G.calm q v (pb2 w he ht) (fP hp _)).imp λB H Q h=>J5 y r h,λi x L sp E I hw=>(Et G.calm G.nd E I q v (pb2 w he ht) hw (fP hp _)).imp λD B H h=>J5 y r (pP h)⟩
  ·exact Pk
def ZO(b:Gm)(X:Cx)(c:Hp)(d:Fz)(x:Str)(a:Expr)(f:List Expr)(p cp:Pos)(G:GOk b X c d)(hp:(a::f).all bD=true)(g:iu x=true)(h:Nv b x=true):PE X (.Call (.Name x p) (a::f) [] cp) (tE X c d (K2 (n+1) b x a f)):=by
 rw[gi,aO]at hp;cases f with
 | cons=>exact bh
 | nil =>
  show PE X _ (tE X c d (match([]:List Expr),slot b x,b.wZ with | [],some i,some o=>_ | _,_,_=>cJ))
  cases j:slot b x with
  | none=>exact bh
  | some=>cases k:b.wZ with
   | none=>exact bh
   | some o=>exact Zl (G.wZ o.1 o.2 k) (u4 G g h j) (S.e b X c d 0 a G) (bI hp.1 _ _)
def Vs(b:Gm)(X:Cx)(c:Hp)(d:Fz)(a:Expr)(f:List Expr)(p cp:Pos)(G:GOk b X c d)(hp:(a::f).all bD=true)(q:yw b "spread"=true):PE X (.Call (.Name "spread" p) (a::f) [] cp) (tE X c d (K3 (n+1) b a f)):=by
 rcases f with _ | ⟨e,_ | _⟩
 ·exact bh
 ·cases e with
  | Lambda args body scope =>
   show PE X _ (tE X c d (match b.tF,pX args with | some rs,some r=>_ | _,_=>cJ))
   cases t:b.tF with
   | none=>exact bh
   | some rs=>cases u:pX args with
    | none=>exact bh
    | some r =>
     refine pJ λhc=>?_
     rw[gi,aO]at hp;obtain rfl:=xf u;obtain⟨j,g⟩:=G5 G hc;obtain⟨⟨E,fs,I,J,M,k,N,rfl,D,v,w,h,i,x,y,B⟩,L⟩:=G.tF rs t;exact Kk D v w h i L (G.jG q) x (S.e b X c d 0 a G) (bI hp.1 _ _) j y λl Q R cl A stack s H m o C=>S.e _ _ m o 0 _ (Pf G j.kind g B C m o)
  | _=>exact bh
 ·cases e<;>exact bh
def ZP(b:Gm)(X:Cx)(l:Hp)(o:Fz)(m:Nat)(x:Str)(a:Expr)(e:List Expr)(p cp:Pos)(G:GOk b X l o)(hp:(a::e).all bD=true)(I:iu x=true)(q:yw b x=true):PE X (.Call (.Name x p) (a::e) [] cp) (tE X l o (Vn (n+1) b m x a e)):=by
 have t:=hp;rw[gi,aO]at t;obtain⟨E,T,Y⟩:=jZ I;have u:=S.a b X l o 0 (a::e) G;have v:=bI t.1 e X.env;have w:=ie t.2 X.env cp;refine pI (λi=>?_) ?_
 ·cases bc i;exact S.sp b X l o a e p cp G hp q
 cases hk:b.fns.lookup x with
 | some k =>
  obtain⟨j,f,J,L,F,y,B,C,N⟩:=G.fns _ k hk;exact UU (adX F y N) (G.jG q) B C u E v w
 | none=>cases hk:b.cls.lookup x with
  | some k=>cases m with
   | zero =>
    obtain⟨j,Z,f,J,L,R,c,M,F,y,B,C⟩:=G.cls _ k hk;exact(NO (p:=p) M F y (G.jG q) B C .nil y0 u E v w).imp λσ H Q h=>OZ R c h
   | succ=>exact bh
  | none =>
   refine pJ λr=>pI (λi=>?_) (pI (λi=>?_) (pI (λi=>?_) (pI (λi=>?_) ?_)))
   ·cases bc i;exact S.is b X l o a e p cp G hp q r
   ·cases bc i;exact S.st b X l o a e p cp G hp q r
   ·cases bc i;exact S.d b X l o a e p cp G hp q r
   ·cases bc i;exact S.li b X l o m a e p cp G hp q r
   cases D:xb x with
   | some g=>exact Vh D G.hd (G.jG q) (G.dk _ r) u v w
   | none=>exact bh
def ZQ(b:Gm)(X:Cx)(c:Hp)(d:Fz)(m:Nat)(f a:Expr)(h:List Expr)(cp:Pos)(G:GOk b X c d)(hp:(a::h).all bD=true):PE X (.Call f (a::h) [] cp) (tE X c d (Vm (n+1) b m f a h cp)):=by
 have i:=hp;rw[gi,aO]at i;cases f with
 | Name=>exact pJ λj=>pI (λk=>S.cn b X c d m _ a h _ cp G hp j k) (pJ λl=>S.o b X c d _ a h _ cp G hp j l)
 | Subscript=>exact OY G.fns G.ns (S.e b X c d 0 _ G) (S.a b X c d 0 _ G) (bI i.1 _ _) (ie i.2 _ _)
 | Attribute o g ap =>
  refine pJ λhc=>?_
  simp only[aO,i9]at hc;cases hw:EB g with
  | none=>exact bh
  | some w=>exact ads G.un hw (S.e b X c d 0 _ G) (S.a b X c d _ _ G) (pW hc.1.1) (Pe hp hc.2) hc.1.2 (bI i.1 _ _) (ie i.2 _ _)
 | _=>exact bh
def ZR(j:Gm)(X:Cx)(d:Hp)(h:Fz)(m:Nat)(e:Expr)(G:GOk j X d h):PE X e (tE X d h (bO (n+1) j m e)):=by
 cases e with
 | Constant c=>cases c<;>first | exact bh | exact Yq | exact acV | exact Yp | exact Yr
 | Name x =>
  show PE X _ (tE X d h (Vi j x));unfold Vi;split
  ·rename_i o;split
   ·rename_i p;split
    ·rename_i i r;exact Rj i (u4 G o p r)
    ·exact bh
   ·split
    ·rename_i y;split
     ·rename_i q B;obtain⟨u,v,C,D,E⟩:=G.cons _ q B;exact za (D2 (G.jG y) C D (jZ o).1) E
     ·exact bh
    ·exact bh
  ·exact bh
 | BinOp a op b =>
  show PE X _ (tE X d h (match Pd op with | some g=>op2 g (bO n j 0 a) (bO n j 0 b) | none=>cJ))
  cases H:Pd op with
  | none=>exact bh
  | some=>exact acW (KJ H) (S.e j X d h 0 _ G) (S.e j X d h 0 _ G)
 | UnaryOp op=>cases op with
  | Not=>exact Yy (S.e j X d h 0 _ G)
  | USub=>exact YM (S.e j X d h 0 _ G)
  | _=>exact bh
 | BoolOp=>exact S.b j X d h _ _ _ G
 | Compare=>exact S.k j X d h _ _ _ _ G
 | IfExp=>exact acZ (S.t j X d h _ G) (S.e j X d h m _ G) (S.e j X d h m _ G)
 | Tuple=>exact YA (S.a j X d h m _ G)
 | List=>cases m with
  | zero=>exact YB (S.a j X d h 0 _ G)
  | succ=>exact Uc (S.a j X d h _ _ G)
 | Dict ks I=>rcases ks with _ | _<;>rcases I with _ | _<;>first | exact Ze _ | exact bh
 | Subscript=>exact S.x j X d h _ _ _ G
 | ListComp=>exact(S.c j X d h m _ _ _ _ G).1
 | Attribute =>
  show PE X _ (tE X d h (ite _ _ _));split
  ·rename_i J;exact Zg (S.e j X d h 0 _ G) (pW J)
  ·exact bh
 | Call f as ks=>cases as with
  | cons=>cases ks with
   | cons=>exact bh
   | nil =>
    show PE X _ (tE X d h (ite _ _ _));split
    ·rename_i hp;exact S.f j X d h m _ _ _ _ G hp
    ·exact bh
  | nil=>cases ks with
   | cons=>cases f<;>exact bh
   | nil=>cases f with
    | Attribute =>
     show PE X _ (tE X d h (ite _ _ _));split
     ·rename_i hc;rw[aO]at hc;split
      ·rename_i l;have l:=bc l;subst l;exact Zo (S.e j X d h 0 _ G) (pW hc.1) hc.2
      split
      ·rename_i w hw;exact Zb hw (S.e j X d h 0 _ G) (pW hc.1) hc.2
      ·exact bh
     ·exact bh
    | _=>exact bh
 | _=>exact bh
end
theorem snd:∀n:Nat,Snd n
 | 0=>La
 | n+1 =>
  have S:=snd n
  ⟨ZR S,ZQ S,ZO S,ZP S,Vs S,Vp S,ZK S,Vq S,Vr S,ZI S,ZL S,ZJ S,ZE S,ZF S,ZG S,ZH S,ZM S,ZN S⟩
structure SOk (Γ:Gm) (X:Cx) (aa:Hp) (ab:Fz):Prop extends GOk Γ X aa ab where
 never:PassesOwn (model X.prog X.w) X.A X.env X.xe
def Vt:Expr->Bool
 | .ListComp _ _ _ _=>true
 | _=>false
def Pl:G2:=q8 (λ_ _=>true) λi j=>.int (i+j)
def Vu:Operator->Option G2
 | .Add=>some Pl
 | _=>none
noncomputable def sI{c:Prop} [Decidable c] (h:c->PS X e (tS X a b f)):PS X e (tS X a b (if c then f else cJ)):=by
 split
 ·exact h ‹_›
 ·exact iS
section
variable {Γ:Gm} {X:Cx} {x:Str} {p sp:Pos} {e:Expr} {op:Operator} {i:Nat} {aa:Hp} {ab:Fz} {fe:Gx PV} {g:G2}
def Pm(h:Vu op=some g):uL X (inplaceOp op) g:=by
 cases op<;>cases h
 exact gv (zh NA) (λ_ _ _=>trivial) λ_ _ _=>aH.mpr rfl
def Pn{st:cz}(h:rd i st=some r):∃p,st.ρ[i]?=some (some p)/\r=(.ok p,st):=by
 obtain⟨p,e1,a⟩:=br h;cases z:st.ρ[i]? with
 | none=>rw[z]at e1;cases e1
 | some o =>
  rw[z]at e1;cases o with
  | none=>cases e1
  | some b=>cases e1;exact⟨p,rfl,a.symm⟩
def ZS(ho:uL X (inplaceOp op) g)(he:PE X e (tE X aa ab fe))(hN:X.N.Nodup)(b:X.N[i]?=some x)(c:QR X.env.scope x)(d:X.fn x=true\/X.env.scope.names.lookup x=some .local):PS X (.AugAssign (.Name x p) op e sp) (tS X aa ab (dh (op2 g (rd i) fe) (aV i))):=by
 refine(To hN b c he (λf s a H x y v u Q I j m t=>ho f s a H x y v u Q I j m t) d).imp λD a H h=>?_
 obtain⟨F,o,R,h⟩:=pP h;obtain⟨r,e1,B⟩:=At.bnd h;obtain⟨q,C,rfl⟩:=Pn e1;obtain⟨v,E,J⟩:=R.l.av i q C;refine⟨v,E,F,o,R,Tx.bnd (B) λy w F1 L H1 M T Y Z=>?_⟩
 obtain⟨z,hz,k⟩:=Z.hp;exact⟨aa,ab,F1,L,a,q,y,z,hz,M,J.mono T,Y,k⟩
def zZ(G:GOk Γ X aa ab)(b:slot Γ x=some i)(c:W0 Γ x=true)(he:PE X e (tE X aa ab fe))(a:swapsWith e (some (.Name x p)) sp.line X.env=pure false):PS X (.Assign [.Name x p] e sp) (tS X aa ab (dh fe (aV i))):=by
 obtain⟨d,f⟩:=G.Vg c;exact(Tn G.nd (G.rM b) d he a f).imp λD j H h=>pP h
def C8 :
  (swapsWith (.ListComp elt gens scope cp) (some (.Name x p)) sp.line X.env=pure true/\X.env.scope.names.lookup x=some .local)\/swapsWith (.ListComp elt gens scope cp) (some (.Name x p)) sp.line X.env=pure false:=by
 have e:swapsWith (.ListComp elt gens scope cp) (some (.Name x p)) sp.line X.env=pure (X.env.blockKind==.function&&X.env.kindOf x==some .local&&p.line==(Expr.ListComp elt gens scope cp).pos.line&&!(scope.names.any fun(n,k)=>n==x&&(k==.local || k==.cell))):=rfl
 rw[e];cases a:(X.env.blockKind==.function&&X.env.kindOf x==some .local&&p.line==(Expr.ListComp elt gens scope cp).pos.line&&!(scope.names.any fun(n,k)=>n==x&&(k==.local || k==.cell)))with
 | true =>
  refine .inl ⟨rfl,?_⟩;simp only[aO]at a;exact bc a.1.1.2
 | false=>exact .inr rfl
def G6(h:(lO e || Vt e)=true)(l:Nat)(b:Env):swapsWith e (some (.Attribute a x p)) l b=pure false:=by
 cases e<;>first | rfl | cases h
def C9(h:pV k=true)(a:Env)(v:Value):assign (.Subscript o k p) a v=(do
   let b <-holding [v] (eval o a)
   let c <-holding [v,b] (eval k a)
   standAt p
   holding [v,b,c] (setItem b c v)
   release [v,b,c] []):=by
 cases k<;>first | rfl | cases h
def Dc(a:Env):swappedStores [.Subscript o k p] e a=pure none:=by
 cases e<;>rfl
end
def ZT:Nat:=8000000
def isD(a:Gm):Expr->Bool
 | .Name x _=>md a x==10
 | _=>false
def RET:Str:="[return]"
def asName(n:Nat)(a:Gm)(x:Str)(e:Expr):Gx dE:=if(W0 a x&&(lO e || Vt e))=true then(match slot a x with | some i=>dh (bO n a (md a x) e) (aV i) | none=>cJ)else cJ
noncomputable def RL(n:Nat)(a:Gm)(b e:Expr):Gx dE:=match b with
 | .Name x _=>asName n a x e
 | .Tuple c k p=>if EN e=true then(match w9 n a (.Tuple c k p)with | some g=>dh (bO n a 0 e) g.1 | none=>cJ)else cJ
 | .Subscript o k _=>if(pV k&&lO e)=true then OX (bO n a (ZC a o) e) (bO n a 0 o) (bO n a 0 k)else cJ
 | .Attribute o f _=>if(lO e || Vt e)=true then U3 a.clss a.flds f (bO n a (md a f) e) (bO n a 0 o)else cJ
 | _=>cJ
noncomputable def RM(n:Nat)(a:Gm)(b:Expr)(c:Operator)(e:Expr):Gx dE:=match b with
 | .Name x _=>if W0 a x=true then(match slot a x,Vu c with | some i,some g=>dh (op2 g (rd i) (bO n a 0 e)) (aV i) | _,_=>cJ)else cJ
 | _=>cJ
mutual
noncomputable def Vv:Nat->Gm->Stmt->Gx dE
 | 0,_,_=>cJ
 | n+1,d,st=>match st with
  | .Pass _=>aW .nx
  | .Break _=>aW .bk
  | .Continue _=>aW .ct
  | .Return none _=>aW (.rt .bj)
  | .Return (some e) _=>retS (bO n d (md d RET) e)
  | .If c a b _=>dN (ub n d c) (j0 n d a) (j0 n d b)
  | .While c b [] _=>jk (ub n d c) (j0 n d b) ZT
  | .For f iter body [] _=>if bD iter=true then(match w9 n d f with | some g=>if isD d iter=true then Y1 (bO n d 0 iter) g.1 (j0 n d body)else zF (K9 n d f iter) g.1 (j0 n d body) | none=>cJ)else cJ
  | .Expr e _=>if lO e=true then gq (bO n d 0 e)else cJ
  | .Assign [f] e _=>RL n d f e
  | .AugAssign f op e _=>RM n d f op e
  | _=>cJ
termination_by structural n=>n
noncomputable def j0:Nat->Gm->List Stmt->Gx dE
 | 0,_,_=>cJ
 | n+1,a,[]=>aW .nx
 | n+1,a,[st]=>Vv n a st
 | n+1,a,st::b=>dW (Vv n a st) (j0 n a b)
termination_by structural n=>n
end
structure ad2 (n:Nat):Prop where
 s:∀Γ X aa ab st,SOk Γ X aa ab->PS X st (tS X aa ab (Vv n Γ st))
 ss:∀Γ X aa ab W2,SOk Γ X aa ab->PSs X W2 (tS X aa ab (j0 n Γ W2))
def Vw:PSs X s (tS X a b cJ):=λ_ _ _ _ _ _ ⟨F,st,R,r,z,_⟩=>by cases z
def Vx(G:GOk a X b d):PS X (.Assign [l] e sp) (tS X b d (RL n a l e)):=by
 have S:=snd n;cases l with
 | Name x p =>
  refine sI λhc=>?_
  rw[aO]at hc;cases h:slot a x with
  | none=>exact iS
  | some i =>
   rcases vW _ _▸hc.2 with q | j
   ·exact zZ G h hc.1 (S.e a X b d _ _ G) (ib q _ _ _)
   ·cases e<;>try (exact absurd j c5)
    rcases C8 with⟨z,j⟩ | z
    ·cases n with
     | zero=>exact xi
     | succ n=>exact((snd n).c a X b d _ _ _ _ _ G).2 i x p sp (G.rM h) j z
    ·exact zZ G h hc.1 (S.e a X b d _ _ G) z
 | Tuple m k f =>
  refine sI λhc=>?_
  cases r:w9 n a (.Tuple m k f)with
  | none=>exact iS
  | some g =>
   obtain⟨t,v,u,w⟩:=kz G n _ g r;refine YF (S.e a X b d _ _ G) t (ib (w6 hc) (some (Expr.Tuple m k f)) sp.line X.env) ?_ (u _);cases e<;>first | rfl | cases hc
 | Subscript o k f =>
  refine sI λhc=>?_
  rw[aO]at hc;exact Zd G.un (S.e a X b d _ _ G) (S.e a X b d _ _ G) (S.e a X b d _ _ G) (C9 hc.1 _) (ib hc.2 (some (Expr.Subscript o k f)) sp.line X.env) (Dc _)
 | Attribute=>exact sI λhc=>Zh G.RJ (S.e a X b d _ _ G) (S.e a X b d _ _ G) (G6 hc _ _)
 | _=>exact iS
def Vy(G:GOk a X b c):PS X (.AugAssign d op e sp) (tS X b c (RM n a d op e)):=by
 cases d with
 | Name x p =>
  refine sI λhc=>?_
  cases f:slot a x with
  | none=>exact iS
  | some i=>cases h:Vu op with
   | none=>exact iS
   | some g =>
    obtain⟨j,k⟩:=G.Vg hc;exact ZS (Pm h) ((snd n).e a X b c _ _ G) G.nd (G.rM f) j k
 | _=>exact iS
theorem sns:∀n:Nat,ad2 n
 | 0=>⟨λ_ _ _ _ _ _=>iS,λ_ _ _ _ _ _=>Vw⟩
 | n+1=>by
  have T:=sns n;have S:=snd n;refine⟨λa X d f h G=>?_,λa X d f k G=>?_⟩
  ·cases h with
   | Pass=>exact Ug
   | Break=>exact Oa
   | Continue=>exact Uh
   | Return e=>cases e with
    | none=>exact Ui
    | some e=>exact YC (S.e a X d f _ _ G.toGOk)
   | If=>exact ac0 (S.t a X d f _ G.toGOk) (T.ss a X d f _ G) (T.ss a X d f _ G)
   | While c b o=>cases o with
    | nil=>exact Od ZT G.never (S.t a X d f _ G.toGOk) (T.ss a X d f _ G)
    | cons=>exact iS
   | For l iter body o=>cases o with
    | cons=>exact iS
    | nil =>
     refine sI λhp=>?_
     cases j:w9 n a l with
     | none=>exact iS
     | some g =>
      show PS X _ (tS X d f (ite _ _ _));split
      ·exact UP G.never G.calm (S.e a X d f _ _ G.toGOk) (kz G.toGOk n _ g j).1 (T.ss a X d f _ G) (fP hp _)
      ·exact UL G.never G.calm (S.i a X d f _ _ G.toGOk) (kz G.toGOk n _ g j).1 (T.ss a X d f _ G) (fP hp _)
   | Expr=>exact sI λhc=>Uj (S.e a X d f _ _ G.toGOk) (ib hc _ _ _)
   | Assign m=>rcases m with _ | ⟨_,_ | _⟩<;>first | exact Vx G.toGOk | exact iS
   | AugAssign=>exact Vy G.toGOk
   | _=>exact iS
  ·rcases k with _ | ⟨h,_ | _⟩
   ·exact Ud
   ·exact Ue (T.s a X d f h G)
   ·exact N9 (T.s a X d f h G) (T.ss a X d f _ G)
def Dd:Nat:=120
abbrev CT:=Str->nU
def noFn:CT:=λ_ _ _=>none
def Vz(P:Pg):List (Str×Nat):=P.cls.map λd=>(d.1,(params d.2).length)
def VA(P:Pg)(x:Str)(st:Stmt)(cls:List (Str×Nat))(make:CT)(tF:Option ((PV->Gx PV)->Nat->nU))(wZ:Option (Nat×(PV->Gx PV)))(c:CT):Gm where
 sc:=(aw st).names
 N:=cu st
 own:=true
 fns:=P.defs.map λd=>(d.1,(params d.2).length)
 call:=c
 cons:=P.cons
 dk:=P.dk
 tabs:=P.tabs
 cls:=cls
 make:=make
 clss:=P.cls.map (·.1)
 flds:=P.flds
 Xj:=(P.Xj.lookup x).getD []
 tF:=tF
 wZ:=wZ
def rdI(P:Pg)(C:Str)(st:Stmt)(c:CT):Gx dE:=j0 Dd (VA P C st [] noFn none none c) (dm st)
def W3(P:Pg)(c:CT):CT:=λC=>match P.cls.lookup C with | some st=>dO (rdI P C st c) (cu st).length | none=>λ_ _=>none
def W4(P:Pg)(st:Stmt)(c:CT)(ω:PV->Gx PV)(n:Nat):Gx dE:=j0 Dd (VA P "spread" st [] noFn none (some (n,ω)) c) (dm st)
def VB(P:Pg)(x:Str)(c:CT):Option ((PV->Gx PV)->Nat->nU):=if P.nI.contains x=true then(P.defs.lookup ("spread":Str)).map λa=>λb n=>dO (W4 P a c b n) (cu a).length else none
def RN(P:Pg)(x:Str)(st:Stmt)(c:CT):Gx dE:=j0 Dd (VA P x st (Vz P) (W3 P c) (VB P x c) none c) (dm st)
def run(P:Pg):Nat->CT
 | 0=>noFn
 | k+1=>λx=>match P.defs.lookup x with | some st=>dO (RN P x st (run P k)) (cu st).length | none=>λ_ _=>none
def VC{P:Pg}{k:Nat}{x:Str}{st:Stmt}(h:P.defs.lookup x=some st):run P (k+1) x=dO (RN P x st (run P k)) (cu st).length:=by
 show(match P.defs.lookup x with | some st=>dO (RN P x st (run P k)) (cu st).length | none=>λ_ _=>none)=_
 rw[h]
theorem j3{b c:Type}(g:b->c)(x:Str):∀l:List (Str×b),(l.map λd=>(d.1,g d.2)).lookup x=(l.lookup x).map g
 | []=>rfl
 | (n,a)::r=>by
  rw[aI,jN,jN];cases x==n with
  | true=>rfl
  | false=>exact j3 g x r
section
variable {prog:Program} {w:World} {K:W.Frag} {mg:Str->Option Value} {base:Heap}
def De{x:Str}{c T:Addr}(h:W.tabIn K x=some (c,T)):∃f b d a e,W.nsIn K mainGlobals x=some (some (.ref f))/\K.lookup f=some ⟨b,d,.func a,e⟩/\a.code=.ref c:=by
 unfold W.tabIn at h;split at h
 ·grind
 ·cases h
structure VD (P:Pg) (w:World) (K:W.Frag) (mg:Str->Option Value):Prop where
 fns:∀x st,P.defs.lookup x=some st->∃f fd,BZ K x x st f fd/\gp K fd (params st) []/\mg x=some (.ref f)/\dD (cu st) (params st) (aw st)
 cons:∀x p,P.cons.lookup x=some p->∃u v,mg x=some u/\RelV v u/\∀F,bN K F p v
 dk:∀x,P.dk.contains x=true->mg x=none
 tabs:∀T rows,P.tabs.lookup T=some rows->EC K mg w.params T rows
 ns:∀x a,W.nsIn K mainGlobals x=some (some (.ref a))->mg x=some (.ref a)
 RJ:Kh K (P.cls.map (·.1)) P.flds
 cls:∀C st,P.cls.lookup C=some st->∃Ca f fd,ClsAt K C (.ref Ca)/\FQ K Ca/\Mk K Ca f/\mg C=some (.ref Ca)/\BZ K "__init__" (C++".__init__") st f fd/\gp K fd (params st) []/\dD (cu st) (params st) (aw st)
 tF:∀x st,P.defs.lookup x=some st->P.nI.contains x=true->x∈du/\(∃c T,W.tabIn K x=some (c,T)/\W.codeHdIn K c T=true)/\∀st,P.defs.lookup ("spread":Str)=some st->(params st).length=2
def FR(P:Pg)(prog:Program)(w:World)(K:W.Frag)(mg:Str->Option Value)(base:Heap)(k:Nat):Prop:=∀(x:Str) (st:Stmt) (f:Addr) (fd:FuncData),P.defs.lookup x=some st->mg x=some (.ref f)->BZ K x x st f fd->dD (cu st) (params st) (aw st) ->
 FnOk prog w K mg base (iH prog w) (3*k) f fd (params st) (GO K (params st).length (run P k x))
section
variable {P:Pg} (O:VD P w K mg) {k:Nat} (ih:FR P prog w K mg base k)
include O ih
def RO{X:Cx}(h1:X.prog=prog)(h2:X.w=w)(g:X.K=K)(h:X.mg=mg)(i:X.base=base):Vf X (3*k) (P.defs.map λd=>(d.1,(params d.2).length)) (run P k):=λy n b=>by
 subst h1 h2 g h i;rw[j3 (λj=>(params j).length)]at b
 obtain⟨a,h1,h2⟩:=br b;subst h2;obtain⟨c,e,F1,l,f,m⟩:=O.fns y a h1;exact⟨3*k,c,e,params a,aA _,ih y a c e h1 f F1 m,f,F1.kp,l⟩
def Lb{st:Stmt}{x q:Str}{f:Addr}{b:Value}{A:Around}{c:List Env}{s:Shared}{H p:Hp}{r:Fz}{E:XK}{a:List (Str×Nat)}{make:CT}{g:Option ((PV->Gx PV)->Nat->nU)}{h:Option (Nat×(PV->Gx PV))}{j:Nat}(S:dD (cu st) (params st) (aw st))
  (l:dH j (A.deeper (envOfC q (aw st) s.heap.objs.size f b))) (v:3*k<=j) (m:∀C n,a.lookup C=some n->∃k' d e t ps,ClsAt K C (.ref d)/\FQ K d/\Mk K d e/\FnOk prog w K mg base (iH prog w) k' e t ps (GO K n (make C))/\dH (k'+1) (A.deeper (envOfC q (aw st) s.heap.objs.size f b))/\mg C=some (.ref d)/\gp K t ps [])
  (B:∀u,g=some u->KN (VA P x st a make g h (run P k)) (eZ (iH prog w) prog w K mg base (cu st) q (aw st) f b A c s H E) u)
  (o:∀n ω,h=some (n,ω)->zO (eZ (iH prog w) prog w K mg base (cu st) q (aw st) f b A c s H E) p r n ω) :
  SOk (VA P x st a make g h (run P k)) (eZ (iH prog w) prog w K mg base (cu st) q (aw st) f b A c s H E) p r:=by
 refine⟨⟨rfl,rfl,S.nd,S.kind,rfl,l.hd,?_,λ_ _=>rfl,λy n D=>?_,O.cons,O.dk,O.tabs,O.ns,O.RJ,m,B,o⟩,PassesOwn.leaving⟩
 ·have:=l.un;show(A.deeper _).units+1150<cLine
  lia
 ·obtain⟨i,e,I,ps,J,L,M,N,Q⟩:=RO (X:=eZ (iH prog w) prog w K mg base (cu st) q (aw st) f b A c s H E) O ih rfl rfl rfl rfl rfl y n D;exact⟨i,e,I,ps,L,l.mono (bK J v),M,N,Q⟩
def VF{st:Stmt}{x:Str}{f:Addr}{a:Value}{A:Around}{g:List Env}{s:Shared}{H:Hp}{E:XK}{b:List (Str×Nat)}{make:CT}{m:Option ((PV->Gx PV)->Nat->nU)}{o:Option (Nat×(PV->Gx PV))}{i:(PV->Gx PV)->Nat->nU}(h:P.defs.lookup x=some st)(p:mg x=some (.ref f))(hc:CL K f a)(q:P.nI≠[]->yY mg base)
  (r:dH (3*k+2) (A.deeper (envOfC x (aw st) s.heap.objs.size f a))) (d:VB P x (run P k)=some i):KN (VA P x st b make m o (run P k)) (eZ (iH prog w) prog w K mg base (cu st) x (aw st) f a A g s H E) i:=by
 obtain⟨t,d⟩:=bP d;obtain⟨sp,e1,rfl⟩:=br d;obtain⟨u,⟨c,T,ht,v⟩,e⟩:=O.tF x st h t;obtain⟨fs,y,F1,B,C,j⟩:=O.fns _ sp e1;refine⟨⟨sp,fs,y,params sp,cu sp,3*k,W4 P sp (run P k),rfl,F1,C,B,j,e sp e1,r,λa A g s H E D I n Z J ho=>?_,RO O ih rfl rfl rfl rfl rfl⟩,⟨⟨x,c,T,u,ht,v,(by
  obtain⟨L,oc,od,fd,yr,M,e,N⟩:=De ht;obtain⟨Q,R,VE,X,l,Y⟩:=hc;have:=O.ns x L M;rw[p]at this;cases this;rw[e]at l;cases l;exact Y.symm.trans N),rfl⟩,q (λz=>by grind)⟩⟩
 exact(sns Dd).ss _ _ D I _ (Lb O ih j J (qr _ _) (λ_ _ z=>by cases z) (λ_ z=>by cases z) λ_ _ z=>by cases z;exact ho)
def ZU{C:Str}{st:Stmt}{f:Addr}{a:FuncData}(h:P.cls.lookup C=some st)(F:BZ K "__init__" (C++".__init__") st f a)(S:dD (cu st) (params st) (aw st)):FnOk prog w K mg base (iH prog w) (3*k+1) f a (params st) (GO K (params st).length (W3 P (run P k) C)):=by
 have e:W3 P (run P k) C=dO (rdI P C st (run P k)) (cu st).length:=by
  unfold W3;rw[h]
 rw[e];exact J9 F S λg A i s H E _ b c d=>(sns Dd).ss _ _ c d _ (Lb O ih S b (aA _) (λ_ _ z=>by cases z) (λ_ z=>by cases z) λ_ _ z=>by cases z)
end
theorem Ld{P:Pg}(O:VD P w K mg)(j:P.nI≠[]->yY mg base):∀(k:Nat),FR P prog w K mg base k
 | 0=>λx d f q h l F S=>by
  have m:∀b H Q E,¬GO K (params d).length (run P 0 x) b H Q E:=λb H Q E ⟨_,_,_,_,_,_,_,_,_,_,z,_⟩=>by cases z
  exact⟨λb H Q E h=>absurd h (m b H Q E),λA r s H args R b Q E _ _ _ _ h=>absurd h (m b H Q E)⟩
 | k+1=>λx d f q h l F S=>by
  have ih:=Ld (P:=P) O j k;rw[VC h];refine J9 (k:=3*k+2) F S λT A r s H E t g u v=>(sns Dd).ss _ _ u v _ (Lb O ih S g (qr _ _) (λC n i=>?_) (λX e=>VF O ih h l t j g e) λ_ _ z=>by cases z)
  unfold Vz at i;rw[j3 (λd=>(params d).length)]at i
  obtain⟨o,p,y⟩:=br i;subst y;obtain⟨B,D,I,a,c,M,J,F1,L,N⟩:=O.cls C o p;exact⟨3*k+1,B,D,I,params o,a,c,M,ZU O ih p F1 N,g,J,L⟩
def xj(a:List Int):PV:=.lst (a.map .int)
theorem Aa{F:Fz}:∀a:List Int,aB K F (a.map .int) (a.map V.int)
 | []=>.nil
 | n::r=>.cons (aH.mpr rfl) (Aa r)
end
theorem jm{c d:Type} [BEq c] [LawfulBEq c] {k:c} {v:d}:∀{l:List (c×d)},l.lookup k=some v->(k,v)∈l
 | [],h=>by cases h
 | (a,b)::l,h=>by
  rw[jN]at h;cases z:k==a with
  | true =>
   rw[z]at h;cases h;rw[bc z];exact aD
  | false =>
   rw[z]at h;exact aG _ (jm h)
def FT.at{K:W.Frag}{h:Heap}{b:Str->Option Value}{P:Params}{T:Str}{rows:List (Str×Str)}(x:FT K P T rows)(X:K.In h)(G:h.Ns mainGlobals b):EC K b P T rows:=by
 obtain⟨a,d,n,g,i,j,l⟩:=x;refine⟨a,d,n,W.mg_of X G g,i,j,λk fn e=>?_⟩
 obtain⟨f,m,c⟩:=l (k,fn) (jm e);exact⟨f,m,W.mg_of X G c,c⟩
def Iz.at{K:W.Frag}{h a:Heap}{c:Str->Option Value}(b:Iz K)(X:K.In h)(G:h.Ns mainGlobals c)(Y:K.In a):yY c a :=
 let ⟨bm,o,d,e,f,g,i⟩:=b;⟨bm,o,W.mg_of X G d,e,f,Y _ _ g,i⟩
def Ab(K:W.Frag):List (Addr×Str):=du.filterMap λx=>(W.tabIn K x).map λa=>(a.2,yK x)
theorem vb{c d:Type} [BEq c] [LawfulBEq c] {b:c} {q:d}:∀{l:List (c×d)},(l.map (·.1)).Nodup->(b,q)∈l->l.lookup b=some q
 | [],_,h=>nomatch h
 | (a,v)::l,f,h=>by
  rw[aI,fL]at f;rw[jN];rcases aF.mp h with e | g
  ·grind
  ·have:(b==a)=false:=by
    grind
   rw[this];exact vb f.2 g
def G7(K:W.Frag):(Ab K).map (·.1)=du.filterMap λx=>(W.tabIn K x).map (·.2):=by
 unfold Ab;rw[List.map_filterMap]
 congr 1
 funext x
 cases W.tabIn K x<;>rfl
def lU.tabs{K:W.Frag}{h:Heap}(t:lU K h)(X:K.In h):(∀b q,(Ab K).lookup b=some q->h.get? b=some {cls:=.none,data:=.fields #[]}/\isCodeTable h b/\K.lookup b=none)/\∀H:Hp,(∀b q,(Ab K).lookup b=some q->H b=some (.BY q))->qK K H:=by
 refine⟨λb q e=>?_,λH g x a c T e=>?_⟩
 ·have d:=jm e;unfold Ab at d;obtain⟨x,a,i⟩:=nv.mp d;obtain⟨f,j,k⟩:=il.mp i;cases k;obtain⟨l,m,p⟩:=t.at_ x a f.1 f.2 j;obtain⟨o,r,_,_,_,_,_,_,_,u,v,w,y,_⟩:=W.codeHd_of_K X l;exact⟨m,⟨_,o,r,u,v,w,y⟩,p⟩
 ·refine g T (yK x) (vb (by rw[G7];exact t.nd) ?_)
  exact nv.mpr ⟨x,a,by rw[e];rfl⟩
def VG(P:Pg):Bool:=P.nI.isEmpty || (match P.defs.lookup ("spread":Str)with | some st=>(params st).length==2 | none=>true)
def ad4{P:Pg}{K:W.Frag}{h:Heap}{t:Str->Option Value}(X:K.In h)(G:h.Ns mainGlobals t)(hd:∀d∈P.defs,Iy K d.1 d.2)
  (hc:∀d∈P.cons,∃u v,W.nsIn K mainGlobals d.1=some (some u)/\RelV v u/\∀F,bN K F d.2 v) (B:∀x∈P.dk,W.nsIn K mainGlobals x=some none) {w:World} (ht:∀d∈P.tabs,FT K w.params d.1 d.2) (i:∀d∈P.cls,SA K d.1 d.2 P.flds) (l:VG P=true) (m:∀x∈P.nI,SD K x):VD P w K t where
 fns:=λx j e=>by
  obtain⟨⟨f,k,a,F,b⟩,s⟩:=hd (x,j) (d8 e);exact⟨f,k,F,.all b,W.mg_of X G a,s⟩
 cons:=λx p e=>by
  obtain⟨u,v,a,r,b⟩:=hc (x,p) (d8 e);exact⟨u,v,W.mg_of X G a,r,b⟩
 dk:=λx e=>W.mg_none_of X G (B x (by simpa using e))
 tabs:=λT rows e=>(ht (T,rows) (jm e)).at X G
 ns:=λx a e=>W.mg_of X G e
 RJ:=λC e=>by
  have e:C∈P.cls.map (·.1):=by simpa using e
  obtain⟨d,hd,rfl⟩:=az.mp e;obtain⟨o,f,k,a,M,c,y,F,b,s⟩:=i d hd;exact⟨o,a,c,λg D=>y g (by simpa using D)⟩
 cls:=λC j e=>by
  obtain⟨o,f,k,a,M,c,y,F,b,s⟩:=i (C,j) (d8 e);exact⟨o,f,k,a,c,M,W.mg_of X G a,F,.all b,s⟩
 tF:=λx j e q=>by
  obtain⟨E,H⟩:=m x (by simpa using q)
  refine⟨E,H,λJ I=>?_⟩
  unfold VG at l;rw[I]at l;rcases Bool.or_eq_true_iff.mp l with z | z
  ·rw[vR.mp z]at q;cases q
  ·exact bc z
def Yes(o:Option (Rs PV×List ak)):Prop:=∃h,o=some (.ok (.bl true),h)
def VH{K:W.Frag}{P:Pg}{k:Nat}{H:Hp}{a:Addr}{d:List Int}(f:Yes (run P k "law" [xj d] []))(hS:kW K H a (d.map V.int)):GO K 1 (run P k "law") [.ref a] H (λv _=>v=.bl true) λ_ _ _=>False :=
 let ⟨h,e⟩:=f
 ⟨H,⟨H,[]⟩,[],[xj d],_,h,⟨cK.refl H,cK.refl H,Gr.refl _,λ_ _ e=>.inl e,λn a e=>by simp at e,rfl,jO,λn c a e=>by simp at e⟩,λ_ _ e=>.inl e,.cons (gu.mpr ⟨a,_,rfl,hS,Aa d⟩) .nil,rfl,e,λv g i _ b=>b8.mp b⟩
def Le{P:Pg}{N:Nat}{x:Str}{st:Stmt}{l:W.OpenLaw}{q:Program}{loose:List Str}{XP:(Str->Option Value)->Heap->Prop}{YP:World->Heap->Prop}{d:DefRec}(r:P.defs.lookup ("law":Str)=some st)(t:params st=[x])
  (I:l.most=some 63) (j:d.name="law") (m:d.params.defaults=[]) (J:dH (3*N) callerA) (L:VG P=true) (M:∀(w:World) (h:Heap),YP w h->∃K:W.Frag,K.In h/\IA P w K/\lU K h)
  (p:∀i:List Int,i.length<=63->Yes (run P N "law" [xj i] [])):W.WalkO q loose XP YP l.row.toRowW d [] (λf vs=>PySem.call f vs):=by
 refine Att.yX I m λw v y mg mb fa o pm cd Q a vs i G Y ho hd DZ B R X C Z=>?_
 obtain⟨K,c,T,TH⟩:=M w _ Y;obtain⟨t1,t2⟩:=TH.tabs c;have O:=ad4 c G.T.g T.hd T.hc T.hb T.ht T.hcl L T.hlm;obtain⟨⟨f,fd,D,F,b⟩,s⟩:=T.hd ("law",st) (d8 r);rw[j]at B;have e:=B.symm.trans (W.mg_of c G.T.g D);cases e;rw[t]at b;refine Gj (CX:=iH l.prog w) c G.T.g G.T.b G.T.builtins G.T.nolimit Z t1 t2 R X (bK C (by decide)) J (λE kb _=>?_) (λs u=>.of_eq (b [u] rfl)) (λH hS=>VH (p i C) hS) (by rintro _ _ _ ⟨_,_,_,_,_,_,_,_,_,_,_,h,_⟩;exact h)
 have k:=Ld (prog:=l.prog) O (λz=>(T.hbm z).at c G.T.g kb) N "law" st _ fd r (W.mg_of c G.T.g D) F s
 rw[t]at k;exact k
abbrev Ev{b:Type}(f:Gx b)(s:cz)(a:b)(c:cz):Prop:=f s=some (.ok a,c)
abbrev Ek {b : Type} (f : Gx b) (s : cz) (a : b) : Prop := Ev f s a s
section
variable {α β:Type} {s s1 s2 s3:cz}
def eB(h:Ev f s a s1)(h2:k a s1=r):bnd f k s=r:=by
 show(f s).bind (Yo k)=r;rw[h];exact h2
def eI(h:Ev a s b s1)(h2:(if b=true then f s1 else g s1)=r):dN a f g s=r:=eB h (by grind)
def iT(h:Ev a s true s1)(h2:f s1=r):dN a f g s=r:=eI h h2
def iF(h:Ev a s false s1)(h2:g s1=r):dN a f g s=r:=eI h h2
variable {fa fb fe:Gx PV} {ts:Gx (List PV)} {p q x y z:PV} {ps as:List PV}
def b2(a:Ev fa s x s1)(b:Ev fb s1 y s2)(h:g s2.h x y=some z):Ev (op2 g fa fb) s z s2:=eB a (eB b (by show(g s2.h x y).map _=_;rw[h];rfl))
def cA(a:Ev fa s x s1)(b:Ev ts s1 as s2):Ev (aq fa ts) s (x::as) s2:=eB a (eB b rfl)
def tU(h:Ev ts s ps s1)(a:ps.length<=4000000):Ev (kF .ao ts) s (.ao ps) s1:=eB h (by show(small ps (.nd .ao ps)).map _=_;rw[show small ps (.nd .ao ps)=some (.nd .ao ps)from if_pos a];rfl)
def lS(h:Ev ts s ps s1)(a:ps.length<=4000000):Ev (kF .lst ts) s (.lst ps) s1:=eB h (by show(small ps (.nd .lst ps)).map _=_;rw[show small ps (.nd .lst ps)=some (.nd .lst ps)from if_pos a];rfl)
def bV(a:Ev ts s as s1)(h:g s1.h as=some z):Ev (gw g ts) s z s1:=eB a (by show(g s1.h as).map _=_;rw[h];rfl)
def bT(h:Ev fa s (.bl b) s1):Ev (toB fa) s b s1:=eB h rfl
def tR(h:Ev fa s p s1)(ht:zb s1.h p=some b):Ev (fX fa) s b s1:=eB h (by show(zb s1.h p).map _=_;rw[ht];rfl)
def nB(h:Ev a s b s1):Ev (zd a) s (!b) s1:=eB h rfl
def clV(b:Ev ts s as s1)(c:as.length=n)(a:(s1.h.isEmpty || ai as)=true)(hc:g as []=some (.ok p,h'))(d:kL h' p=some q):Ev (bnd ts (cC 0 n g)) s q s1:=eB b (by
 unfold cC;rw[a,if_pos (show((0==0)&&true)=true from rfl)]
 unfold nW;rw[if_pos ⟨c,a⟩,hc];show(kL h' p).map _=_;rw[d];rfl)
def clG(a:Ev ts s as s1)(b:as.length=n)(c:((m==0)&&(s1.h.isEmpty || ai as))=false)(hc:g as s1.h=some (.ok p,h')):Ev (bnd ts (cC m n g)) s p ⟨s1.ρ,h'⟩:=eB a (by
 unfold cC;rw[c,if_neg c5];unfold CM;rw[if_pos b,hc];rfl)
variable {f g:Gx dE} {r:Option (Rs dE×cz)}
def sq(h:Ev f s .nx s1)(h2:g s1=r):dW f g s=r:=eB h h2
def yx(h:Ev f s (.rt p) s1):dW f g s=some (.ok (.rt p),s1):=eB h rfl
def aS(h:Ev fa s p s1)(ht:t p s1=some s2):Ev (dh fa t) s .nx s2:=eB h (by show(t p s1).map _=_;rw[ht];rfl)
def rS(h:Ev fa s p s1):Ev (retS fa) s (.rt p) s1:=eB h rfl
def dS(h:Ev fa s p s1):Ev (gq fa) s .nx s1:=eB h rfl
def j4(e:f ⟨gm n as,h⟩=some (.ok (.rt p),⟨G8,h'⟩)):dO f n as h=some (.ok p,h'):=by
 unfold dO;rw[e];rfl
def VI(e:f ⟨gm n as,h⟩=some (.ok .nx,⟨G8,h'⟩)):dO f n as h=some (.ok .bj,h'):=by
 unfold dO;rw[e];rfl
variable {t:Tg} {body:Gx dE}
def fC(ht:t p s=some s1)(a:Ev body s1 .nx s2)(h:dv t body ps s2=r):dv t body (p::ps) s=r:=eB (show Ev (stp (t p)) s .nx s1 by show(t p s).map _=_;rw[ht];rfl) (eB a h)
def fR(ht:t p s=some s1)(a:Ev body s1 (.rt q) s2):dv t body (p::ps) s=some (.ok (.rt q),s2):=eB (show Ev (stp (t p)) s .nx s1 by show(t p s).map _=_;rw[ht];rfl) (eB a rfl)
def fS(h:Ev a s (.sq ps) s1)(h2:dv t body ps s1=r):zF a t body s=r:=eB h h2
def sV(he:Ev fa s p s1)(a:tZ p=some h):Ev (jF fa) s (.sq h) s1:=eB he (by show(J1 s1.h p).map _=_;unfold J1;rw[a];rfl)
def sG(h:Ev a s ps s1):Ev (CJ a) s (.sq ps) s1:=eB h rfl
theorem Ac:∀{ps:List PV},(∀p∈ps,bd p h=some (F p,h))->dJ bd ps h=some (ps.filterMap F,h)
 | [],_=>rfl
 | p::ps,H=>by
  show(bd p h).bind _=_;rw[H p aD];show(dJ bd ps h).map _=_;rw[Ac λq a=>H q (aG _ a)]
  cases e:F p with
  | none=>rw[List.filterMap_cons_none e];rfl
  | some v=>rw[List.filterMap_cons_some e];rfl
def cQ(a:Ev b s (.sq ps) s1)(c:ps.length<=4000000)(d:∀p∈ps,bd (bM link s1.ρ) p s1.h=some (F p,s1.h)):Ev (di false link b bd) s (.lst (ps.filterMap F)) s1:=eB a (by
 show(if ps.length<=fD then dJ _ ps s1.h else none).bind _=_
 rw[if_pos (show ps.length<=fD from c),Ac d]
 rfl)
def e1(ht:t p ⟨ρ,h⟩=some ⟨rp,h1⟩)(he:Ev fe ⟨rp,h1⟩ q ⟨Po,h2⟩):lM t fe ρ p h=some (some q,h2):=by
 unfold lM;rw[ht,cH,he];rfl
def MS(ht:t p ⟨ρ,h⟩=some ⟨rp,h1⟩)(hw:Ev a ⟨rp,h1⟩ true ⟨Po,h2⟩)(he:Ev fe ⟨Po,h2⟩ q ⟨b,c⟩):jD t a fe ρ p h=some (some q,c):=by
 unfold jD;rw[ht,cH,hw,cH];show(if true=true then(fe ⟨Po,h2⟩).bind _ else _)=_
 rw[if_pos rfl,he];rfl
def G9(ht:t p ⟨ρ,h⟩=some ⟨rp,h1⟩)(hw:Ev a ⟨rp,h1⟩ false ⟨Po,h2⟩):jD t a fe ρ p h=some (none,h2):=by
 unfold jD;rw[ht,cH,hw];rfl
end
inductive Sh where
 | num | own | bL (n:Int) | bA (ps:List Sh)
mutual
def enc:Sh->PV
 | .num=>.ao [.str "num"]
 | .own=>.ao [.str "own"]
 | .bL n=>.ao [.str "strip",.int n]
 | .bA a=>.ao [.str "rec",.ao (bX a)]
def bX:List Sh->List PV
 | []=>[]
 | s::r=>enc s::bX r
end
mutual
def lv:Sh->List Sh
 | .num=>[.num]
 | .own=>[.own]
 | .bL n=>[.bL n]
 | .bA a=>fY a
def fY:List Sh->List Sh
 | []=>[]
 | s::r=>lv s++fY r
end
mutual
def dp:Sh->Nat
 | .bA a=>oM a+1
 | _=>0
def oM:List Sh->Nat
 | []=>0
 | s::r=>max (dp s) (oM r)
end
def iw:Sh->Bool
 | .bA _=>false
 | _=>true
theorem iU:∀l:List Sh,bX l=l.map enc
 | []=>rfl
 | s::r=>by simp[bX,iU r]
def oN(a b:List Sh):bX (a++b)=bX a++bX b:=by simp[iU]
def fz(a:List Sh):(bX a).length=a.length:=by simp[iU]
theorem rO:∀a b:List Sh,fY (a++b)=fY a++fY b
 | [],b=>by simp[fY]
 | s::r,b=>by simp[fY,rO r b]
mutual
theorem xl:∀s:Sh,∀x∈lv s,iw x=true
 | .num,x,h=>by simp[lv]at h;subst h;rfl
 | .own,x,h=>by simp[lv]at h;subst h;rfl
 | .bL n,x,h=>by simp[lv]at h;subst h;rfl
 | .bA a,x,h=>Ad a x (by simpa[lv]using h)
theorem Ad:∀ps:List Sh,∀x∈fY ps,iw x=true
 | [],x,h=>by simp[fY]at h
 | s::r,x,h=>by
  simp only[fY,aX]at h;rcases h with h | h
  ·exact xl s x h
  ·exact Ad r x h
end
def Df(h:iw s=true):lv s=[s]/\dp s=0:=by
 cases s with
 | bA _=>cases h
 | _=>exact⟨by simp[lv],by simp[dp]⟩
mutual
theorem dw:∀s:Sh,noRef (enc s)=true
 | .num=>rfl
 | .own=>rfl
 | .bL _=>rfl
 | .bA a=>by simp[enc,noRef,ai,pZ a]
theorem pZ:∀l:List Sh,ai (bX l)=true
 | []=>rfl
 | s::l=>by simp[bX,ai,dw s,pZ l]
end
def xC(hc:h[n]?=some ⟨.lst,ps⟩)(b:Cw h q=some a)(c:ps.length+a.length<=4000000):zx (.ref n) [q] ⟨ρ,h⟩=some (.ok .bj,⟨ρ,h.set n ⟨.lst,ps++a⟩⟩):=by
 show(Cw h q).bind _=_;rw[b,cH];show(gX h (.ref n)).bind _=_;have e:gX h (.ref n)=some (n,⟨.lst,ps⟩):=by
  show(h[n]?).bind _=_;rw[hc];rfl
 rw[e,cH];show(((if ps.length+a.length<=fD then some (ps++a)else none).map _).map _)=_
 rw[if_pos (show ps.length+a.length<=fD from c)]
 rfl
def aC(hc:h[n]?=some ⟨.lst,ps⟩)(a:ps.length<4000000):iO (gU wO) (.ref n) [q] ⟨ρ,h⟩=some (.ok .bj,⟨ρ,h.set n ⟨.lst,ps++[q]⟩⟩):=by
 show(gX h (.ref n)).bind _=_;have e:gX h (.ref n)=some (n,⟨.lst,ps⟩):=by
  show(h[n]?).bind _=_;rw[hc];rfl
 rw[e,cH];show(((if ps.length<fD then some (ps++[q])else none).map _).map _)=_
 rw[if_pos (show ps.length<fD from a)]
 rfl
def yy(h1:Ev b s (.ref n) s1)(hc:s1.h[n]?=some ⟨.lst,ps⟩)(h2:Ev c s1 as s2)(d:w (.ref n) as s2=r):yv "list" w b c s=r:=by
 refine eB h1 (eB (a:=()) ?_ (eB h2 d));show((cw s1.h (.ref n)).bind _).map _=_;have e:cw s1.h (.ref n)=some (.lst,ps):=by
  show(s1.h[n]?).bind _=_;rw[hc];rfl
 rw[e];rfl
def ER(c:CT):Gx dE:=(gq (yv "list" zx (rd 1) (aq (bnd (aq (rd 2) (aW [])) (cC 0 1 (c "leaves"))) (aW []))))
def xm(c:CT):Gx dE :=
 (dW (dN (toB (op2 JF (op2 bR (rd 0) (aW (.int 0))) (aW (.str "rec"))))
  (retS (kF .ao (aq (rd 0) (aW []))))
  (aW .nx))
  (dW (dh (zf (aW [])) (aV 1))
  (dW (zF (jF (op2 bR (rd 0) (aW (.int 1)))) (aV 2) (ER c))
  (retS (gw Gp (aq (rd 1) (aW [])))))))
def Gives(o:Option (Rs PV×List ak))(q:PV):Prop:=∃p h,o=some (.ok p,h)/\kL h p=some q
def Dg(hp:noRef p=true):kL h p=some p:=by
 unfold kL;split
 ·rfl
 ·unfold oJ;rw[if_pos hp]
theorem oO(X:PV):∀(ps acc:List Sh) (o:Option PV),(∀s∈ps,Gives (c "leaves" [enc s] []) (.ao (bX (lv s))))->acc.length+(fY ps).length<=4000000 ->
  ∃a,dv (aV 2) (ER c) (bX ps) ⟨[some X,some (.ref 0),o],[⟨.lst,bX acc⟩]⟩=some (.ok .nx,⟨[some X,some (.ref 0),a],[⟨.lst,bX (acc++fY ps)⟩]⟩)
 | [],acc,o,_,_=>⟨o,by simp[fY];rfl⟩
 | s::r,acc,o,h,b=>by
  obtain⟨p,g,d,e⟩:=h s aD;simp only[fY,aZ]at b;obtain⟨a,ih⟩:=oO X r (acc++lv s) (some (enc s)) (λs f=>h s (aG _ f)) (by grind)
  refine⟨a,?_⟩;rw[dA]at ih;refine fC rfl (dS (yy rfl rfl (cA (clV rfl rfl (by simp[ai,dw]) d e) rfl) (xC rfl rfl (by rw[fz,fz];lia)))) ?_
  rw[<-oN];exact ih
def j5(h:iw s=true):dO (xm c) 3 [enc s] []=some (.ok (.ao [enc s]),[]):=by
 cases s with
 | bA _=>cases h
 | _=>kernel_rfl
def Dh (h:∀s∈ps,Gives (c "leaves" [enc s] []) (.ao (bX (lv s)))) (hz:(fY ps).length<=4000000):Gives (dO (xm c) 3 [enc (.bA ps)] []) (.ao (bX (fY ps))):=by
 obtain⟨a,q⟩:=oO (enc (.bA ps)) ps [] none h (by simpa using hz)
 refine⟨_,_,j4 (sq (iF (s1:=⟨[some (enc (.bA ps)),none,none],[]⟩) (bT (by kernel_rfl)) rfl) (sq rfl (sq (fS rfl q) (rS rfl)))),Dg ?_⟩
 simp[noRef,pZ]
structure eJ (R:Nat->CT):Prop where
 run:∀k,R (k+1) "leaves"=dO (xm (R k)) 3
mutual
theorem eJ.all{R:Nat->CT}(A:eJ R):∀(s:Sh) (k:Nat),dp s<=k->(lv s).length<=4000000->Gives (R (k+1) "leaves" [enc s] []) (.ao (bX (lv s)))
 | .num,k,_,_=>⟨_,_,by rw[A.run,j5 rfl],rfl⟩
 | .own,k,_,_=>⟨_,_,by rw[A.run,j5 rfl],rfl⟩
 | .bL n,k,_,_=>⟨_,_,by rw[A.run,j5 rfl],rfl⟩
 | .bA b,0,hd,_=>by simp[dp]at hd
 | .bA b,k+1,hd,a=>by
  simp only[dp]at hd;simp only[lv]at a;rw[A.run];exact Dh (A.each b k (by lia) a) a
theorem eJ.each{R:Nat->CT}(A:eJ R):∀ps k,oM ps<=k->(fY ps).length<=4000000->∀s∈ps,Gives (R (k+1) "leaves" [enc s] []) (.ao (bX (lv s)))
 | [],_,_,_,s,a=>by cases a
 | p::r,k,hd,b,s,a=>by
  simp only[oM]at hd;simp only[fY,aZ]at b;rcases aF.mp a with e | e
  ·rw[e];exact eJ.all A p k (by lia) (by lia)
  ·exact eJ.each A r k (by lia) (by lia) s e
end
end L2.U
namespace L2.U
open PySem L2
abbrev Rw:=List Int×Int×Int×Sh
noncomputable def mD(k a:Int)(r:Rw):Rw:=(k::r.1,a+r.2.1,r.2.2)
mutual
def tab:Sh->List Rw
 | .num=>[([],0,1,.num)]
 | .own=>[([],0,1,.own)]
 | .bL n=>[([],0,1,.bL n)]
 | .bA a=>([],0,((fY a).length:Int),.bA a)::tabs 0 0 a
def tabs:Nat->Int->List Sh->List Rw
 | _,_,[]=>[]
 | k,a,s::r=>(tab s).map (mD k a)++tabs (k+1) (a+((lv s).length:Int)) r
end
def sz(s:Sh):Int:=((lv s).length:Int)
def gY:List Sh->Nat
 | []=>0
 | s::l=>(tab s).length+gY l
def Lf(h:iw s=true):tab s=[([],0,1,s)]:=by
 cases s with
 | bA _=>cases h
 | _=>rfl
def Ae(s:Sh):∃R,tab s=(([],0,sz s,s):Rw)::R:=by
 cases s with
 | bA a=>exact⟨tabs 0 0 a,by simp only[tab,sz,lv]⟩
 | num=>exact⟨[],by simp[tab,sz,lv]⟩
 | own=>exact⟨[],by simp[tab,sz,lv]⟩
 | bL n=>exact⟨[],by simp[tab,sz,lv]⟩
theorem fZ:∀(l:List Sh) (k:Nat) (a:Int),(tabs k a l).length=gY l
 | [],_,_=>rfl
 | s::l,k,a=>by simp[tabs,gY,fZ l]
def xo(s:Sh):1<=(tab s).length:=by
 obtain⟨R,e⟩:=Ae s;rw[e];simp
theorem rP:∀l:List Sh,l.length<=gY l
 | []=>aA _
 | s::l=>by
  have:=xo s;have:=rP l;simp only[gY,aN]
  lia
mutual
theorem Af:∀s:Sh,(lv s).length<=(tab s).length
 | .num=>by simp[lv,tab]
 | .own=>by simp[lv,tab]
 | .bL n=>by simp[lv,tab]
 | .bA a=>by
  have:=xp a;simp only[lv,tab,aN,fZ]
  lia
theorem xp:∀l:List Sh,(fY l).length<=gY l
 | []=>by simp[fY]
 | s::l=>by
  have:=Af s;have:=xp l;simp only[fY,gY,aZ]
  lia
end
mutual
theorem RP:∀s:Sh,dp s<=(tab s).length
 | .num=>by simp[dp]
 | .own=>by simp[dp]
 | .bL n=>by simp[dp]
 | .bA a=>by
  have:=Lg a;simp only[dp,tab,aN,fZ]
  lia
theorem Lg:∀l:List Sh,oM l<=gY l
 | []=>by simp[oM]
 | s::l=>by
  have:=RP s;have:=Lg l;simp only[oM,gY]
  lia
end
mutual
theorem ES:∀(s:Sh),∀r∈tab s,r.1.length<=dp s
 | .num,r,h=>by simp[tab]at h;subst h;simp
 | .own,r,h=>by simp[tab]at h;subst h;simp
 | .bL n,r,h=>by simp[tab]at h;subst h;simp
 | .bA a,r,h=>by
  simp only[tab,aF]at h;rcases h with rfl | h
  ·simp
  ·simp only[dp];exact Ag a 0 0 r h
theorem Ag:∀l k a,∀r∈tabs k a l,r.1.length<=oM l+1
 | [],_,_,r,h=>by simp[tabs]at h
 | s::l,k,a,r,h=>by
  simp only[tabs,aX,az]at h;simp only[oM];rcases h with⟨b,h0,rfl⟩ | h
  ·have:=ES s b h0;simp only[mD,aN]
   lia
  ·have:=Ag l _ _ r h
   lia
end
theorem Ai:∀(l:List Sh) (s:Sh),s∈l->(tab s).length<=gY l
 | s::l,t,h=>by
  simp only[gY];rcases aF.mp h with rfl | h
  ·lia
  ·have:=Ai l t h
   lia
def vc(h:s∈ps):(tab s).length<=(tab (.bA ps)).length:=by
 have:=Ai ps s h;simp only[tab,aN,fZ]
 lia
noncomputable def Ia:Sh->Int->Option (Sh×Int)
 | .bA a,k=>if 0<=k then(a[k.toNat]?).map λs=>(s,((fY (a.take k.toNat)).length:Int))else none
 | _,_=>none
def walk:Sh->Int->List Int->Option (Sh×Int)
 | s,a,[]=>some (s,a)
 | s,a,k::p=>(Ia s k).bind λx=>walk x.1 (a+x.2) p
mutual
theorem rQ:∀(s:Sh),∀r∈tab s,∀b,walk s b r.1=some (r.2.2.2,b+r.2.1)
 | .num,r,h,b=>by simp[tab]at h;subst h;simp[walk]
 | .own,r,h,b=>by simp[tab]at h;subst h;simp[walk]
 | .bL n,r,h,b=>by simp[tab]at h;subst h;simp[walk]
 | .bA a,r,h,b=>by
  simp only[tab,aF]at h;rcases h with rfl | h
  ·simp[walk]
  ·exact vd a [] r (by simpa[fY]using h) b
theorem vd:∀(c a:List Sh),∀r∈tabs a.length ((fY a).length:Int) c,∀b,walk (.bA (a++c)) b r.1=some (r.2.2.2,b+r.2.1)
 | [],a,r,h,b=>by simp[tabs]at h
 | s::c,a,r,h,b=>by
  simp only[tabs,aX,az]at h;rcases h with⟨d,h0,rfl⟩ | h
  ·have:=rQ s d h0 (b+((fY a).length:Int));simp only[mD,walk,Ia];simp[this]
   lia
  ·have:=vd c (a++[s]) r (by simpa[rO,fY]using h) b
   simpa using this
end
end L2.U
namespace L2.U
open PySem PySem.Spec PyProof.Rows
noncomputable def rR:bz->PV
 | .inl i=>.int i
 | .inr x=>.str x
def dP(ks:List bz):PV:=.ao (ks.map rR)
def ve:Nat:=3000000
abbrev dz:=List (List bz×Int)
noncomputable def Ha(ks:List (List bz))(k:List bz):Bool:=ks.any λj=>decide (j=k)
def eK(a:dz)(c:Int)(f:List bz):dz:=if Ha (a.map (·.1)) f=true then a else a++[(f,c)]
def dj(a:dz)(c:Int):List (List bz)->dz
 | []=>a
 | f::r=>dj (eK a c f) c r
def nZ(a:dz)(c:Int)(f:List bz):(eK a c f).length<=a.length+1:=by
 unfold eK;split
 ·lia
 ·grind
theorem n6(c:Int):∀(l:List (List bz)) (a:dz),(dj a c l).length<=a.length+l.length
 | [],_=>aA _
 | g::l,a=>by
  have b:=n6 c l (eK a c g);have d:=nZ a c g;show(dj (eK a c g) c l).length<=_;rw[aN]
  lia
def toldP(t:List bz×Int):PV:=.ao (t.1.map rR++[.int t.2])
def gy(b:List bz->Option (List (List bz))):Nat->Nat->dz->Option dz
 | 0,_,_=>none
 | n+1,k,a=>match a[k]? with
  | none=>some a
  | some t=>(b t.1).bind λfs=>if a.length+fs.length<fD then gy b n (k+1) (dj a k fs)else none
theorem kA [DecidableEq α]:∀(l U:List α),l.Nodup->(∀x∈l,x∈U)->l.length<=U.length
 | [],_,_,_=>fj _
 | x::l,U,a,b=>by
  rw[fL]at a;have c:=b x aD;have e:=kA l (U.erase x) a.2 λy d=>(List.mem_erase_of_ne (λz=>a.1 (by grind))).mpr (b y (aG _ d))
  have f:=List.length_erase_of_mem c;have g:=List.length_pos_of_mem c;rw[aN]
  lia
def Aj:Ha ks k=true↔k∈ks:=by
 unfold Ha;simp only[List.any_eq_true,i9];exact⟨(by rintro⟨x,h,e⟩;exact e▸h),λh=>⟨k,h,rfl⟩⟩
theorem fQ(c:Int):∀(fs:List (List bz)) (b:dz),∃a:dz,dj b c fs=b++a/\(∀t∈a,t.2=c/\t.1∈fs)
 | [],b=>⟨[],by rw[dB];rfl,λ_ z=>nomatch z⟩
 | f::fs,b=>by
  obtain⟨a,d,g⟩:=fQ c fs (eK b c f);show ∃m,dj (eK b c f) c fs=b++m/\_
  by_cases h:Ha (b.map (·.1)) f=true
  ·have e:eK b c f=b:=by unfold eK;rw[if_pos h]
   rw[e]at d ⊢;exact⟨a,d,λt ht=>⟨(g t ht).1,aG _ (g t ht).2⟩⟩
  ·have e:eK b c f=b++[(f,c)]:=by unfold eK;rw[if_neg h]
   rw[e]at d ⊢;refine⟨(f,c)::a,by rw[d];simp,λt ht=>?_⟩
   rcases aF.mp ht with rfl | ht
   ·grind
   ·grind
theorem rV(c:Int):∀(fs:List (List bz)) (d:dz),(d.map (·.1)).Nodup->((dj d c fs).map (·.1)).Nodup
 | [],_,h=>h
 | f::fs,d,h=>by
  refine rV c fs (eK d c f) ?_;unfold eK;split
  ·exact h
  ·rename_i i;rw[cm];refine qm.mpr ⟨h,by simp,λa e b g z=>?_⟩
   simp at g;subst z;rw[g]at e;exact i (Aj.mpr e)
theorem oe(c:Int):∀(fs:List (List bz)) (a:dz),∀f∈fs,f∈(dj a c fs).map (·.1)
 | [],_,_,h=>nomatch h
 | g::fs,a,f,h=>by
  rcases aF.mp h with rfl | h
  ·obtain⟨b,d,_⟩:=fQ c fs (eK a c f);show f∈(dj (eK a c f) c fs).map (·.1);rw[d,cm];refine dI _ ?_;unfold eK;split
   ·rename_i e;exact Aj.mp e
   ·grind
  ·exact oe c fs (eK a c g) f h
section
variable (jn:List bz->Option (List (List bz))) (dU:List (List bz))
def VJ(a:dz):Prop:=∀(i:Nat) (f:List bz) (c:Int),a[i]?=some (f,c)->(c = -1/\f∈dU)\/∃(j:Nat) (g:List bz) (d:Int) (fs:List (List bz)),j<i/\c=(j:Int)/\a[j]?=some (g,d)/\jn g=some fs/\f∈fs
def Hb(a:dz)(k:Nat):Prop:=∀(j:Nat) (g:List bz) (d:Int),j<k->a[j]?=some (g,d)->∃fs,jn g=some fs/\∀f∈fs,f∈a.map (·.1)
def Hc:VJ jn dU (dj [] (-1) dU):=by
 obtain⟨a,b,d⟩:=fQ (-1) dU [];rw[fK]at b;intro i f c e;rw[b]at e;obtain⟨g,h⟩:=d _ (cZ e);exact .inl ⟨g,h⟩
def Lh{k:Nat}(h:VJ jn dU a)(hk:a[k]?=some (g,d))(ho:jn g=some fs):VJ jn dU (dj a (k:Int) fs):=by
 obtain⟨b,m,o⟩:=fQ k fs a;have E:=(bu.mp hk).1;have l:∀{j:Nat} {x:List bz×Int},a[j]?=some x->(a++b)[j]?=some x:=λ{j x} e=>by
  rw[cU (bu.mp e).1];exact e
 intro i f c e;rw[m]at e ⊢;by_cases p:i<a.length
 ·rw[cU p]at e;rcases h i f c e with z | ⟨j,q,r,t,u,v,w,y,B⟩
  ·exact .inl z
  ·exact .inr ⟨j,q,r,t,u,v,l w,y,B⟩
 ·rw[iX (by lia)]at e
  obtain⟨C,D⟩:=o _ (cZ e);exact .inr ⟨k,g,d,fs,by lia,C,l hk,ho,D⟩
def Hd(h:Hb jn a k)(hk:a[k]?=some (g,d))(ho:jn g=some fs):Hb jn (dj a (k:Int) fs) (k+1):=by
 obtain⟨c,i,t⟩:=fQ k fs a;have u:=(bu.mp hk).1;intro j l m v e;rw[i]at e;rw[cU (b6 ‹_› ‹_›)]at e;by_cases b:j=k
 ·subst b;rw[hk]at e;cases e;exact⟨fs,ho,oe j fs a⟩
 ·obtain⟨o,p,q⟩:=h j l m (by lia) e
  refine⟨o,p,λf r=>?_⟩
  rw[i,cm];exact dI _ (q f r)
theorem oQ(U:List (List bz))(B:Nat)(h:U.length+B<fD)(e:∀g∈U,∃fs,jn g=some fs/\(∀f∈fs,f∈U)/\fs.length<=B):∀(n k:Nat) (a:dz),U.length<n+k->k<=a.length->(a.map (·.1)).Nodup->(∀t∈a,t.1∈U)->VJ jn dU a->Hb jn a k ->
  ∃res,gy jn n k a=some res/\(res.map (·.1)).Nodup/\(∀t∈res,t.1∈U)/\VJ jn dU res/\Hb jn res res.length/\∃b,res=a++b
 | n,k,a,v,hk,nd,sub,why,done=>by
  have w:a.length<=U.length:=by
   have:=kA (a.map (·.1)) U nd λx y=>by
    grind
   rwa [aj]at this
  cases n with
  | zero=>lia
  | succ n =>
   cases ht:a[k]? with
   | none =>
    have i:a.length<=k:=by grind
    refine⟨a,?_,nd,sub,why,?_,[],by simp⟩
    ·show(match a[k]? with | none=>some a | some t=>_)=_
     rw[ht]
    ·grind
   | some t =>
    obtain⟨g,d⟩:=t;have j:=sub (g,d) (cZ ht);obtain⟨fs,c,C,D⟩:=e g j;obtain⟨b,E,H⟩:=fQ k fs a;have I:=(bu.mp ht).1;obtain⟨res,l,m,o,p,q,r,J⟩:=oQ U B h e n (k+1) (dj a k fs) (by lia) (by grind) (rV _ _ _ nd) (λt u=>by
     grind) (Lh jn dU why ht c) (Hd jn done ht c)
    refine⟨res,?_,m,o,p,q,b++r,by grind⟩
    show(match a[k]? with | none=>some a | some t=>(jn t.1).bind λfs=>if a.length+fs.length<fD then gy jn n (k+1) (dj a k fs)else none)=_
    rw[ht];show((jn g).bind λfs=>if a.length+fs.length<fD then gy jn n (k+1) (dj a k fs)else none)=_
    rw[c,cH,if_pos (by lia)]
    exact l
def Di(U:List (List bz))(B:Nat)(c:U.length+B<fD)(q:U.length<ve)(e:∀g∈U,∃fs,jn g=some fs/\(∀f∈fs,f∈U)/\fs.length<=B)(r:∀f∈dU,f∈U) :
  ∃res,gy jn ve 0 (dj [] (-1) dU)=some res/\(res.map (·.1)).Nodup/\(∀t∈res,t.1∈U)/\VJ jn dU res/\Hb jn res res.length/\∀f∈dU,f∈res.map (·.1):=by
 obtain⟨b,u,v⟩:=fQ (-1) dU [];obtain⟨res,h,i,k,l,m,w,o⟩:=oQ jn dU U B c e ve 0 (dj [] (-1) dU) (Nat.le_add_right_of_le ‹_›) (fj _) (rV _ _ _ jO) (λt ht=>by
  grind) (Hc jn dU) (λj g d p=>absurd p (BX _))
 exact⟨res,h,i,k,l,m,λf a=>by rw[o,cm];exact dI _ (oe _ _ _ f a)⟩
end
def VL(k:bz):zu (rR k)=some k:=by cases k<;>rfl
theorem Li:∀ks:List bz,cb zu (ks.map rR)=some ks
 | []=>rfl
 | k::ks=>by simp only[aI,cb,VL,Li ks,cH,gF]
def ET(h:ks.length<1000):gM true (dP ks)=some ks:=by
 show(if(ks.map rR).length<1000 then cb zu (ks.map rR)else none)=_
 rw[aj,if_pos h,Li]
def Lj(k:bz):noRef (rR k)=true:=by cases k<;>rfl
theorem EU:∀ks:List bz,ai (ks.map rR)=true
 | []=>rfl
 | k::ks=>by simp[ai,Lj,EU ks]
def Pp(ks:List bz):noRef (dP ks)=true:=by simp[dP,noRef,EU]
def hS(hd:List ak)(a:dz):List ak:=hd++[⟨.lst,a.map toldP⟩,⟨.fu true (a.map (·.1)),a.map λ_=>.bl true⟩]
section
variable {hd:List ak} {ag:dz}
def ZV:(hS hd ag)[hd.length]?=some ⟨.lst,ag.map toldP⟩:=by simp[hS]
def ZW:(hS hd ag)[hd.length+1]?=some ⟨.fu true (ag.map (·.1)),ag.map λ_=>.bl true⟩:=by simp[hS]
def RS(h:j<hd.length):(hS hd ag)[j]?=hd[j]?:=by unfold hS;rw[cU h]
def ZX(a b c:ak):(hd++[a,b]).set (hd.length+1) c=hd++[a,c]:=by
 simp_all
def ZY(a b c:ak):(hd++[a,b]).set hd.length c=hd++[c,b]:=by
 grind
end
def mE:Gx dE :=
 (dN (toB (op2 (pO true) (rd 4) (rd 1)))
  (dW (OX (aW (.bl true)) (rd 1) (rd 4))
  (gq (yv "list" (iO (gU wO)) (rd 0) (aq (op2 eG (rd 4) (kF .ao (aq (rd 3) (aW [])))) (aW [])))))
  (aW .nx))
def vf(d:f.length<1000)(l:a.length<4000000) :
  Ev mE ⟨[some (.ref hd.length),some (.ref (hd.length+1)),g,some (.int b),some (dP f)],hS hd a⟩ .nx ⟨[some (.ref hd.length),some (.ref (hd.length+1)),g,some (.int b),some (dP f)],hS hd (eK a b f)⟩:=by
 have j:cw (hS hd a) (.ref (hd.length+1))=some (.fu true (a.map (·.1)),a.map λ_=>.bl true):=by
  show((hS hd a)[hd.length+1]?).bind _=_;rw[ZW];rfl
 have t:pO true (hS hd a) (dP f) (.ref (hd.length+1))=some (.bl (!Ha (a.map (·.1)) f)):=by
  unfold pO;rw[j];show(gM true (dP f)).map _=_;rw[ET d];rfl
 unfold mE eK;cases hm:Ha (a.map (·.1)) f with
 | true =>
  rw[hm]at t;rw[if_pos rfl];exact iF (bT (b2 rfl rfl t)) rfl
 | false =>
  rw[hm]at t;rw[if_neg c5];refine iT (bT (b2 rfl rfl t)) (sq (s1:=⟨[some (.ref hd.length),some (.ref (hd.length+1)),g,some (.int b),some (dP f)],hd++[⟨.lst,a.map toldP⟩,⟨.fu true (a.map (·.1)++[f]),(a.map λ_=>PV.bl true)++[.bl true]⟩]⟩) ?_ ?_)
  ·refine eB rfl (eB rfl (eB rfl ?_));show(CP (.ref (hd.length+1)) (dP f) (.bl true) _).map _=_;have c:gX (hS hd a) (.ref (hd.length+1))=some (hd.length+1,⟨.fu true (a.map (·.1)),a.map λ_=>.bl true⟩):=by
    show((hS hd a)[hd.length+1]?).bind _=_;rw[ZW];rfl
   unfold CP;rw[c];show((gM true (dP f)).bind _).map _=_;rw[ET d];show Option.map _ (if(a.map (λt:List bz×Int=>t.1)).length<fD then _ else _)=_
   rw[if_pos (show(a.map (·.1)).length<fD by rw[aj];have:fD=4000000:=rfl;lia)]
   unfold mr;rw[show jC f (a.map (·.1))=false from hm,if_neg c5]
   show some (Rs.ok dE.nx,cz.mk _ ((hd++_).set (hd.length+1) _))=_;rw[ZX]
  ·have k:∀h,eG h (dP f) (.ao [.int b])=some (toldP (f,b)):=λh=>by
    have e:eG h (dP f) (.ao [.int b])=sizeOk ((f.map rR).length+1) (toldP (f,b)):=rfl;rw[e,aj];exact if_pos (show f.length+1<=fD by have:fD=4000000:=rfl;lia)
   have i:(hd++[⟨.lst,a.map toldP⟩,⟨.fu true (a.map (·.1)++[f]),(a.map λ_=>PV.bl true)++[.bl true]⟩]:List ak)[hd.length]?=some ⟨.lst,a.map toldP⟩:=by simp
   refine dS (p:=.bj) (yy rfl i (cA (b2 rfl (tU (cA rfl rfl) (by simp)) (k _)) rfl) ((aC i (by rw[aj];lia)).trans ?_))
   rw[ZY];simp[hS]
theorem vg:∀(fs:List (List bz)) (a:dz) (o:Option PV),(∀f∈fs,f.length<1000)->a.length+fs.length<4000000 ->
  ∃c,dv (aV 4) mE (fs.map dP) ⟨[some (.ref hd.length),some (.ref (hd.length+1)),d,some (.int b),o],hS hd a⟩=some (.ok .nx,⟨[some (.ref hd.length),some (.ref (hd.length+1)),d,some (.int b),c],hS hd (dj a b fs)⟩)
 | [],a,o,_,_=>⟨o,rfl⟩
 | f::fs,a,o,hf,e=>by
  simp only[aN]at e;have i:=nZ a b f;obtain⟨c,ih⟩:=vg fs (eK a b f) (some (dP f)) (λg h=>hf g (aG _ h)) (by lia)
  exact⟨c,fC rfl (vf (hf f aD) (by lia)) ih⟩
def Ak:Gx dE:=zF (jF (rd 2)) (aV 4) mE
def ZZ(c:CT)(ω:PV->Gx PV)(n:Nat):Gx dE :=
 (dW (gq (bnd (aq (rd 2) (aq (rd 3) (aq (Ki 1 n ω (cutE (op2 bR (rd 2) (rd 4)) (aW none) (rh (zq (aW (.int 1)))))) (aq (rd 4) (aW []))))) (cC 0 4 (c "tell_new"))))
  (dh (op2 Pl (rd 4) (aW (.int 1))) (aV 4)))
def VM(c:CT)(ω:PV->Gx PV)(n:Nat):Gx dE :=
 (dW (dh (zf (aW [])) (aV 2))
  (dW (dh (Ke true) (aV 3))
  (dW (gq (bnd (aq (rd 2) (aq (rd 3) (aq (rd 0) (aq (zq (aW (.int 1))) (aW []))))) (cC 0 4 (c "tell_new"))))
  (dW (dh (aW (.int 0)) (aV 4))
  (dW (jk (toB (op2 JC (rd 4) (gw gK (aq (rd 2) (aW []))))) (ZZ c ω n) ZT)
  (retS (rd 2)))))))
def Al(b:∀f∈fs,f.length<1000)(c:a.length+fs.length<4000000) :
  dO Ak 5 [.ref hd.length,.ref (hd.length+1),.lst (fs.map dP),.int d] (hS hd a)=some (.ok .bj,hS hd (dj a d fs)):=by
 obtain⟨g,e⟩:=vg fs a none b c;exact VI (fS (sV rfl rfl) e)
theorem rW{all:List (List bz)}(k:hd[j]?=some ⟨.lst,all.map dP⟩):∀(fs:List (List bz)) (i c:Nat) (a:dz) (o:Option PV),all.drop i=fs->(∀f∈fs,f.length<1000)->a.length+fs.length<4000000->fs.length<c ->
  ∃l,zE (aV 4) mE j c i ⟨[some (.ref hd.length),some (.ref (hd.length+1)),e,some (.int b),o],hS hd a⟩=some (.ok .nx,⟨[some (.ref hd.length),some (.ref (hd.length+1)),e,some (.int b),l],hS hd (dj a b fs)⟩)
 | fs,i,0,a,o,_,_,_,h=>by lia
 | fs,i,c+1,a,o,d,hf,r,m=>by
  have t:=(bu.mp k).1;have nx:J0 j (hS hd a) i=some ((all.map dP)[i]?):=by
   unfold J0;have:cw (hS hd a) (.ref j)=some (.lst,all.map dP):=by
    show((hS hd a)[j]?).bind _=_;rw[RS t,k];rfl
   rw[this]
  have u:zE (aV 4) mE j (c+1) i ⟨[some (.ref hd.length),some (.ref (hd.length+1)),e,some (.int b),o],hS hd a⟩=(match J0 j (hS hd a) i with
   | some (some p)=>bnd (stp (aV 4 p)) (λ_=>bnd mE (uN (zE (aV 4) mE j c (i+1)))) ⟨[some (.ref hd.length),some (.ref (hd.length+1)),e,some (.int b),o],hS hd a⟩
   | some none=>some (.ok .nx,⟨[some (.ref hd.length),some (.ref (hd.length+1)),e,some (.int b),o],hS hd a⟩)
   | none=>none):=rfl
  rw[u,nx,bG];cases fs with
  | nil =>
   have:=List.drop_eq_nil_iff.mp d;rw[iZ this];exact⟨o,rfl⟩
  | cons f fs =>
   have q:i<all.length:=by
    rcases Nat.lt_or_ge i all.length with h | h
    ·exact h
    ·rw[vG h]at d;cases d
   rw[nu q]at d;injection d with e1 v
   simp only[aN]at r m;have x:=nZ a b f;obtain⟨l,ih⟩:=rW k fs (i+1) c (eK a b f) (some (dP f)) v (λg w=>hf g (aG _ w)) (by lia) (by lia)
   refine⟨l,?_⟩;rw[bQ q,e1];exact eB rfl (eB (vf (hf f aD) (by lia)) ih)
def He(b:hd[j]?=some ⟨.lst,fs.map dP⟩)(c:∀f∈fs,f.length<1000)(d:a.length+fs.length<4000000) :
  dO Ak 5 [.ref hd.length,.ref (hd.length+1),.ref j,.int g] (hS hd a)=some (.ok .bj,hS hd (dj a g fs)):=by
 obtain⟨i,e⟩:=rW b fs 0 fD a none rfl c d (by have:fD=4000000:=rfl;lia)
 have h:=(bu.mp b).1;refine VI (eB (eB rfl ?_) (show YY (aV 4) mE (yu.cl j) _=_ from e))
 have:cw (hS hd a) (.ref j)=some (.lst,fs.map dP):=by
  show((hS hd a)[j]?).bind _=_;rw[RS h,b];rfl
 unfold J1;show Option.map _ (match cw (hS hd a) (.ref j)with | some (.lst,_)=>some (yu.cl j) | _=>none)=_
 rw[this];rfl
def VN(e:cw h (.ref n)=some (.lst,ps)):bR h (.ref n) (.int i)=L2.km ps i:=by
 unfold bR;simp only[e];rfl
def Lk(ps:List PV)(p:PV):jU (ps++[p]) none (some (-1))=ps:=by
 unfold jU;have e:HT.eE (ps++[p]).length (ps++[p]).length (some (-1))=ps.length:=by
  simp[HT.eE]
  lia
 rw[HT.yT,e,List.drop_zero,Nat.sub_zero];simp
def cE'(h1:Ev a s p s1)(h2:Ev b s1 l s2)(c:Ev d s2 h s3)(e:Gn s3.h l h p=some q):Ev (cutE a b d) s q s3:=eB h1 (eB h2 (eB c (by show(Gn s3.h l h p).map _=_;rw[e];rfl)))
section
variable {c:CT} {hd:List ak} {jn:List bz->Option (List (List bz))} {ω:PV->Gx PV} {n:Nat} (hc:c "tell_new"=dO Ak 5)
  (hω:∀g fs,jn g=some fs->(∀f∈fs,f.length<1000)/\∀ag ρ,ω (dP g) ⟨ρ,hS hd ag⟩=some (.ok (.lst (fs.map dP)),⟨ρ,hS hd ag⟩))
include hc hω
theorem Am(p:Option PV):∀(N k b:Nat) (a res:dz),gy jn N k a=some res->N<=b->a.length<4000000 ->
  ∃k',jk (toB (op2 JC (rd 4) (gw gK (aq (rd 2) (aW []))))) (ZZ c ω n) b ⟨[p,some (.ref n),some (.ref hd.length),some (.ref (hd.length+1)),some (.int (k:Int))],hS hd a⟩=some (.ok .nx,⟨[p,some (.ref n),some (.ref hd.length),some (.ref (hd.length+1)),k'],hS hd res⟩)
 | 0,_,_,_,_,h,_,_=>by cases h
 | N+1,k,b,a,res,h,hf,o=>by
  obtain⟨b,rfl⟩:∃f,b=f+1:=⟨b-1,by lia⟩
  have dT:cw (hS hd a) (.ref hd.length)=some (.lst,a.map toldP):=by
   show((hS hd a)[hd.length]?).bind _=_;rw[ZV];rfl
  have t:Ek (toB (op2 JC (rd 4) (gw gK (aq (rd 2) (aW []))))) ⟨[p,some (.ref n),some (.ref hd.length),some (.ref (hd.length+1)),some (.int k)],hS hd a⟩ (decide (k<(a.length:Int))):=bT (b2 rfl (bV (cA rfl rfl) (by
   have e:YK (hS hd a) (.ref hd.length)=some a.length:=by
    unfold YK;rw[dT];show some (a.map toldP).length=_;rw[aj]
   show Option.map _ (Option.bind (YK (hS hd a) (.ref hd.length)) _)=_;rw[e];rfl)) rfl)
  have h:(match a[k]? with | none=>some a | some t=>(jn t.1).bind λfs=>if a.length+fs.length<fD then gy jn N (k+1) (dj a k fs)else none)=some res:=h
  cases hk:a[k]? with
  | none =>
   rw[hk]at h;cases h;have j:=iY.mp hk;rw[lB (by lia)]at t
   exact⟨_,eB t rfl⟩
  | some tt =>
   obtain⟨g,d⟩:=tt;rw[hk]at h;obtain⟨fs,l,h⟩:=aR h;obtain⟨i,h⟩:=bP h;have i:a.length+fs.length<4000000:=i;obtain⟨m,hw⟩:=hω g fs l;have q:=(bu.mp hk).1;have r:=n6 k fs a;obtain⟨k',ih⟩:=Am p N (k+1) b (dj a k fs) res h (by lia) (ny ‹_› ‹_›)
   refine⟨k',?_⟩;rw[fg (by lia)]at t
   have ct:Gn (hS hd a) none (some (-1)) (toldP (g,d))=some (dP g):=by
    show some (PV.ao (jU (g.map rR++[.int d]) none (some (-1))))=_;rw[Lk];rfl
   refine eB t ?_;refine eB (sq (dS (clG (cA rfl (cA rfl (cA (eB rfl (eB (show Option.map _ (if n=n then some ()else none)=_ by rw[if_pos rfl];rfl) (eB (cE' (b2 rfl rfl (by
    rw[VN dT];exact atI_nat (by grind))) rfl rfl ct) (hw a _)))) (cA rfl rfl)))) rfl (by
    have:(hS hd a).isEmpty=false:=by simp[hS]
    rw[this];rfl) (by rw[hc];exact Al m i))) (aS (b2 rfl rfl rfl) rfl)) ih
def Pq(hp:p=.lst (fk.map dP)\/∃j,p=.ref j/\hd[j]?=some ⟨.lst,fk.map dP⟩)(hk:∀f∈fk,f.length<1000)(k:fk.length<4000000)(a:gy jn ve 0 (dj [] (-1) fk)=some res) :
  dO (VM c ω n) 5 [p,.ref n] hd=some (.ok (.ref hd.length),hS hd res):=by
 have b:=n6 (-1) fk [];simp only[vT,eS]at b;obtain⟨l,e⟩:=Am hc hω (some p) ve 0 ZT (dj [] (-1) fk) res a (by decide) (ny ‹_› ‹_›)
 have d:hS hd []=(hd++[⟨.lst,[]⟩])++[⟨.fu true [],[]⟩]:=by simp[hS]
 have g:Ev (dh (zf (aW [])) (aV 2)) ⟨[some p,some (.ref n),none,none,none],hd⟩ .nx ⟨[some p,some (.ref n),some (.ref hd.length),none,none],hd++[⟨.lst,[]⟩]⟩:=rfl;have run:c "tell_new" [.ref hd.length,.ref (hd.length+1),p,.int (-1)] (hS hd [])=some (.ok .bj,hS hd (dj [] (-1) fk)):=by
  rw[hc];rcases hp with rfl | ⟨j,rfl,h⟩
  ·exact Al hk (by grind)
  ·exact He h hk (by grind)
 have i:Ev (gq (bnd (aq (rd 2) (aq (rd 3) (aq (rd 0) (aq (zq (aW (.int 1))) (aW []))))) (cC 0 4 (c "tell_new")))) ⟨[some p,some (.ref n),some (.ref hd.length),some (.ref (hd.length+1)),none],hS hd []⟩ .nx ⟨[some p,some (.ref n),some (.ref hd.length),some (.ref (hd.length+1)),none],hS hd (dj [] (-1) fk)⟩ :=
  dS (clG (s1:=⟨[some p,some (.ref n),some (.ref hd.length),some (.ref (hd.length+1)),none],hS hd []⟩) (cA rfl (cA rfl (cA rfl (cA rfl rfl)))) rfl (by
   have:(hS hd []).isEmpty=false:=by simp[hS]
   rw[this];rfl) run)
 exact j4 (sq g (sq (by
  rw[d,<-show(hd++[(⟨.lst,[]⟩:ak)]).length=hd.length+1 by simp]
  rfl) (sq i (sq rfl (sq e (rS rfl))))))
end
end L2.U
namespace bZ
open PySem L2 L2.U
abbrev rX:Stmt:=top 16
abbrev Z0:Stmt:=top 81
abbrev kI (n : Int) : Gx PV := aW (.int n)
abbrev kS (s : Str) : Gx PV := aW (.str s)
abbrev Q2 := op2 bR (rd 1) (kI 1)
abbrev Q3 := cR (aV 2) (cR (aV 3) lK)
abbrev Q4 := kF .ao (aq (kS "lent") (aq (kS "sole") (aW [])))
abbrev Q0 := dN (toB (op2 iL (op2 bR (rd 1) (kI 0)) (kS "give"))) (dN (toB (op2 JF Q2 (kS ""))) (toB (op2 (pO false) (op2 bR (op2 bR (rd 0) Q2) (kI 0)) Q4)) (aW false)) (aW false)
abbrev Q5 := aq (rd 1) (aW [])
abbrev Q6 := dN Q0 (dh (kF .lst (aq (kF .ao (aq Q2 (aq (aW (.bl true)) (aq (kF .ao (aW [])) (aq (aW (.bj)) (aW [])))))) (aW []))) (aV 2)) (aW .nx)
abbrev Q7 := cR (aV 4) (cR (aV 5) lK)
abbrev Q8 := gw gK (aq (rd 2) (aW []))
abbrev Q9 := dN (toB (op2 iL (rd 2) (op2 bR (rd 4) (kI 1)))) (dN (fX (rd 3)) (aW true) (toB (op2 iL (rd 5) (kS "lend")))) (aW false)
abbrev Qa := dh (rd 2) (gj 6 (cR (aV 3) (cR (aV 4) (cR (aV 5) (cR (aV 6) (cR (aV 7) (cR (aV 8) lK)))))))
abbrev Qb := orG (rd 6) (kF .lst (aq (aW (.ao [(.str "rest"),(.str ""),(.bl false),(.int 0),(.int 0),(.str "")])) (aW [])))
abbrev Qc := gj 2 (cR (aV 1) (cR (aV 2) lK))
abbrev Qd := aq (rd 2) (aq (op2 bR (rd 1) (op2 bR (rd 0) (kI 0))) (aq (rd 0) (aW [])))
abbrev Qe := aq (rd 3) (aW [])
abbrev Qf := dN (toB (op2 iL (op2 bR (rd 2) (kI 0)) (kS "strip"))) (fX (rd 3)) (aW false)
abbrev Qg := gj 3 (cR (aV 1) Q3)
abbrev Qh := zf (aW [])
abbrev Qi := toB (op2 (pO false) (op2 bR (op2 bR (rd 2) (rd 1)) (kI 0)) Q4)
abbrev Q1 := dN (toB (op2 iL (op2 bR (rd 1) (kI 0)) (kS "call"))) (dh (di false [none,none,some 0] (jF (op2 bR (rd 1) (kI 3))) (jD (aV 1) Qi (kF .ao (aq (rd 1) (aq (aW (.bl true)) (aq (kF .ao (aW [])) (aq (aW (.bj)) (aW [])))))))) (aV 2)) (aW .nx)
abbrev Qj := op2 bR (rd 5) (kI 0)
abbrev Qk := gj 3 (cR (aV 4) (cR (aV 5) (cR (aV 6) lK)))
abbrev Ql := dN (toB (op2 iL (rd 2) (rd 4))) (fX (rd 3)) (aW false)
abbrev Qm := toB (op2 iL Q2 (kS ""))
abbrev Qn := aq (rd 0) Q5
abbrev Qo := gj 2 (cR (aV 3) (cR (aV 4) lK))
abbrev Qp := op2 eG (rd 4) (kI 1)
abbrev Qq := toB (op2 (pO false) (op2 bR Q2 (kI 0)) Q4)
abbrev Qr := toB (op2 iL (op2 bR (rd 3) (kI 0)) (rd 1))
abbrev Qs := op2 bR (rd 2) (kI 1)
abbrev Qu := aq (rd 6) (aW [])
abbrev Qv := dh (op2 bR (rd 0) (rd 1)) (aV 2)
abbrev Qw := toB (op2 iL (gw gK Q5) (kI 4))
abbrev Qx := jF (rd 3)
abbrev Qy := gw gK (aq (rd 7) (aW []))
abbrev Qz := aq (rd 0) (aq Q2 (aW []))
def VO:List (Str×Nat):=txt.defs.map λd=>(d.1,(params d.2).length)
abbrev Rn(x:Str)(F:CT->Gx dE)(n:Nat):Prop:=∀k,run txt (k+1) x=dO (F (run txt k)) n
open Lean Meta in
dsimproc_decl pqF (Str.mk _):=λe=>do
 let .app _ (.app _ l):=e | return .continue
 let some l <-getListLit? l | return .continue
 return .done (mkApp (mkConst ``Str.ofString) (toExpr (String.ofList (l.toList.map λx=>Char.ofNat (x.nat?.getD 0)))))
open Lean in
dsimproc_decl pqI (Int.ofNat _):=λe=>do
 let .app _ n:=e | return .continue
 let some n:=n.nat? | return .continue
 return .done (toExpr (n:Int))
def gg(x:Str)(i n k:Nat){f:CT->Gx dE}(h:∀k,run txt (k+1) x=dO (RN txt x (top i) (run txt k)) n:=by intro _;kernel_rfl)(e:∀c,RN txt x (top i) c=f c:=by intro c;conv=>(lhs;reduce;simp only[pqF,pqI])):run txt (k+1) x=dO (f (run txt k)) n:=by rw[h,e]
noncomputable def lbP(s:List Stmt):List Nat->List Stmt
 | []=>s
 | i::r=>lbP (match s[i]? with | some (.For _ _ b _ _) | some (.If _ b _ _)=>b | _=>[]) r
def pC(x:Str)(i:Nat)(p:List Nat)(c:CT):Gx dE:=j0 Dd (VA txt x (top i) (Vz txt) (W3 txt c) (VB txt x c) none c) (lbP (dm (top i)) p)
abbrev m9(a:Gx dE){f:Gx dE}(_:a=f:=by conv=>(lhs;reduce;simp only[pqF,pqI])):Gx dE:=f
section
seal dW U3 op2 bR rd bnd aq aW cC di jF lM jD aV gq yv zx dN toB JF retS kF dh zf zF gw Gp cJ zd chain leO JC gK Pl Gu cutE rh pO iL eG gj cR lK fX Ke zq jk OX iO gU wO zM Kf orG CJ rD zy Kj lrg T9 U5 Ux YI Gs mkP W3 U2 ph wR YG geO gk tV Gq iJ Og Oz JN Ua EI Ki dO W4 Kb Ko G1 Kz OS
def Dj(k:Nat):=gg "leaves" 5 3 k
def rY(k:Nat):=gg "check_part" 6 2 k
noncomputable def Ll(c:CT):=m9 (pC "part" 7 [1] c)
def Lm(k:Nat):=gg "part" 7 4 k
noncomputable def Hf(c:CT):=m9 (pC "first" 8 [2] c)
def Hg(k:Nat):=gg "first" 8 5 k
def ud(k:Nat):=gg "is_copied" 9 1 k
noncomputable def An(c:CT):=m9 (pC "kind_of" 12 [0] c)
def Ao(k:Nat):=gg "kind_of" 12 4 k
def ue(k:Nat):=gg "is_holder" 13 1 k
def xq(k:Nat):=gg "shape_of" 14 1 k
def xt(k:Nat):=gg "tell_new" 17 5 k
noncomputable def oR(c:CT):=m9 (RN txt "row_nexts" (top 29) c)
theorem uf:Rn "row_nexts" oR 3:=λ_=>by kernel_rfl
noncomputable def rZ(c:CT):Gx dE :=
 (dW (dh (zM VO c (Kf (λk=>(List.lookup k jf).map .fn) Qj) (aq (rd 2) (aq (rd 5) (aW [])))) (aV 6))
  (gq (yv "list" zx (rd 3) (aq (di false [none,none,some 4] (jF Qb) (lM (aV 1) (op2 eG (kF .ao (aq (rd 2) (aW []))) (rd 1)))) (aW [])))))
noncomputable def VP(c:CT):Gx dE :=
 (dW Qv
  (dW (dh Qh (aV 3))
  (dW (zF (CJ (rD (op2 bR (rd 2) (kI 4)))) (gj 2 Q7) (rZ c))
  (retS (rd 3)))))
theorem Ln:Rn "acts" VP 7:=λ_=>by kernel_rfl
noncomputable def vh(c:CT):=m9 (pC "nexts" 31 [2] c)
noncomputable def og(c:CT):=m9 (pC "nexts" 31 [4] c)
def Hh(k:Nat):=gg "nexts" 31 7 k
def Ap(k:Nat):=gg "touched" 32 1 k
def r9(k:Nat):=gg "is_lending" 33 1 k
def Hi(k:Nat):=gg "touch" 34 6 k
def pE(k:Nat):=gg "touch_whole" 35 4 k
def Aq(k:Nat):=gg "at_acts" 36 2 k
def oh(k:Nat):=gg "operand_acts" 37 2 k
noncomputable def kZ(c:CT):=m9 (RN txt "target_acts" (top 38) c)
theorem pF:Rn "target_acts" kZ 2:=λ_=>by kernel_rfl
def xu(k:Nat):=gg "put_acts" 39 2 k
def xw(k:Nat):=gg "set_acts" 40 2 k
def ug(k:Nat):=gg "copy_acts" 41 2 k
def uh(k:Nat):=gg "move_acts" 42 2 k
def ui(k:Nat):=gg "drop_acts" 43 2 k
def uj(k:Nat):=gg "lend_acts" 44 2 k
def uk(k:Nat):=gg "call_acts" 45 3 k
def Ar(k:Nat):=gg "arg_act" 46 4 k
def um(k:Nat):=gg "owner_act" 47 2 k
def xx(k:Nat):=gg "say_acts" 50 2 k
def k0(k:Nat):=gg "give_acts" 51 2 k
noncomputable def vi(c:CT):=m9 (pC "needs" 54 [3] c)
noncomputable def Pr(c:CT):Gx dE :=
 (dW (dh (bnd Qn (cC 0 2 (c "acts"))) (aV 6))
  (dW (dh (bnd (aq (bnd Qn (cC 0 2 (c "nexts"))) (aW [])) (cC 0 1 (c "acts_ahead"))) (aV 5))
  (dW (dh Qh (aV 2))
  (dW (zF (CJ (rD (rd 6))) Qo (vi c))
  (retS (Kj (λa n=>dO (W4 txt rX c a n) 5) (rd 2) (bnd Qd (cC 0 3 (c "needed_ahead"))) [some 5,some 6]))))))
theorem Hj:Rn "needs" Pr 7:=λ_=>by kernel_rfl
noncomputable def j6(c:CT):=m9 (pC "acts_ahead" 55 [1,0] c)
noncomputable def se(c:CT):=m9 (pC "acts_ahead" 55 [1] c)
def sg(k:Nat):=gg "acts_ahead" 55 5 k
def uo(k:Nat):=gg "needed_by" 56 2 k
noncomputable def Dk(c:CT):=m9 (pC "handed" 57 [1] c)
def Dl(k:Nat):=gg "handed" 57 4 k
def oi(k:Nat):=gg "needed_ahead" 58 3 k
def xy(k:Nat):=gg "_law_cell_at" 60 2 k
def Dn(k:Nat):=gg "_law_mixed" 61 4 k
noncomputable def si(c:CT):=m9 (pC "_law_names" 62 [5,1] c)
noncomputable def sj(c:CT):=m9 (pC "_law_names" 62 [5] c)
def Dp(k:Nat):=gg "_law_names" 62 10 k
def Dq(k:Nat):=gg "_law_shape" 63 4 k
noncomputable def oS(c:CT):=m9 (pC "_law_leaves" 64 [2] c)
def oT(k:Nat):=gg "_law_leaves" 64 3 k
noncomputable def sk(c:CT):=m9 (pC "_law_parts" 65 [1,0] c)
def su(k:Nat):=gg "_law_parts" 65 4 k
noncomputable def Hk(c:CT):=m9 (pC "_law_lets" 66 [3] c)
def Hl(k:Nat):=gg "_law_lets" 66 8 k
noncomputable def Dr(c:CT):=m9 (pC "_law_spots" 67 [1,3] c)
noncomputable def Ds(c:CT):=m9 (pC "_law_spots" 67 [1] c)
def Dt(k:Nat):=gg "_law_spots" 67 8 k
noncomputable def mG(c:CT):=m9 (pC "_law_numbers" 68 [1] c)
def xA(k:Nat):=gg "_law_numbers" 68 7 k
def xB(k:Nat):=gg "_law_operand" 69 3 k
def xD(k:Nat):=gg "_law_carried" 70 9 k
def xE(k:Nat):=gg "_law_lending" 71 9 k
def Hm(k:Nat):=gg "_law_call" 72 10 k
def sv(k:Nat):=gg "_law_small_row" 73 6 k
def Lo(k:Nat):=gg "_law_row" 74 14 k
noncomputable def sx(c:CT):=m9 (RN txt "_law_program" (top 75) c)
theorem xF:Rn "_law_program" sx 24:=λ_=>by kernel_rfl
noncomputable def Du(c:CT):=m9 (pC "_law_first" 76 [1,0] c)
noncomputable def Dv(c:CT):=m9 (pC "_law_first" 76 [1] c)
def Dw(k:Nat):=gg "_law_first" 76 5 k
noncomputable def oU(c:CT):=m9 (pC "_law_starts" 77 [1] c)
def As(k:Nat):=gg "_law_starts" 77 4 k
noncomputable def xG(c:CT):=m9 (pC "_law_touched" 78 [3] c)
def xJ(k:Nat):=gg "_law_touched" 78 5 k
noncomputable def xK(c:CT):=m9 (pC "_law_through" 79 [4] c)
def xM(k:Nat):=gg "_law_through" 79 5 k
def sy(k:Nat):=gg "_law_given" 80 1 k
noncomputable def Pt(c:CT):=m9 (pC "law" 81 [8,1] c)
noncomputable def EV(c:CT):=m9 (pC "law" 81 [8,2] c)
noncomputable def EW(c:CT):=m9 (pC "law" 81 [8] c)
def Pu(k:Nat):=gg "law" 81 15 k
noncomputable def Au(c:CT)(ω:PV->Gx PV)(n:Nat):Gx dE :=
 (dW (gq (bnd (aq (rd 2) (aq (rd 3) (aq (Ki 1 n ω (cutE (op2 bR (rd 2) (rd 4)) (aW none) (rh (zq (kI 1))))) (aq (rd 4) (aW []))))) (cC 0 4 (c "tell_new"))))
  (dh (op2 Pl (rd 4) (kI 1)) (aV 4)))
noncomputable def Hn(c:CT)(ω:PV->Gx PV)(n:Nat):Gx dE :=
 (dW (dh Qh (aV 2))
  (dW (dh (Ke true) (aV 3))
  (dW (gq (bnd (aq (rd 2) (aq (rd 3) (aq (rd 0) (aq (zq (kI 1)) (aW []))))) (cC 0 4 (c "tell_new"))))
  (dW (dh (kI 0) (aV 4))
  (dW (jk (toB (op2 JC (rd 4) Q8)) (Au c ω n) ZT)
  (retS (rd 2)))))))
theorem Dx(c:CT)(ω:PV->Gx PV)(n:Nat):W4 txt rX c ω n=Hn c ω n:=by kernel_rfl
end
abbrev S0(l:List (Option PV)):cz:=⟨l,[]⟩
section
variable {s s1:cz} {ts:Gx (List PV)} {as:List PV} {q:PV}
theorem de{n:Nat}{g:nU}(a:Ev ts s as s1)(b:as.length=n)(c:(s1.h.isEmpty || ai as)=true)(hc:Gives (g as []) q):Ev (bnd ts (cC 0 n g)) s q s1:=let ⟨_,_,d,e⟩:=hc;clV a b c d e
theorem gV{f:Gx dE}{n:Nat}{p:PV}{G8:List (Option PV)}{h':List ak}(e:f ⟨gm n as,[]⟩=some (.ok (.rt p),⟨G8,h'⟩))(hp:noRef p=true):Gives (dO f n as []) p:=⟨p,h',j4 e,Dg hp⟩
theorem gN{f:Gx dE}{n:Nat}{G8:List (Option PV)}{h':List ak}(e:f ⟨gm n as,[]⟩=some (.ok .nx,⟨G8,h'⟩)):Gives (dO f n as []) .bj:=⟨.bj,h',VI e,Dg rfl⟩
end
theorem fA(h:List ak)(a b:Str):iL h (.str a) (.str b)=some (.bl (a==b)):=rfl
noncomputable def W5:Sh->Str
 | .num=>"num"
 | .own=>"own"
 | .bL _=>"strip"
 | .bA _=>"rec"
theorem oV(h:List ak)(s:Sh):bR h (enc s) (.int 0)=some (.str (W5 s)):=by cases s<;>rfl
inductive Kn where
 | ow (s:Sh) | ho (ahE:Bool) (s:Sh)
noncomputable def hw(b:Bool):Str:=if b then "sole" else "lent"
def encK:Kn->PV
 | .ow s=>enc s
 | .ho b s=>.ao [.str (hw b),enc s]
def bE:Kn->Sh
 | .ow s=>s
 | .ho _ s=>s
noncomputable def dy:Kn->Bool
 | .ow _=>false
 | .ho _ _=>true
theorem xN(d:Kn):noRef (encK d)=true:=by
 cases d with
 | ow s=>exact dw s
 | ho b s=>simp[encK,noRef,ai,dw]
theorem Pw(d:Kn):((bR [] (encK d) (.int 0)).bind λw=>pO false [] w (.ao [.str "lent",.str "sole"]))=some (.bl (dy d)):=by
 cases d with
 | ow s=>cases s<;>kernel_rfl
 | ho b s=>cases b<;>kernel_rfl
theorem f9(k:Nat)(d:Kn):Gives (run txt (k+1) "is_holder" [encK d] []) (.bl (dy d)):=by
 rw[ue];obtain⟨w,a,b⟩:=lg.mp (Pw d);exact gV (rS (b2 (b2 rfl rfl a) rfl b)) rfl
theorem Dy(k:Nat)(d:Kn):Gives (run txt (k+2) "shape_of" [encK d] []) (enc (bE d)):=by
 rw[xq];have h:=f9 k d;refine gV (G8:=[some (encK d)]) (h':=[]) (rS (eI (tR (de (cA rfl rfl) rfl rfl h) rfl) ?_)) (dw _);cases d with
 | ow s=>rfl
 | ho b s=>rfl
abbrev Rk:=Str×Kn
def bC(r:Rk):PV:=.ao [.str r.1,encK r.2]
def jB:List Rk->Str->Option Kn
 | [],_=>none
 | r::l,x=>if r.1=x then some r.2 else jB l x
theorem fU:∀(l:List Rk) (r:Rk),(l.map (·.1)).Nodup->r∈l->jB l r.1=some r.2
 | s::l,r,a,h=>by
  rw[aI,fL]at a;rcases aF.mp h with rfl | h
  ·rw[jB,if_pos rfl]
  ·rw[jB,if_neg,fU l r a.2 h];intro e;exact a.1 (az.mpr ⟨r,h,e.symm⟩)
theorem vj(c:CT)(f:Option PV)(x:Str):∀(R:List Rk) (b g:Option PV) (d:Kn),jB R x=some d->∃ρ,dv (gj 2 Q3) (An c) (R.map bC) (S0 [f,some (.str x),b,g])=some (.ok (.rt (encK d)),S0 ρ)
 | [],_,_,_,h=>by cases h
 | r::R,b,g,d,h=>by
  have t:gj 2 Q3 (bC r) (S0 [f,some (.str x),b,g])=some (S0 [f,some (.str x),some (.str r.1),some (encK r.2)]):=rfl;have e:Ek (toB (op2 iL (rd 2) (rd 1))) (S0 [f,some (.str x),some (.str r.1),some (encK r.2)]) (r.1==x):=bT (b2 rfl rfl (fA _ _ _));unfold jB at h;by_cases a:r.1=x
  ·rw[if_pos a]at h;cases h;rw[show(r.1==x)=true by rw[a];exact ly x]at e
   exact⟨_,fR t (iT e (rS rfl))⟩
  ·rw[if_neg a]at h;obtain⟨ρ,ih⟩:=vj c f x R (some (.str r.1)) (some (encK r.2)) d h;rw[show(r.1==x)=false by rw[eR];exact a]at e
   exact⟨ρ,fC t (iF e rfl) ih⟩
def Bi(nm res a:PV)(b R2:List Rk):PV:=.ao [nm,.ao (b.map bC),res,.ao (R2.map bC),a]
theorem aT{h:List ak}{ps a:List PV}(b:ps.length+a.length<=4000000):eG h (.ao ps) (.ao a)=some (.ao (ps++a)):=if_pos (show ps.length+a.length<=fD from b)
theorem Hq(k:Nat)(n res a:PV)(b R2:List Rk)(x:Str)(d:Kn)(hd:jB (b++R2) x=some d)(h:b.length+R2.length<=1000):Gives (run txt (k+1) "kind_of" [Bi n res a b R2,.str x] []) (encK d):=by
 rw[Ao];obtain⟨f,e⟩:=vj (run txt k) (some (Bi n res a b R2)) x (b++R2) none none d hd;have c:eG [] (.ao (b.map bC)) (.ao (R2.map bC))=some (.ao ((b++R2).map bC)):=by
  rw[cm];exact aT (by simp;lia)
 exact gV (yx (fS (sV (b2 (b2 rfl rfl rfl) (b2 rfl rfl rfl) c) rfl) e)) (xN d)
theorem LA:eJ (run txt):=⟨λk=>Dj k⟩
theorem p0{ps:List Sh}{i:Int}{y:Sh}(a:0<=i)(b:ps[i.toNat]?=some y):L2.km (bX ps) i=some (enc y):=by
 have:=atI_nat (xs:=bX ps) (by rw[iU,bG,b];rfl)
 rw[lq a]at this;exact this
theorem j7{s:Sh}{i:Int}{x:Sh×Int}(h:Ia s i=some x):∃ps,s=.bA ps/\0<=i/\ps[i.toNat]?=some x.1/\x.2=((fY (ps.take i.toNat)).length:Int):=by
 cases s with
 | bA ps =>
  simp only[Ia]at h;by_cases a:0<=i
  ·rw[if_pos a]at h;cases b:ps[i.toNat]? with
   | none=>rw[b]at h;simp at h
   | some y=>rw[b]at h;simp at h;subst h;exact⟨ps,rfl,a,b,rfl⟩
  ·rw[if_neg a]at h;cases h
 | num=>simp[Ia]at h
 | own=>simp[Ia]at h
 | bL n=>simp[Ia]at h
theorem Lp{ps:List Sh}{y:Sh}(h:y∈ps):dp y<=oM ps:=by
 induction ps with
 | nil=>cases h
 | cons z zs ih =>
  simp only[oM];rcases aF.mp h with rfl | hm
  ·lia
  ·have:=ih hm
   lia
mutual
theorem xO:∀(s:Sh),∀r∈tab s,r.2.2.1=sz r.2.2.2
 | .num,r,h=>by simp[tab]at h;subst h;simp[sz,lv]
 | .own,r,h=>by simp[tab]at h;subst h;simp[sz,lv]
 | .bL n,r,h=>by simp[tab]at h;subst h;simp[sz,lv]
 | .bA a,r,h=>by
  simp only[tab,aF]at h;rcases h with rfl | h
  ·simp[sz,lv]
  ·exact EX a 0 0 r h
theorem EX:∀(l:List Sh) (k:Nat) (a:Int),∀r∈tabs k a l,r.2.2.1=sz r.2.2.2
 | [],_,_,r,h=>by simp[tabs]at h
 | s::l,k,a,r,h=>by
  simp only[tabs,aX,az]at h;rcases h with⟨b,h0,rfl⟩ | h
  ·exact xO s b h0
  ·exact EX l _ _ r h
end
mutual
theorem oj:∀(s:Sh),∀r∈tab s,dp r.2.2.2<=dp s/\(lv r.2.2.2).length<=(lv s).length
 | .num,r,h=>by simp[tab]at h;subst h;simp
 | .own,r,h=>by simp[tab]at h;subst h;simp
 | .bL n,r,h=>by simp[tab]at h;subst h;simp
 | .bA a,r,h=>by
  simp only[tab,aF]at h;rcases h with rfl | h
  ·simp
  ·have:=EY a 0 0 r h;simp only[dp,lv]
   lia
theorem EY:∀(l:List Sh) (k:Nat) (a:Int),∀r∈tabs k a l,dp r.2.2.2<=oM l/\(lv r.2.2.2).length<=(fY l).length
 | [],_,_,r,h=>by simp[tabs]at h
 | s::l,k,a,r,h=>by
  simp only[tabs,aX,az]at h;simp only[oM,fY,aZ];rcases h with⟨b,h0,rfl⟩ | h
  ·have:=oj s b h0;simp only[mD]
   lia
  ·have:=EY l _ _ r h
   lia
end
section
variable {s s1 s2 s3:cz} {fa fb fc:Gx PV} {x y z r:PV}
theorem eCh{g a:G2}(b:Ev fa s x s1)(c:Ev fb s1 y s2)(h1:g s2.h x y=some (.bl true))(hc:Ev fc s2 z s3)(h2:a s3.h y z=some r):Ev (chain g a fa fb fc) s r s3 :=
 eB b (eB c (eB (by show((g s2.h x y).bind Eb).map _=_;rw[h1];rfl) (by rw[if_pos rfl];exact eB hc (by show(a s3.h y z).map _=_;rw[h2];rfl))))
end
theorem le_int(h:List ak)(i j:Int):leO h (.int i) (.int j)=some (.bl (decide (i<=j))):=rfl
theorem lt_int(h:List ak)(i j:Int):JC h (.int i) (.int j)=some (.bl (decide (i<j))):=rfl
theorem EZ(k:Nat){s:Sh}{i:Int}{x:Sh×Int}(c:Ia s i=some x):Gives (run txt (k+1) "check_part" [enc s,.int i] []) .bj:=by
 obtain⟨a,rfl,d,e,_⟩:=j7 c;rw[rY];have h:i.toNat<a.length:=(bu.mp e).1;have f:leO [] (.int 0) (.int i)=some (.bl true):=by rw[le_int,fg d]
 have g:JC [] (.int i) (.int ((bX a).length:Int))=some (.bl true):=by rw[lt_int,fg (by rw[fz];lia)]
 exact gN (sq (iF (s1:=S0 [some (enc (.bA a)),some (.int i)]) (bT (by kernel_rfl)) rfl) (iF (nB (b:=true) (bT (eCh rfl rfl f (bV (cA (b2 rfl rfl rfl) rfl) rfl) g))) rfl))
theorem vk(k:Nat)(A P:Option PV):∀(p:List Int) (s:Sh) (a:Int) (o:Option PV) (b:Sh) (c:Int),walk s a p=some (b,c)->∃d,dv (aV 3) (Ll (run txt (k+1))) (p.map .int) (S0 [A,P,some (enc s),o])=some (.ok .nx,S0 [A,P,some (enc b),d])
 | [],s,a,o,b,c,h=>by
  simp[walk]at h;obtain⟨rfl,rfl⟩:=h;exact⟨o,rfl⟩
 | i::p,s,a,o,b,c,h=>by
  obtain⟨x,e,hw⟩:=lg.mp (show(Ia s i).bind (λx=>walk x.1 (a+x.2) p)=some (b,c)from h)
  have hc:=EZ k e;obtain⟨l,rfl,f,g,_⟩:=j7 e;obtain⟨d,q⟩:=vk k A P p x.1 (a+x.2) (some (.int i)) b c hw;have j:=p0 f g;exact⟨d,fC rfl (sq (dS (de (cA rfl (cA rfl rfl)) rfl rfl hc)) (aS (b2 (b2 rfl rfl rfl) rfl j) rfl)) q⟩
theorem VQ(k:Nat)(s:Sh)(p:List Int)(x:Sh×Int)(h:walk s 0 p=some x):Gives (run txt (k+2) "part" [enc s,.ao (p.map .int)] []) (enc x.1):=by
 rw[Lm];obtain⟨a,q⟩:=vk k (some (enc s)) (some (.ao (p.map .int))) p s 0 none x.1 x.2 h;exact gV (sq (aS rfl rfl) (sq (fS rfl q) (rS rfl))) (dw _)
theorem Px(l:List Sh):(l.map λs=>((lv s).length:Int)).sum=((fY l).length:Int):=by
 induction l with
 | nil=>simp[fY]
 | cons s l ih=>simp[fY,ih]
theorem vm:∀a:List Int,uO (a.map .int)=some a
 | []=>rfl
 | n::r=>by
  have e:cb kJ (r.map PV.int)=some r:=vm r;simp only[uO,aI,cb,kJ,cH,e,gF]
theorem Hr(h:List ak)(a:List Int):Gu h [.lst (a.map .int)]=some (.int a.sum):=by
 show(uO _).map _=_;rw[vm];rfl
theorem Lq(ps:List PV)(q:Nat):jU ps none (some (q:Int))=ps.take q:=by
 unfold jU;rw[HT.wx,HT.yT,List.drop_zero,Nat.sub_zero];by_cases h:q<=ps.length
 ·rw[Nat.min_eq_left h]
 ·rw[Nat.min_eq_right (by lia),qf (by lia),qf (by lia)]
theorem cM{d:Type}{link:List (Option Nat)}{g:Gx yu}{c:Bd}{s s1:cz}{l:List d}{e G:d->PV}(i:Ev g s (.sq (l.map e)) s1)(j:l.length<=4000000)(f:∀a∈l,c (bM link s1.ρ) (e a) s1.h=some (some (G a),s1.h)):Ev (di false link g c) s (.lst (l.map G)) s1:=eB i (by
 have:∀l:List d,(∀a∈l,c (bM link s1.ρ) (e a) s1.h=some (some (G a),s1.h))->dJ (c (bM link s1.ρ)) (l.map e) s1.h=some (l.map G,s1.h):=by
  intro l;induction l with
  | nil=>intro _;rfl
  | cons a l ih =>
   intro H;show(c (bM link s1.ρ) (e a) s1.h).bind _=_;rw[H a aD];show(dJ (c (bM link s1.ρ)) (l.map e) s1.h).map _=_;rw[ih λb f=>H b (aG _ f)]
   rfl
 show(if(l.map e).length<=fD then dJ _ (l.map e) s1.h else none).bind _=_
 rw[if_pos (show(l.map e).length<=fD by rw[aj];exact j),this l f]
 rfl)
theorem cE{b:Gx PV}{c d:Gx (Option Int)}{s s1 s2 a:cz}{p q:PV}{l h:Option Int}(h1:Ev b s p s1)(h2:Ev c s1 l s2)(e:Ev d s2 h a)(f:Gn a.h l h p=some q):Ev (cutE b c d) s q a:=eB h1 (eB h2 (eB e (by show(Gn a.h l h p).map _=_;rw[f];rfl)))
theorem Py(k:Nat)(ps:List Sh)(q:Nat)(hd:oM ps<=k)(h:(fY ps).length<=1000)(i:ps.length<=1000)(a b d:Option PV) :
  Ek (gw Gu (aq (di false [none,none] (jF (cutE Qs (aW none) (rh (rd 4)))) (lM (aV 1) (gw gK (aq (bnd Q5 (cC 0 1 (run txt (k+1) "leaves"))) (aW []))))) (aW []))) (S0 [a,b,some (enc (.bA ps)),d,some (.int (q:Int))]) (.int ((fY (ps.take q)).length:Int)):=by
 have c:=Hr [] ((ps.take q).map λs=>((lv s).length:Int))
 rw[Px,c6]at c;have e:Gn [] none (some (q:Int)) (.ao (bX ps))=some (.ao ((ps.take q).map enc)):=by
  show some (PV.ao (jU (bX ps) none (some (q:Int))))=_;rw[Lq,iU,List.map_take]
 refine bV (cA (cM (sV (cE (b2 rfl rfl rfl) rfl rfl e) rfl) (by rw[nz];lia) λs f=>?_) rfl) c
 have g:=eJ.each LA ps k hd (by lia) s (List.mem_of_mem_take f)
 refine e1 rfl (bV (cA (de (cA rfl rfl) rfl rfl g) rfl) ?_);show some (PV.int ((bX (lv s)).length:Int))=_;rw[fz];rfl
theorem sE(k:Nat)(A P:Option PV):∀(p:List Int) (s:Sh) (a:Int) (o:Option PV) (c:Sh) (d:Int),(tab s).length<=500->dp s<=k->walk s a p=some (c,d)->∃e,dv (aV 4) (Hf (run txt (k+1))) (p.map .int) (S0 [A,P,some (enc s),some (.int a),o])=some (.ok .nx,S0 [A,P,some (enc c),some (.int d),e])
 | [],s,a,o,c,d,_,_,h=>by
  simp[walk]at h;obtain⟨rfl,rfl⟩:=h;exact⟨o,rfl⟩
 | i::p,s,a,o,c,d,ht,hd,h=>by
  obtain⟨x,f,hw⟩:=lg.mp (show(Ia s i).bind (λx=>walk x.1 (a+x.2) p)=some (c,d)from h)
  have hc:=EZ k f;obtain⟨b,rfl,g,j,r⟩:=j7 f;have l:x.1∈b:=cZ j;have C:=vc l;have t:(tab (.bA b)).length=gY b+1:=by simp only[tab,aN,fZ]
  have u:=xp b;have v:=rP b;have w:=Lp l;have y:oM b+1<=k:=by simpa only[dp]using hd
  obtain⟨e,q⟩:=sE k A P p x.1 (a+x.2) (some (.int i)) c d (by lia) (by lia) hw
  have m:=Py k b i.toNat (by lia) (by lia) (by lia) A P (some (.int a))
  rw[lq g,<-r]at m;have B:=p0 g j;exact⟨e,fC rfl (sq (dS (de (cA rfl (cA rfl rfl)) rfl rfl hc)) (sq (aS (b2 rfl m rfl) rfl) (aS (b2 (b2 rfl rfl rfl) rfl B) rfl))) q⟩
theorem Pz(k:Nat)(s:Sh)(p:List Int)(x:Sh×Int)(ht:(tab s).length<=500)(hd:dp s<=k)(h:walk s 0 p=some x):Gives (run txt (k+2) "first" [enc s,.ao (p.map .int)] []) (.int x.2):=by
 rw[Hg];obtain⟨a,q⟩:=sE k (some (enc s)) (some (.ao (p.map .int))) p s 0 none x.1 x.2 ht hd h;exact gV (sq (aS rfl rfl) (sq (aS rfl rfl) (sq (fS rfl q) (rS rfl)))) rfl
structure bY where
 w:Str
 n:Str
 t:Bool
 f:Int
 m:Int
 k:Str
def kR(a:bY):PV:=.ao [.str a.w,.str a.n,.bl a.t,.int a.f,.int a.m,.str a.k]
noncomputable def Av:bY:=⟨"rest","",false,0,0,""⟩
noncomputable def j8:bY:=⟨"hand","",false,0,0,""⟩
def Lw(x:Str)(b:Bool)(p:List Int)(a:PV):PV:=.ao [.str x,.bl b,.ao (p.map .int),a]
def xP(s:Sh):Prop:=(tab s).length<=100/\dp s<=3
def sF(F:PV)(ks:List Rk):Prop:=∀k,∀r∈ks,Gives (run txt (k+1) "kind_of" [F,.str r.1] []) (encK r.2)
def tA(w x:Str)(d:Kn)(r:Rw)(t:Str):bY:=⟨w,x,dy d,r.2.1,r.2.2.1,t⟩
theorem Jl(n res a:PV)(b R2:List Rk)(h:b.length+R2.length<=1000)(c:((b++R2).map (·.1)).Nodup):sF (Bi n res a b R2) (b++R2):=λk r d=>Hq k n res a b R2 r.1 r.2 (fU _ r c d) h
theorem fV{F:PV}{ks:List Rk}(hF:sF F ks)(k:Nat)(hk:3<=k)(w t:Str){x:Str}{d:Kn}(f:(x,d)∈ks)(b:xP (bE d)){r:Rw}(c:r∈tab (bE d))(a:PV):Gives (run txt (k+3) "touch" [F,.str w,Lw x (dy d) r.1 a,.str t] []) (kR (tA w x d r t)):=by
 rw[Hi];have hw:=rQ (bE d) r c 0;have hd:=oj (bE d) r c;have p:=Af (bE d);have g:=hF (k+1) (x,d) f;have h:=Dy k d;have i:=VQ k (bE d) r.1 _ hw;have j:=eJ.all LA r.2.2.2 (k+1) (by have:=b.2;lia) (by have:=b.1;lia)
 have e:=Pz k (bE d) r.1 _ (by have:=b.1;lia) (by have:=b.2;lia) hw
 have l:=xO (bE d) r c;have m:0+r.2.1=r.2.1:=by lia
 rw[m]at e;have o:gK [] [.ao (bX (lv r.2.2.2))]=some (.int r.2.2.1):=by
  show some (PV.int ((bX (lv r.2.2.2)).length:Int))=_;rw[fz,l];rfl
 exact gV (sq (aS (de (cA (de (cA rfl (cA (b2 rfl rfl rfl) rfl)) rfl rfl g) rfl) rfl rfl h) rfl)
  (sq (aS (bV (cA (de (cA (de (cA rfl (cA (b2 rfl rfl rfl) rfl)) rfl rfl i) rfl) rfl rfl j) rfl) o) rfl)
  (rS (tU (cA rfl (cA (b2 rfl rfl rfl) (cA (b2 rfl rfl rfl) (cA (de (cA rfl (cA (b2 rfl rfl rfl) rfl)) rfl rfl e) (cA rfl (cA rfl rfl)))))) (by simp))))) rfl
theorem gf(s:Sh):(([],0,sz s,s):Rw)∈tab s:=by
 obtain⟨L,e⟩:=Ae s;rw[e];exact aD
theorem eM{F:PV}{ks:List Rk}(hF:sF F ks)(k:Nat)(hk:3<=k)(w t:Str){x:Str}{d:Kn}(a:(x,d)∈ks)(b:xP (bE d)):Gives (run txt (k+4) "touch_whole" [F,.str w,.str x,.str t] []) (kR (tA w x d ([],0,sz (bE d),bE d) t)):=by
 rw[pE];have c:=hF (k+2) (x,d) a;have e:=f9 (k+2) d;have f:=fV hF k hk w t a b (gf (bE d)) .bj;exact gV (rS (de (cA rfl (cA rfl (cA (tU (cA rfl (cA (de (cA (de (cA rfl (cA rfl rfl)) rfl rfl c) rfl) rfl rfl e) (cA (tU rfl (by simp)) (cA rfl rfl)))) (by simp)) (cA rfl rfl)))) rfl rfl f)) rfl
def fF(as:List bY):PV:=.lst (as.map kR)
theorem ad8(a:bY):noRef (kR a)=true:=rfl
theorem Lx:∀as:List bY,ai (as.map kR)=true
 | []=>rfl
 | a::as=>by simp[ai,ad8,Lx as]
theorem Dz(as:List bY):noRef (fF as)=true:=by simp[fF,noRef,Lx]
theorem aL{h:List ak}{ps a:List PV}(b:ps.length+a.length<=4000000):eG h (.lst ps) (.lst a)=some (.lst (ps++a)):=by
 have e:eG h (.lst ps) (.lst a)=sizeOk (ps.length+a.length) (.lst (ps++a)):=rfl;rw[e];exact if_pos (show ps.length+a.length<=fD from b)
theorem lE(as bs:List bY)(h:List ak)(a:as.length+bs.length<=1000):eG h (fF as) (fF bs)=some (fF (as++bs)):=by
 unfold fF;rw[cm];exact aL (by simp only[aj];lia)
inductive uq (ks:List Rk):PV->Prop
 | bj:uq ks .bj
 | int (i:Int):uq ks (.int i)
 | str (y:Str) (h:(y,Kn.ow .num)∈ks):uq ks (.str y)
noncomputable def E2:PV->List bY
 | .str y=>[⟨"read",y,false,0,1,""⟩]
 | _=>[]
theorem vn{F:PV}{ks:List Rk}(hF:sF F ks)(k:Nat)(hk:3<=k)(x:Str)(c:Bool)(p:List Int){a:PV}(d:uq ks a):Gives (run txt (k+5) "at_acts" [F,Lw x c p a] []) (fF (E2 a)):=by
 rw[Aq];cases d with
 | bj=>exact gV (yx (iT (nB (tR (p:=.bl false) (by rfl) rfl)) (rS rfl))) rfl
 | int i=>exact gV (yx (iT (nB (tR (p:=.bl false) (by rfl) rfl)) (rS rfl))) rfl
 | str y h =>
  have b:=eM hF k hk "read" "" h ⟨by simp[bE,tab],by simp[bE,dp]⟩
  have e:tA "read" y (.ow .num) ([],0,sz (bE (.ow .num)),bE (.ow .num)) ""=⟨"read",y,false,0,1,""⟩:=by
   simp[tA,dy,bE,sz,lv]
  rw[e]at b;exact gV (sq (iF (nB (tR (p:=.bl true) (by rfl) rfl)) rfl) (rS (lS (cA (de (cA rfl (cA rfl (cA (b2 rfl rfl rfl) (cA rfl rfl)))) rfl rfl b) rfl) (by show 1<=4000000;decide)))) rfl
structure Sp where
 x:Str
 d:Kn
 r:Rw
 a:PV
def aU(s:Sp):PV:=Lw s.x (dy s.d) s.r.1 s.a
structure cG (ks:List Rk) (s:Sp):Prop where
 mem:(s.x,s.d)∈ks
 ok:xP (bE s.d)
 row:s.r∈tab (bE s.d)
 at_:uq ks s.a
def ng(w:Str)(s:Sp)(t:Str):bY:=tA w s.x s.d s.r t
inductive Op where
 | n (i:Int) | s (s:Sp)
def eW:Op->PV
 | .n i=>.int i
 | .s s=>aU s
def eP(ks:List Rk):Op->Prop
 | .n _=>True
 | .s s=>cG ks s
def p8:Op->List bY
 | .n _=>[]
 | .s s=>E2 s.a++[ng "read" s ""]
theorem xQ(a:PV):(E2 a).length<=1:=by
 unfold E2;split<;>simp
theorem fB{F:PV}{ks:List Rk}(hF:sF F ks)(k:Nat)(hk:3<=k){o:Op}(ho:eP ks o):Gives (run txt (k+6) "operand_acts" [F,eW o] []) (fF (p8 o)):=by
 rw[oh];cases o with
 | n i=>exact gV (yx (iT (nB (tR (p:=.bl false) (by rfl) rfl)) (rS rfl))) rfl
 | s s =>
  obtain⟨b,c,e,f⟩:=ho;have e1:=vn hF k hk s.x (dy s.d) s.r.1 f;have g:=fV hF (k+2) (by lia) "read" "" b c e s.a
  have h:=xQ s.a;exact gV (sq (iF (nB (tR (p:=.bl true) (by rfl) rfl)) rfl) (rS (b2 (de (cA rfl (cA rfl rfl)) rfl rfl e1) (lS (cA (de (cA rfl (cA rfl (cA rfl (cA rfl rfl)))) rfl rfl g) rfl) (by simp)) (lE (E2 s.a) [ng "read" s ""] [] (by simp;lia))))) (Dz _)
def uu(s:Sp):List bY:=match s.a with
 | .bj=>[ng "fill" s ""]
 | a=>E2 a++[ng "turn" s ""]
theorem k9{F:PV}{ks:List Rk}(hF:sF F ks)(k:Nat)(hk:3<=k){s:Sp}(g:cG ks s):Gives (run txt (k+6) "target_acts" [F,aU s] []) (fF (uu s)):=by
 rw[pF];obtain⟨b,c,e,f⟩:=g;have e1:=vn hF k hk s.x (dy s.d) s.r.1 f;have j:=fV hF (k+2) (by lia) "fill" "" b c e s.a
 have l:=fV hF (k+2) (by lia) "turn" "" b c e s.a
 obtain⟨x,d,r,a⟩:=s;have m:=xQ a;have lH:∀(z:YI [] a .bj=some (.bl false)) (q:uu ⟨x,d,r,a⟩=E2 a++[ng "turn" ⟨x,d,r,a⟩ ""]),Gives (dO (kZ (run txt (k+5))) 2 [F,aU ⟨x,d,r,a⟩] []) (fF (uu ⟨x,d,r,a⟩)):=by
  intro z q;rw[q];exact gV (sq (iF (bT (b2 (b2 rfl rfl rfl) rfl z)) rfl) (rS (b2 (de (cA rfl (cA rfl rfl)) rfl rfl e1) (lS (cA (de (cA rfl (cA rfl (cA rfl (cA rfl rfl)))) rfl rfl l) rfl) (by simp)) (lE (E2 a) [ng "turn" ⟨x,d,r,a⟩ ""] [] (by simp;lia))))) (Dz _)
 cases f with
 | bj=>exact gV (yx (iT (bT (b2 (b2 rfl rfl rfl) rfl rfl)) (rS (lS (cA (de (cA rfl (cA rfl (cA rfl (cA rfl rfl)))) rfl rfl j) rfl) (by show 1<=4000000;decide))))) rfl
 | int i=>exact lH rfl rfl
 | str y h=>exact lH rfl rfl
theorem lP(o:Op):(p8 o).length<=2:=by
 cases o with
 | n i=>simp[p8]
 | s s=>have:=xQ s.a;simp[p8];lia
theorem xT(s:Sp):(uu s).length<=2:=by
 unfold uu;split
 ·simp
 ·rename_i a _;have:=xQ s.a;simp
  lia
section
variable {F:PV} {ks:List Rk} (hF:sF F ks) (k:Nat) (hk:3<=k)
include hF hk
theorem DA(w:Str){s:Sp}(a:cG ks s){o:Op}(ho:eP ks o):Gives (run txt (k+7) "put_acts" [F,.ao [.str w,aU s,eW o]] []) (fF (p8 o++uu s)):=by
 rw[xu];have b:=fB hF k hk ho;have c:=k9 hF k hk a;have d:=lP o;have e:=xT s;exact gV (rS (b2 (de (cA rfl (cA (b2 rfl rfl rfl) rfl)) rfl rfl b) (de (cA rfl (cA (b2 rfl rfl rfl) rfl)) rfl rfl c) (lE _ _ _ (by lia)))) (Dz _)
theorem DB(w:Str){s:Sp}(c:cG ks s)(q:PV){a b:Op}(d:eP ks a)(e:eP ks b):Gives (run txt (k+7) "set_acts" [F,.ao [.str w,aU s,q,eW a,eW b]] []) (fF (p8 a++p8 b++uu s)):=by
 rw[xw];have f:=fB hF k hk d;have g:=fB hF k hk e;have h:=k9 hF k hk c;have i:=lP a;have j:=lP b;have l:=xT s;exact gV (rS (b2 (b2 (de (cA rfl (cA (b2 rfl rfl rfl) rfl)) rfl rfl f) (de (cA rfl (cA (b2 rfl rfl rfl) rfl)) rfl rfl g) (lE _ _ _ (by lia))) (de (cA rfl (cA (b2 rfl rfl rfl) rfl)) rfl rfl h) (lE _ _ _ (by rw[aZ];lia)))) (Dz _)
theorem DC(w:Str){a:Op}(b:eP ks a):Gives (run txt (k+7) "say_acts" [F,.ao [.str w,eW a]] []) (fF (p8 a)):=by
 rw[xx];have c:=fB hF k hk b;exact gV (rS (de (cA rfl (cA (b2 rfl rfl rfl) rfl)) rfl rfl c)) (Dz _)
omit hF hk in
theorem xU(w:Str):Gives (run txt (k+7) "give_acts" [F,.ao [.str w,.str ""]] []) (fF []):=by
 rw[k0];exact gV (yx (iT (bT (b2 (b2 rfl rfl rfl) rfl (show iL [] (.str "") (.str "")=some (.bl true) by kernel_rfl))) (rS rfl))) rfl
theorem Aw(w:Str){s t:Sp}(b:cG ks s)(ht:cG ks t):Gives (run txt (k+7) "copy_acts" [F,.ao [.str w,aU s,aU t]] []) (fF [ng "read" t "",ng "fill" s ""]):=by
 rw[ug];have c:=fV hF (k+3) (by lia) "read" "" ht.mem ht.ok ht.row t.a
 have d:=fV hF (k+3) (by lia) "fill" "" b.mem b.ok b.row s.a
 exact gV (rS (lS (cA (de (cA rfl (cA rfl (cA (b2 rfl rfl rfl) (cA rfl rfl)))) rfl rfl c) (cA (de (cA rfl (cA rfl (cA (b2 rfl rfl rfl) (cA rfl rfl)))) rfl rfl d) rfl)) (by simp))) rfl
theorem Ax(w:Str){s t:Sp}(b:cG ks s)(ht:cG ks t):Gives (run txt (k+7) "move_acts" [F,.ao [.str w,aU s,aU t]] []) (fF [ng "empty" t "",ng "fill" s ""]):=by
 rw[uh];have c:=fV hF (k+3) (by lia) "empty" "" ht.mem ht.ok ht.row t.a
 have d:=fV hF (k+3) (by lia) "fill" "" b.mem b.ok b.row s.a
 exact gV (rS (lS (cA (de (cA rfl (cA rfl (cA (b2 rfl rfl rfl) (cA rfl rfl)))) rfl rfl c) (cA (de (cA rfl (cA rfl (cA (b2 rfl rfl rfl) (cA rfl rfl)))) rfl rfl d) rfl)) (by simp))) rfl
theorem Ay(w:Str){s:Sp}(b:cG ks s):Gives (run txt (k+7) "drop_acts" [F,.ao [.str w,aU s]] []) (fF [ng "empty" s ""]):=by
 rw[ui];have c:=fV hF (k+3) (by lia) "empty" "" b.mem b.ok b.row s.a
 exact gV (rS (lS (cA (de (cA rfl (cA rfl (cA (b2 rfl rfl rfl) (cA rfl rfl)))) rfl rfl c) rfl) (by simp))) rfl
theorem Az(w t:Str){s:Sp}(b:cG ks s):Gives (run txt (k+7) "lend_acts" [F,.ao [.str w,.str t,aU s]] []) (fF [ng w s t]):=by
 rw[uj];have c:=fV hF (k+3) (by lia) w t b.mem b.ok b.row s.a
 exact gV (rS (lS (cA (de (cA rfl (cA (b2 rfl rfl rfl) (cA (b2 rfl rfl rfl) (cA (b2 rfl rfl rfl) rfl)))) rfl rfl c) rfl) (by simp))) rfl
end
noncomputable def oX:Sh->Bool
 | .own=>true
 | _=>false
abbrev oP:PV:=.ao [.str "own"]
mutual
def vo:Sh->Tr
 | .num=>.ao [.str "num"]
 | .own=>.ao [.str "own"]
 | .bL n=>.ao [.str "strip",.int n]
 | .bA a=>.ao [.str "rec",.ao (mH a)]
def mH:List Sh->List Tr
 | []=>[]
 | s::l=>vo s::mH l
end
mutual
theorem toT_enc(h:List ak):∀(s:Sh) (n:Nat),2*dp s+2<n->toT h n (enc s)=some (vo s)
 | .num,n+3,_=>rfl
 | .own,n+3,_=>rfl
 | .bL _,n+3,_=>rfl
 | .bA b,n+3,a=>by
  have:=toT_encs h b (n+1) (by simp only[dp]at a;lia)
  have e1:toT h (n+2) (.str "rec")=some (.str "rec"):=rfl;have c:toT h (n+2) (.ao (bX b))=some (.ao (mH b)):=by
   show((cb (toT h (n+1)) (bX b)).bind (JE .ao))=_;rw[this];rfl
  show((cb (toT h (n+2)) [.str "rec",.ao (bX b)]).bind (JE .ao))=_;simp only[cb,e1,c,cH,gF,vo,JE]
 | .num,0,a=>by lia
 | .num,1,a=>by lia
 | .num,2,a=>by lia
 | .own,0,a=>by lia
 | .own,1,a=>by lia
 | .own,2,a=>by lia
 | .bL _,0,a=>by lia
 | .bL _,1,a=>by lia
 | .bL _,2,a=>by lia
 | .bA _,0,a=>by lia
 | .bA _,1,a=>by lia
 | .bA _,2,a=>by lia
theorem toT_encs(h:List ak):∀(l:List Sh) (n:Nat),2*oM l+2<n->cb (toT h n) (bX l)=some (mH l)
 | [],_,_=>rfl
 | s::l,n,a=>by
  simp only[oM]at a;have b:=toT_enc h s n (by lia)
  have c:=toT_encs h l n (by lia)
  simp only[bX,cb,b,c,cH,gF,mH]
end
theorem VR(s:Sh):eqT (vo s) (.ao [.str "own"])=oX s:=by
 cases s with
 | bA a=>show((Str.ofString "rec"==Str.ofString "own")&&mf [.ao (mH a)] [])=false;rw[show(Str.ofString "rec"==Str.ofString "own")=false by decide +kernel];rfl
 | num=>decide +kernel
 | own=>decide +kernel
 | bL n=>show((Str.ofString "strip"==Str.ofString "own")&&mf [.int n] [])=false;rw[show(Str.ofString "strip"==Str.ofString "own")=false by decide +kernel];rfl
theorem DD:∀l:List Sh,((mH l).any λy=>eqT y (.ao [.str "own"]))=l.any oX
 | []=>rfl
 | s::l=>by rw[mH,ja,ja,DD l,VR]
def Z1(s:Sh):Bool:=!(lv s).any oX
theorem sH:∀{l:List Sh},(∀x∈l,iw x=true)->oM l=0
 | [],_=>rfl
 | s::l,h=>by
  have b:=(Df (h s aD)).2;have c:=sH λx a=>h x (aG _ a)
  simp only[oM]
  lia
theorem VS(s:Sh):pO true [] oP (.ao (bX (lv s)))=some (.bl (Z1 s)):=by
 have hd:=sH (xl s);have e:=toT_encs [] (lv s) e9 (by rw[hd];decide)
 have a:Oo [] oP (bX (lv s))=some ((lv s).any oX):=by
  unfold Oo;rw[e,show toT [] e9 oP=some (.ao [.str "own"])from rfl,<-DD]
  rfl
 have e1:pO true [] oP (.ao (bX (lv s)))=(Oo [] oP (bX (lv s))).map λb=>.bl (if true=true then !b else b):=rfl
 rw[e1,a];unfold Z1;cases(lv s).any oX<;>rfl
def oW(s:Sh):Str:=if Z1 s=true then "read" else "empty"
abbrev jo(s:Sh):Rw:=([],0,sz s,s)
def PC(x:Str)(d:Kn)(t:Str):bY:=match d with
 | .ow s=>tA (oW s) x (.ow s) (jo s) ""
 | .ho b s=>tA (if b=true then "sole" else "lend") x (.ho b s) (jo s) t
def RT(x:Str)(d:Kn):bY:=match d with
 | .ow s=>tA (oW s) x (.ow s) (jo s) ""
 | .ho b s=>tA "give" x (.ho b s) (jo s) ""
theorem AA(k:Nat)(s:Sh)(hd:dp s<=k)(hz:(lv s).length<=4000000):Gives (run txt (k+2) "is_copied" [enc s] []) (.bl (Z1 s)):=by
 rw[ud];have h:=eJ.all LA s k hd hz;exact gV (rS (b2 (tU (cA rfl rfl) (by simp)) (de (cA rfl rfl) rfl rfl h) (VS s))) rfl
section
variable {F:PV} {ks:List Rk} (hF:sF F ks) (k:Nat) (hk:3<=k)
include hF hk
theorem oY{x:Str}{s:Sh}(b:(x,Kn.ow s)∈ks)(a:xP s):Gives (run txt (k+5) "owner_act" [F,.str x] []) (kR (tA (oW s) x (.ow s) (jo s) "")):=by
 rw[um];have c:=hF (k+3) _ b;have f:=Af s;have d:=AA (k+2) s (by have:=a.2;lia) (by have:=a.1;lia)
 have e:=eM hF k hk (oW s) "" b a;have hw:Ek (dN (fX (bnd (aq (bnd Qn (cC 0 2 (run txt (k+4) "kind_of"))) (aW [])) (cC 0 1 (run txt (k+4) "is_copied")))) (aW (PV.str "read")) (aW (PV.str "empty"))) (S0 [some F,some (.str x)]) (PV.str (oW s)):=by
  refine eI (tR (de (cA (de (cA rfl (cA rfl rfl)) rfl rfl c) rfl) rfl rfl d) rfl) ?_;unfold oW;cases Z1 s<;>rfl
 exact gV (rS (de (cA rfl (cA hw (cA rfl (cA rfl rfl)))) rfl rfl e)) rfl
theorem Hs{x:Str}{d:Kn}(a:(x,d)∈ks)(e:xP (bE d))(t:Str):Gives (run txt (k+6) "arg_act" [F,.str x,.str t] []) (kR (PC x d t)):=by
 rw[Ar];have h:=hF (k+4) _ a;have i:=f9 (k+4) d;have f:Ev (dh (bnd Qn (cC 0 2 (run txt (k+5) "kind_of"))) (aV 3)) (S0 [some F,some (.str x),some (.str t),none]) .nx (S0 [some F,some (.str x),some (.str t),some (encK d)]):=aS (de (cA rfl (cA rfl rfl)) rfl rfl h) rfl;have g:Ek (zd (fX (bnd Qe (cC 0 1 (run txt (k+5) "is_holder"))))) (S0 [some F,some (.str x),some (.str t),some (encK d)]) (!dy d):=nB (tR (de (cA rfl rfl) rfl rfl i) rfl);cases d with
 | ow s =>
  have c:=oY hF k hk a e;exact gV (sq f (yx (iT g (rS (de (cA rfl (cA rfl rfl)) rfl rfl c))))) rfl
 | ho b s =>
  have c:=eM hF (k+1) (by lia) (if b=true then "sole" else "lend") t a e
  have hw:Ek (dN (toB (op2 iL (op2 bR (rd 3) (kI 0)) (aW (PV.str "lent")))) (aW (PV.str "lend")) (aW (PV.str "sole"))) (S0 [some F,some (.str x),some (.str t),some (encK (.ho b s))]) (PV.str (if b=true then "sole" else "lend")):=by
   cases b with
   | false=>exact iT (bT (b2 (b2 rfl rfl rfl) rfl (show iL [] (.str (hw false)) (.str "lent")=some (.bl true) by kernel_rfl))) rfl
   | true=>exact iF (bT (b2 (b2 rfl rfl rfl) rfl (show iL [] (.str (hw true)) (.str "lent")=some (.bl false) by kernel_rfl))) rfl
  exact gV (sq f (sq (iF g rfl) (rS (de (cA rfl (cA hw (cA rfl (cA rfl rfl)))) rfl rfl c)))) rfl
theorem AB(w:Str){x:Str}{d:Kn}(a:(x,d)∈ks)(f:xP (bE d))(c:(x==(Str.ofString ""))=false):Gives (run txt (k+7) "give_acts" [F,.ao [.str w,.str x]] []) (fF [RT x d]):=by
 rw[k0];have i:=hF (k+5) _ a;have j:=f9 (k+5) d;have g:Ek Qm (S0 [some F,some (.ao [.str w,.str x])]) false:=by
  refine bT (b2 (b2 rfl rfl rfl) rfl ?_);rw[fA,c]
 have h:Ek (fX (bnd (aq (bnd Qz (cC 0 2 (run txt (k+6) "kind_of"))) (aW [])) (cC 0 1 (run txt (k+6) "is_holder")))) (S0 [some F,some (.ao [.str w,.str x])]) (dy d):=tR (de (cA (de (cA rfl (cA (b2 rfl rfl rfl) rfl)) rfl rfl i) rfl) rfl rfl j) rfl;cases d with
 | ow s =>
  have e:=oY hF (k+1) (by lia) a f
  exact gV (sq (iF g rfl) (sq (iF h rfl) (rS (lS (cA (de (cA rfl (cA (b2 rfl rfl rfl) rfl)) rfl rfl e) rfl) (by simp))))) rfl
 | ho b s =>
  have e:=eM hF (k+2) (by lia) "give" "" a f
  exact gV (sq (iF g rfl) (yx (iT h (rS (lS (cA (de (cA rfl (cA rfl (cA (b2 rfl rfl rfl) (cA rfl rfl)))) rfl rfl e) rfl) (by simp)))))) rfl
end
noncomputable abbrev sI(i:Nat):Str:=Str.ofString (toString (i:Int))
def gQ:Nat->List Rk->List bY
 | _,[]=>[]
 | i,r::l=>PC r.1 r.2 (sI i)::gQ (i+1) l
theorem sJ:∀(l:List Rk) (i:Nat),(gQ i l).length=l.length
 | [],_=>rfl
 | r::l,i=>by simp[gQ,sJ l]
def lQ:Option Rk->List bY
 | none=>[]
 | some (x,.ow s)=>[tA "fill" x (.ow s) (jo s) ""]
 | some (x,.ho _ _)=>[⟨"take","",false,0,0,x⟩]
def AD:Option Rk->Str
 | none=>""
 | some r=>r.1
def VT(ks:List Rk):Prop:=∀q∈ks,xP (bE q.2)
theorem Z2(h:List ak)(i:Nat)(a:i<1000):Gs h [.int (i:Int)]=some (.str (sI i)):=if_pos ⟨by lia,by lia⟩
theorem cF{c:PV->List ak->Option (Option PV×List ak)}{h:List ak}{d:Type}{e G:d->PV}:∀l:List d,(∀a∈l,c (e a) h=some (some (G a),h))->dJ c (l.map e) h=some (l.map G,h)
 | [],_=>rfl
 | a::l,H=>by
  show(c (e a) h).bind _=_;rw[H a aD];show(dJ c (l.map e) h).map _=_;rw[cF l λb f=>H b (aG _ f)]
  rfl
theorem cN{link:List (Option Nat)}{a:Gx yu}{b:Bd}{s s1:cz}{ps c:List PV}(d:Ev a s (.sq ps) s1)(e:ps.length<=4000000)(f:dJ (b (bM link s1.ρ)) ps s1.h=some (c,s1.h)):Ev (di true link a b) s (.ref s1.h.length) ⟨s1.ρ,s1.h++[⟨.lst,c⟩]⟩:=eB d (by
 show(if ps.length<=fD then dJ _ ps s1.h else none).bind _=_
 rw[if_pos (show ps.length<=fD from e),f]
 rfl)
theorem AE{h:List ak}{n:Nat}:∀ps:List PV,ai ps=true->cb (oJ h n) ps=some ps
 | [],_=>rfl
 | p::ps,hp=>by
  simp only[ai,aO]at hp;have e:oJ h n p=some p:=by cases n<;>(unfold oJ;rw[if_pos hp.1])
  simp only[cb,e,AE ps hp.2,cH,gF]
theorem om{ps:List PV}{r:List ak}(hp:ai ps=true):kL (⟨.lst,ps⟩::r) (.ref 0)=some (.lst ps):=by
 unfold kL;rw[if_neg (by simp)]
 unfold oJ;rw[if_neg (by simp[noRef])]
 show((cb (oJ _ 3) ps).map _)=_;rw[AE ps hp];rfl
theorem E3{a:PV->List ak->Option (Option PV×List ak)}{h:List ak}:∀(l:List Rk) (i:Nat),(∀r∈l,∀j:Nat,j<1000->a (zC (.int (j:Int)) (.str r.1)) h=some (some (kR (PC r.1 r.2 (sI j))),h))->i+l.length<=1000->dJ a (dZ i (l.map λr=>PV.str r.1)) h=some ((gQ i l).map kR,h)
 | [],_,_,_=>rfl
 | r::l,i,H,b=>by
  simp only[aN]at b;show(a (zC (.int (i:Int)) (.str r.1)) h).bind _=_;rw[H r aD i (by lia)]
  show(dJ a (dZ (i+1) (l.map λr=>PV.str r.1)) h).map _=_
  rw[E3 l (i+1) (λq c=>H q (aG _ c)) (by lia)]
  rfl
theorem vp:∀(l:List PV) (i:Nat),(dZ i l).length=l.length
 | [],_=>rfl
 | a::l,i=>by simp[dZ,vp l]
theorem eV{a:Gx PV}{s s1:cz}{p:PV}{ps:List PV}(h:Ev a s p s1)(hp:tZ p=some ps):Ev (rD a) s (dZ 0 ps) s1:=eB h (by show((tZ p).map _).map _=_;rw[hp];rfl)
section
variable {F:PV} {ks:List Rk} (hF:sF F ks) (k:Nat) (hk:3<=k) (hN:noRef F=true)
include hF hk hN
theorem AG(w:Str)(fn:PV){a:List Rk}(u:∀r∈a,r∈ks)(ho:VT ks)(R:a.length<=10){tk:Option Rk}(ht:∀r,tk=some r->r∈ks/\(r.1==(Str.ofString ""))=false):Gives (run txt (k+7) "call_acts" [F,.ao [.str w,.str (AD tk),fn,.ao (a.map λr=>.str r.1)]] []) (fF (gQ 0 a++j8::lQ tk)):=by
 rw[uk];obtain⟨p,hp⟩:∃p,p=PV.ao [.str w,.str (AD tk),fn,.ao (a.map λr=>.str r.1)]:=⟨_,rfl⟩
 have E:∀h,bR h p (.int 3)=some (.ao (a.map λr=>.str r.1)):=λh=>by rw[hp];rfl
 have c:∀h,bR h p (.int 1)=some (.str (AD tk)):=λh=>by rw[hp];rfl
 rw[<-hp];have H:=sJ a 0;have i:Ev (dh (di true [none,none,none,some 0] (CJ (rD (op2 bR (rd 1) (kI 3)))) (lM Qc (bnd (aq (rd 3) (aq (rd 2) (aq (gw Gs Q5) (aW [])))) (cC 0 3 (run txt (k+6) "arg_act"))))) (aV 2)) (S0 [some F,some p,none]) .nx ⟨[some F,some p,some (.ref 0)],[⟨.lst,(gQ 0 a).map kR⟩]⟩:=by
  refine aS (cN (sG (eV (b2 rfl rfl (E _)) rfl)) (by rw[vp,aj];lia) (E3 a 0 (λr v j I=>?_) (by lia))) rfl
  have h:=Hs hF k hk (u r v) (ho r (u r v)) (sI j);exact e1 rfl (de (cA rfl (cA rfl (cA (bV (cA rfl rfl) (Z2 _ j I)) rfl))) rfl rfl h)
 obtain⟨L,f⟩:∃L,L=(gQ 0 a++[j8]).map kR:=⟨_,rfl⟩
 have J:L.length<=100:=by rw[f];simp[H];lia
 have l:Ev (gq (yv "list" (iO (gU wO)) (rd 2) (aq (aW (.ao [(.str "hand"),(.str ""),(.bl false),(.int 0),(.int 0),(.str "")])) (aW [])))) ⟨[some F,some p,some (.ref 0)],[⟨.lst,(gQ 0 a).map kR⟩]⟩ .nx ⟨[some F,some p,some (.ref 0)],[⟨.lst,L⟩]⟩:=by
  rw[f,cm];exact dS (yy rfl rfl (cA rfl rfl) (aC rfl (by rw[aj];lia)))
 have y:Ek Qm ⟨[some F,some p,some (.ref 0)],[⟨.lst,L⟩]⟩ (AD tk==(Str.ofString "")):=bT (b2 (b2 rfl rfl (c _)) rfl (fA _ _ _));have m:ai L=true:=by rw[f];exact Lx _
 have g:∀q:bY,eG [⟨.lst,L⟩] (.ref 0) (.lst [kR q])=some (fF (gQ 0 a++j8::[q])):=λq=>by
  have e:eG [⟨.lst,L⟩] (.ref 0) (.lst [kR q])=sizeOk (L.length+1) (.lst (L++[kR q])):=rfl;rw[e];refine(if_pos (show L.length+1<=fD from by have:fD=4000000:=rfl;lia)).trans ?_
  rw[f];simp[fF]
 cases tk with
 | none =>
  rw[show(AD none==(Str.ofString ""))=true by decide +kernel]at y
  refine⟨_,_,j4 (sq i (sq l (yx (iT y (rS rfl))))),?_⟩;rw[om m,f];rfl
 | some r =>
  obtain⟨o,B⟩:=ht r rfl;obtain⟨x,d⟩:=r;have c:∀h,bR h p (.int 1)=some (.str x):=c
  simp only at B;have C:Ek Qm ⟨[some F,some p,some (.ref 0)],[⟨.lst,L⟩]⟩ false:=bT (b2 (b2 rfl rfl (c _)) rfl (by rw[fA,B]))
  have M:=hF (k+5) _ o;have N:=f9 (k+5) d;have t:ai [F,PV.str x]=true:=by simp[ai,hN,noRef]
  have D:Ek (fX (bnd (aq (bnd Qz (cC 0 2 (run txt (k+6) "kind_of"))) (aW [])) (cC 0 1 (run txt (k+6) "is_holder")))) ⟨[some F,some p,some (.ref 0)],[⟨.lst,L⟩]⟩ (dy d):=tR (de (cA (de (cA rfl (cA (b2 rfl rfl (c _)) rfl)) rfl (by rw[t];rfl) M) rfl) rfl (by simp[ai,xN]) N) rfl
  cases d with
  | ho b s =>
   exact gV (sq i (sq l (sq (iF C rfl) (yx (iT D (rS (b2 rfl (lS (cA (tU (cA rfl (cA rfl (cA rfl (cA rfl (cA rfl (cA (b2 rfl rfl (c _)) rfl)))))) (by simp)) rfl) (by simp)) (g ⟨"take","",false,0,0,x⟩)))))))) (Dz _)
  | ow s =>
   have Q:=eM hF (k+2) (by lia) "fill" "" o (ho _ o)
   exact gV (sq i (sq l (sq (iF C rfl) (sq (iF D rfl) (rS (b2 rfl (lS (cA (de (cA rfl (cA rfl (cA (b2 rfl rfl (c _)) (cA rfl rfl)))) rfl (by simp[ai,hN,noRef]) Q) rfl) (by simp)) (g (tA "fill" x (.ow s) (jo s) "")))))))) (Dz _)
end
def jq(i:Nat)(a:bY):PV:=.ao [.int i,.str a.w,.str a.n,.bl a.t,.int a.f,.int a.m,.str a.k]
def cf:List bY->List bY
 | []=>[Av]
 | a::r=>a::r
structure Ly (c:CT) (F p:PV) (as:List bY):Prop where
 ex:∃w fn rest,p=.ao (.str w::rest)/\jf.lookup w=some fn/\VO.lookup fn=some 2/\Gives (c fn [F,p] []) (fF as)
 few:as.length<=20
 nr:noRef p=true
theorem RU{as:List bY}(h:as.length<=20):(cf as).length<=20:=by
 cases as with
 | nil=>simp[cf]
 | cons a r=>exact h
theorem clF{b:List (Str×Nat)}{tab:List (Str×Str)}{c:CT}{fk:Gx PV}{d:Gx (List PV)}{s s1 s2:cz}{w fn:Str}{n:Nat}{as:List PV}{q:PV}(hk:Ev fk s (.str w) s1)(h1:tab.lookup w=some fn)(h2:b.lookup fn=some n)(e:Ev d s1 as s2)(f:as.length=n)(g:(s2.h.isEmpty || ai as)=true)(hc:Gives (c fn as []) q):Ev (zM b c (Kf (λk=>(List.lookup k tab).map .fn) fk) d) s q s2:=by
 obtain⟨p,i,e1,j⟩:=hc;refine eB (eB hk (show(jS ((U0 (.str w)).bind λk=>(List.lookup k tab).map PV.fn)) s1=some (.ok (.fn fn),s1)from ?_)) (eB (a:=(fn,n)) ?_ (eB e ?_))
 ·show((List.lookup w tab).map PV.fn).map _=_;rw[h1];rfl
 ·show((b.lookup fn).map _).map _=_;rw[h2];rfl
 ·unfold nW;rw[if_pos ⟨f,g⟩,e1];show(kL i p).map _=_;rw[j];rfl
theorem mkN(i:Nat)(a:bY)(h:List ak):eG h (.ao [.int (i:Int)]) (kR a)=some (jq i a):=aT (by simp)
theorem Ht{c:CT}{F p:PV}{as:List bY}(hN:noRef F=true)(M:Ly c F p as)(i:Nat)(d:List PV)(u:d.length<=90000)(e f g:Option PV):Ev (rZ c) ⟨[e,f,some F,some (.ref 0),some (.int (i:Int)),some p,g],[⟨.lst,d⟩]⟩ .nx ⟨[e,f,some F,some (.ref 0),some (.int (i:Int)),some p,some (fF as)],[⟨.lst,d++(cf as).map (jq i)⟩]⟩:=by
 obtain⟨w,fn,b,rfl,j,k,l⟩:=M.ex;have m:=M.few;have o:=M.nr;have q:∀h,bR h (.ao (.str w::b)) (.int 0)=some (.str w):=λh=>(show bR h (.ao (.str w::b)) (.int 0)=L2.km (PV.str w::b) ((0:Nat):Int)from rfl).trans (atI_nat rfl)
 refine sq (aS (clF (b2 rfl rfl (q _)) j k (cA rfl (cA rfl rfl)) rfl (by simp[ai,hN,o]) l) rfl) ?_
 have ho:Ek Qb ⟨[e,f,some F,some (.ref 0),some (.int (i:Int)),some (.ao (.str w::b)),some (fF as)],[⟨.lst,d⟩]⟩ (fF (cf as)):=by
  cases as with
  | nil=>rfl
  | cons a r=>rfl
 have t:=RU m;exact dS (yy rfl rfl (cA (cM (sV ho rfl) (by lia) λa _=>e1 rfl (b2 (tU (cA rfl rfl) (by simp)) rfl (mkN i a _))) rfl) (xC rfl rfl (by rw[aj];lia)))
def sL:Nat->List (List bY)->List PV
 | _,[]=>[]
 | i,as::r=>(cf as).map (jq i)++sL (i+1) r
theorem vq{c:CT}{F:PV}(hN:noRef F=true)(f g:Option PV):∀(L:List (PV×List bY)) (i:Nat) (a:List PV) (j k d:Option PV),(∀q∈L,Ly c F q.1 q.2)->a.length+20*L.length<=90000 ->
  ∃l m b,dv (gj 2 Q7) (rZ c) (dZ i (L.map (·.1))) ⟨[f,g,some F,some (.ref 0),j,k,d],[⟨.lst,a⟩]⟩=some (.ok .nx,⟨[f,g,some F,some (.ref 0),l,m,b],[⟨.lst,a++sL i (L.map (·.2))⟩]⟩)
 | [],i,a,j,k,d,_,_=>⟨j,k,d,by simp[sL];rfl⟩
 | (p,as)::L,i,a,j,k,d,h,o=>by
  have M:=h (p,as) aD;have r:=RU (as:=as) M.few;simp only[aN]at o;obtain⟨l,m,b,e⟩:=vq hN f g L (i+1) (a++(cf as).map (jq i)) (some (.int (i:Int))) (some p) (some (fF as)) (λq t=>h q (aG _ t)) (by rw[aZ,aj];lia)
  refine⟨l,m,b,?_⟩;rw[dA]at e;exact fC rfl (Ht hN M i a (by lia) f g d) e
theorem AI:∀(L:List (List bY)) (i:Nat),∀p∈sL i L,∃j a,p=jq j a
 | [],i,p,h=>by simp[sL]at h
 | as::L,i,p,h=>by
  rw[sL,aX]at h;rcases h with h | h
  ·obtain⟨a,_,rfl⟩:=az.mp h;exact⟨i,a,rfl⟩
  ·exact AI L (i+1) p h
theorem VU(L:List (List bY))(i:Nat):ai (sL i L)=true:=by
 have:∀l:List PV,(∀p∈l,noRef p=true)->ai l=true:=λl=>by
  induction l with
  | nil=>intro _;rfl
  | cons p l ih=>intro h;simp[ai,h p aD,ih λq b=>h q (aG _ b)]
 exact this _ λp hp=>by
  obtain⟨j,a,rfl⟩:=AI L i p hp;rfl
theorem VV{P F:PV}{c:Int}{a b d e:PV}{L:List (PV×List bY)}(k:Nat)(f:∀h,bR h P (.int c)=some F)(hF:F=.ao [a,b,d,e,.ao (L.map (·.1))])(hN:noRef F=true)(g:∀q∈L,Ly (run txt k) F q.1 q.2)(l:L.length<=1000):Gives (run txt (k+1) "acts" [P,.int c] []) (.lst (sL 0 (L.map (·.2)))):=by
 rw[Ln];obtain⟨m,o,i,q⟩:=vq hN (some P) (some (.int c)) L 0 [] none none none g (by simp;lia)
 have j:∀h,bR h F (.int 4)=some (.ao (L.map (·.1))):=λh=>by rw[hF];rfl
 refine⟨_,_,j4 (sq (aS (b2 rfl rfl (f _)) rfl) (sq rfl (sq (fS (sG (eV (b2 rfl rfl (j _)) rfl)) q) (rS rfl)))),?_⟩;exact om (VU _ _)
theorem DE{h:List ak}{n:Nat}{ps:List PV}(hc:h[n]?=some ⟨.lst,ps⟩)(hp:ai ps=true):kL h (.ref n)=some (.lst ps):=by
 have b:h.isEmpty=false:=by
  cases h with
  | nil=>simp at hc
  | cons a r=>rfl
 unfold kL;rw[b,if_neg c5];unfold oJ;rw[if_neg (by simp[noRef])]
 show((h[n]?).bind _)=_;rw[hc,cH];show(if live ⟨.lst,ps⟩=true then(cb (oJ h 3) ps).map (PV.nd .lst)else none)=_
 rw[if_pos (show live ⟨.lst,ps⟩=true from rfl),AE ps hp]
 rfl
theorem E4:∀t:dz,ai (t.map toldP)=true
 | []=>rfl
 | q::t=>by
  have:noRef (toldP q)=true:=by
   have h:∀l:List bz,ai (l.map rR++[.int q.2])=true:=λl=>by
    induction l with
    | nil=>rfl
    | cons k l ih=>simp only[aI,qu,ai,Lj,ih,Bool.and_self]
   simpa[toldP,noRef]using h q.1
  simp[ai,this,E4 t]
theorem VW{c:CT}{b:(PV->Gx PV)->Nat->nU}{fe fb:Gx PV}{link:List (Option Nat)}{s s1:cz}{p:PV}{fk:List (List bz)}{res:dz}{i:List bz->Option (List (List bz))}(h:Ev fe s p s1)(hp:p=.lst (fk.map dP)\/∃j,p=.ref j/\s1.h[j]?=some ⟨.lst,fk.map dP⟩)
  (hc:c "tell_new"=dO Ak 5) (d:∀ω n,b ω n=dO (VM c ω n) 5) (hk:∀f∈fk,f.length<1000) (m:fk.length<4000000) (o:gy i ve 0 (dj [] (-1) fk)=some res)
  (k:∀g fs,i g=some fs->(∀f∈fs,f.length<1000)/\∀a,∃G8,fb ⟨some (dP g)::bM link s1.ρ,hS (s1.h++[mx]) a⟩=some (.ok (.lst (fs.map dP)),⟨G8,hS (s1.h++[mx]) a⟩)) :
  Ev (Kj b fe fb link) s (.ref (s1.h.length+1)) ⟨s1.ρ,hS (s1.h++[mx]) res⟩:=by
 refine eB h ?_;have hd:(s1.h++[mx]).length=s1.h.length+1:=by simp
 have r:=Pq (ω:=O0 fb (bM link s1.ρ)) (n:=s1.h.length) hc (λg fs e=>⟨(k g fs e).1,λa ρ=>by
  obtain⟨G8,q⟩:=(k g fs e).2 a;show(fb ⟨some (dP g)::bM link s1.ρ,hS (s1.h++[mx]) a⟩).bind _=_;rw[q];rfl⟩) (hp.imp id λ⟨j,t,l⟩=>⟨j,t,by rw[cU (bu.mp l).1];exact l⟩) hk m o
 show(b (O0 fb (bM link s1.ρ)) s1.h.length [p,.ref s1.h.length] (s1.h++[mx])).map _=_;rw[d,r,hd];rfl
def iN(n:Nat):PV:=.int (n:Int)
def nT(l:List Nat):PV:=.ao (l.map iN)
structure ad9 (ls:List (List Nat)) (N:Nat):Prop where
 len:ls.length=N
 ok:∀l∈ls,l.length<=2/\∀m∈l,m<N
 pos:0<N
 few:N<128
theorem PD(k:Nat):run txt (k+1) "tell_new"=dO Ak 5:=xt k
theorem VX(k:Nat)(ω:PV->Gx PV)(n:Nat):dO (W4 txt rX (run txt k) ω n) 5=dO (VM (run txt k) ω n) 5:=by
 rw[Dx];rfl
def eN(q:Nat×bY):PV:=jq q.1 q.2
def dY:Nat->List (List bY)->List (Nat×bY)
 | _,[]=>[]
 | i,as::r=>(cf as).map (λa=>(i,a))++dY (i+1) r
theorem mI:∀(L:List (List bY)) (i:Nat),sL i L=(dY i L).map eN
 | [],_=>rfl
 | as::L,i=>by
  rw[sL,dY,cm,c6,mI L (i+1)];rfl
theorem mJ:∀(L:List (List bY)) (i:Nat),∀q∈dY i L,i<=q.1/\q.1<i+L.length
 | [],_,_,h=>nomatch h
 | as::L,i,q,h=>by
  rw[dY,aX]at h;rw[aN];rcases h with h | h
  ·obtain⟨a,_,rfl⟩:=az.mp h;show i<=i/\i<i+(L.length+1)
   lia
  ·have:=mJ L (i+1) q h
   lia
theorem sM:∀(L:List (List bY)) (i j:Nat),i<=j->j<i+L.length->∃a,(j,a)∈dY i L
 | [],_,_,d,b=>by simp at b;lia
 | as::L,i,j,d,b=>by
  rw[aN]at b;by_cases e:j=i
  ·subst e;obtain⟨a,c⟩:∃a,a∈cf as:=by
    cases as with
    | nil=>exact⟨Av,aD⟩
    | cons a r=>exact⟨a,aD⟩
   exact⟨a,by rw[dY];exact dI _ (az.mpr ⟨a,c,rfl⟩)⟩
  ·obtain⟨a,c⟩:=sM L (i+1) j (by lia) (by lia)
   exact⟨a,by rw[dY];exact bW _ c⟩
noncomputable def bF(kvs:List (bz×PV))(k:bz):Option PV:=(kvs.find? λa=>decide (a.1=k)).map (·.2)
def VY(N:Nat)(kvs:List (bz×PV)):Prop:=∀q∈kvs,∃m:Nat,q.2=.int (m:Int)/\m<N
theorem DF(kvs:List (bz×PV))(k:bz)(p:PV):(bF (kvs++[(k,p)]) k).isSome=true:=by
 unfold bF;rw[BM,List.find?_isSome];exact⟨(k,p),by simp,by simp⟩
theorem sN(kvs a:List (bz×PV))(k:bz)(h:(bF kvs k).isSome=true):(bF (kvs++a) k).isSome=true:=by
 unfold bF at h ⊢;rw[BM,List.find?_isSome]at h ⊢;obtain⟨x,b,c⟩:=h;exact⟨x,dI _ b,c⟩
theorem Lz{N:Nat}{kvs:List (bz×PV)}(h:VY N kvs){k:bz}(hk:(bF kvs k).isSome=true):∃m:Nat,bF kvs k=some (.int (m:Int))/\m<N:=by
 unfold bF at hk ⊢;cases e:kvs.find? λa=>decide (a.1=k)with
 | none=>rw[e]at hk;cases hk
 | some q =>
  obtain⟨m,b,c⟩:=h q (List.mem_of_find?_eq_some e);exact⟨m,by rw[gF,b],c⟩
def iB:List (Nat×bY)->Nat->List (bz×PV)->List (bz×PV)
 | [],_,a=>a
 | (j,_)::as,i,a=>match bF a (.inl (j:Int))with
  | some _=>iB as (i+1) a
  | none=>iB as (i+1) (a++[(.inl (j:Int),.int (i:Int))])
noncomputable def dC(kvs:List (bz×PV)):ak:=⟨.fu false (kvs.map λq=>[q.1]),kvs.map (·.2)⟩
theorem iV(k:bz):∀kvs:List (bz×PV),eH [k] (kvs.map λq=>[q.1]) (kvs.map (·.2))=bF kvs k
 | []=>rfl
 | q::kvs=>by
  have ih:=iV k kvs;unfold bF at ih ⊢;rw[aI,aI,eH];by_cases h:q.1=k
  ·rw[if_pos (by rw[h]),List.find?_cons_of_pos (by simpa using h)]
   rfl
  ·rw[if_neg (by simpa using h),List.find?_cons_of_neg (by simpa using h),ih]
theorem qa(k:bz):∀kvs:List (bz×PV),jC [k] (kvs.map λq=>[q.1])=(bF kvs k).isSome
 | []=>rfl
 | q::kvs=>by
  have ih:=qa k kvs;unfold bF jC at ih ⊢;rw[aI,ja];by_cases h:q.1=k
  ·rw[List.find?_cons_of_pos (by simpa using h),fg (by rw[h])]
   rfl
  ·rw[List.find?_cons_of_neg (by simpa using h),lB (by simpa using h),Bool.false_or,ih]
theorem LB{ρ:List (Option PV)}{r:List ak}{kvs:List (bz×PV)}{j:Int}{y:PV}(b:kvs.length<4000000):∃p,iO zy (.ref 0) [.int j,y] ⟨ρ,dC kvs::r⟩=some (.ok p,⟨ρ,(match bF kvs (.inl j)with | some _=>dC kvs | none=>dC (kvs++[(.inl j,y)]))::r⟩):=by
 have e:iO zy (.ref 0) [.int j,y] ⟨ρ,dC kvs::r⟩=(if(kvs.map λq=>[q.1]).length<fD then(if jC [.inl j] (kvs.map λq=>[q.1])=true then(eH [.inl j] (kvs.map λq=>[q.1]) (kvs.map (·.2))).map λp=>(dC kvs,p)else some (⟨.fu false ((kvs.map λq=>[q.1])++[[.inl j]]),kvs.map (·.2)++[y]⟩,y))else none).map λa=>(.ok a.2,⟨ρ,(dC kvs::r).set 0 a.1⟩):=rfl
 rw[e,if_pos (show(kvs.map λq=>[q.1]).length<fD by rw[aj];exact b),qa,iV]
 cases bF kvs (.inl j)with
 | some v=>exact⟨v,rfl⟩
 | none=>exact⟨y,by simp[dC]⟩
theorem W6{w:PV->List PV->Gx PV}{b:Gx PV}{c:Gx (List PV)}{s s1 s2:cz}{n:Nat}{ks:List (List bz)}{t:Bool}{ps as:List PV}{r:Option (Rs PV×cz)}(h1:Ev b s (.ref n) s1)(hc:s1.h[n]?=some ⟨.fu t ks,ps⟩)(h2:Ev c s1 as s2)(d:w (.ref n) as s2=r):yv "dict" w b c s=r:=by
 refine eB h1 (eB (a:=()) ?_ (eB h2 d));show((cw s1.h (.ref n)).bind _).map _=_;have e:cw s1.h (.ref n)=some (.fu t ks,ps):=by
  show(s1.h[n]?).bind _=_;rw[hc];rfl
 rw[e];rfl
theorem ij(c:CT)(P I A:PV):∀(as:List (Nat×bY)) (i:Nat) (kvs:List (bz×PV)) (d f:Option PV),VY i kvs->kvs.length<=i->i+as.length<=90000 ->
  (∃C D,dv (gj 2 Q7) (vh c) (dZ i (as.map eN)) ⟨[some P,some I,some A,some (.ref 0),d,f,none],[dC kvs]⟩=some (.ok .nx,⟨[some P,some I,some A,some (.ref 0),C,D,none],[dC (iB as i kvs)]⟩))/\VY (i+as.length) (iB as i kvs)/\(∃g,iB as i kvs=kvs++g)/\∀q∈as,(bF (iB as i kvs) (.inl (q.1:Int))).isSome=true
 | [],i,kvs,d,f,h,_,_=>⟨⟨d,f,rfl⟩,h,⟨[],by simp[iB]⟩,λ_ z=>nomatch z⟩
 | (j,a)::as,i,kvs,d,f,h,J,E=>by
  rw[aN]at E;have B:gj 2 Q7 (zC (.int (i:Int)) (jq j a)) ⟨[some P,some I,some A,some (.ref 0),d,f,none],[dC kvs]⟩=some ⟨[some P,some I,some A,some (.ref 0),some (.int (i:Int)),some (jq j a),none],[dC kvs]⟩:=rfl;obtain⟨p,hp⟩:=LB (kvs:=kvs) (by lia)
  have l:Ev (vh c) ⟨[some P,some I,some A,some (.ref 0),some (.int (i:Int)),some (jq j a),none],[dC kvs]⟩ .nx ⟨[some P,some I,some A,some (.ref 0),some (.int (i:Int)),some (jq j a),none],[match bF kvs (.inl (j:Int))with | some _=>dC kvs | none=>dC (kvs++[(.inl (j:Int),.int (i:Int))])]⟩:=dS (W6 rfl rfl (cA (b2 rfl rfl rfl) (cA rfl rfl)) hp)
  cases e:bF kvs (.inl (j:Int))with
  | some v =>
   have o:iB ((j,a)::as) i kvs=iB as (i+1) kvs:=by rw[iB,e]
   rw[e]at l;obtain⟨⟨r,t,u⟩,w,⟨g,k⟩,x⟩:=ij c P I A as (i+1) kvs (some (.int (i:Int))) (some (jq j a)) (λq b=>by obtain⟨m,y,H⟩:=h q b;exact⟨m,y,by lia⟩) (by lia) (by lia)
   rw[o];refine⟨⟨r,t,fC B l u⟩,?_,⟨g,k⟩,λq b=>?_⟩
   ·rw[aN,show i+(as.length+1)=i+1+as.length by lia];exact w
   ·rcases aF.mp b with rfl | b
    ·rw[k];exact sN _ _ _ (by rw[e];rfl)
    ·exact x q b
  | none =>
   have o:iB ((j,a)::as) i kvs=iB as (i+1) (kvs++[(.inl (j:Int),.int (i:Int))]):=by rw[iB,e]
   rw[e]at l;obtain⟨⟨r,t,u⟩,w,⟨g,k⟩,x⟩:=ij c P I A as (i+1) (kvs++[(.inl (j:Int),.int (i:Int))]) (some (.int (i:Int))) (some (jq j a)) (λq b=>by
    rcases aX.mp b with b | b
    ·obtain⟨m,y,H⟩:=h q b;exact⟨m,y,by lia⟩
    ·rw[ax]at b;subst b;exact⟨i,rfl,by lia⟩) (by rw[aZ];simp;lia) (by lia)
   rw[o];refine⟨⟨r,t,fC B l u⟩,?_,⟨(.inl (j:Int),.int (i:Int))::g,by rw[k];simp⟩,λq b=>?_⟩
   ·rw[aN,show i+(as.length+1)=i+1+as.length by lia];exact w
   ·rcases aF.mp b with rfl | b
    ·rw[k];exact sN _ _ _ (DF _ _ _)
    ·exact x q b
def xV(c:CT)(rows:PV)(n:Nat)(nx:Nat->List Nat):Prop:=∀j:Nat,j<n->Gives (c "row_nexts" [rows,.int (j:Int)] []) (nT (nx j))/\(nx j).length<=2/\∀m∈nx j,m<n
def mK(kvs:List (bz×PV))(m:Nat):Nat:=match bF kvs (.inl (m:Int))with
 | some (.int v)=>v.toNat
 | _=>0
theorem AJ{N:Nat}{kvs:List (bz×PV)}(h:VY N kvs){m:Nat} (hk:(bF kvs (.inl (m:Int))).isSome=true):bF kvs (.inl (m:Int))=some (.int (mK kvs m:Int))/\mK kvs m<N:=by
 obtain⟨v,a,b⟩:=Lz h hk;have e:mK kvs m=v:=by unfold mK;rw[a];rfl
 rw[e];exact⟨a,b⟩
def j9(as:List (Nat×bY))(kvs:List (bz×PV))(nx:Nat->List Nat)(i:Nat)(q:Nat×bY):List Nat:=if as[i+1]?.map (·.1)=some q.1 then [i+1]else(nx q.1).map (mK kvs)
def Ib(as:List (Nat×bY))(kvs:List (bz×PV))(nx:Nat->List Nat):Nat->List (Nat×bY)->List (List Nat)
 | _,[]=>[]
 | i,q::bs=>j9 as kvs nx i q::Ib as kvs nx (i+1) bs
theorem oo(h:List ak)(i j:Int):iL h (.int i) (.int j)=some (.bl (i==j)):=rfl
theorem mL:∀l:List Nat,ai (l.map iN)=true
 | []=>rfl
 | n::l=>by simp[ai,iN,noRef,mL l]
section
variable {c:CT} {fs:List PV} {I:Int} {nm res rows:PV} {R1 R2:List Rk} {n:Nat} {as:List (Nat×bY)} {kvs:List (bz×PV)} {nx:Nat->List Nat}
theorem DG(w:L2.km fs I=some (Bi nm res rows R1 R2))(hN:noRef rows=true)(B:xV c rows n nx)(hk:VY as.length kvs) (o:∀j:Nat,j<n->(bF kvs (.inl (j:Int))).isSome=true) (M:as.length<=90000)
  (i:Nat) (q:Nat×bY) (p:as[i]?=some q) (C:∀q∈as,q.1<n) (a:List PV) (ht:a.length<=90000) :
  Ev (og c) ⟨[some (.ao fs),some (.int I),some (.lst (as.map eN)),some (.ref 0),some (.int (i:Int)),some (eN q),some (.ref 1)],[dC kvs,⟨.lst,a⟩]⟩ .nx ⟨[some (.ao fs),some (.int I),some (.lst (as.map eN)),some (.ref 0),some (.int (i:Int)),some (eN q),some (.ref 1)],[dC kvs,⟨.lst,a++[nT (j9 as kvs nx i q)]⟩]⟩/\(j9 as kvs nx i q).length<=2/\∀m∈j9 as kvs nx i q,m<as.length:=by
 have N:i<as.length:=(bu.mp p).1;obtain⟨s,d⟩:∃s:cz,s=⟨[some (.ao fs),some (.int I),some (.lst (as.map eN)),some (.ref 0),some (.int (i:Int)),some (eN q),some (.ref 1)],[dC kvs,⟨.lst,a⟩]⟩:=⟨_,rfl⟩
 rw[<-d];have g:Ev (toB (op2 JC Qp Q8)) s (decide (((i:Int)+1)<(as.length:Int))) s:=by
  rw[d];refine bT (b2 (y:=.int (as.length:Int)) rfl (bV (cA rfl rfl) ?_) rfl);show some (PV.int (((as.map eN).length:Nat):Int))=_;rw[aj]
 have r:∀b:Bool,Ev (dN (toB (op2 JC Qp Q8)) (toB (op2 iL (op2 bR (op2 bR (rd 2) Qp) (kI 0)) Qj)) (aW false)) s b s->(b=true↔as[i+1]?.map (·.1)=some q.1) ->
   Ev (og c) s .nx ⟨[some (.ao fs),some (.int I),some (.lst (as.map eN)),some (.ref 0),some (.int (i:Int)),some (eN q),some (.ref 1)],[dC kvs,⟨.lst,a++[nT (j9 as kvs nx i q)]⟩]⟩/\(j9 as kvs nx i q).length<=2/\∀m∈j9 as kvs nx i q,m<as.length:=λb t h1=>by
  cases b with
  | true =>
   have k:=h1.mp rfl;have Q:i+1<as.length:=by
    cases z:as[i+1]? with
    | none=>rw[z]at k;cases k
    | some _=>exact(bu.mp z).1
   have l:j9 as kvs nx i q=[i+1]:=if_pos k;rw[l];refine⟨iT t ?_,by simp,λm e=>by simp at e;lia⟩
   rw[d];exact dS (yy rfl rfl (cA (tU (cA (b2 rfl rfl rfl) rfl) (by simp)) rfl) (aC rfl (by lia)))
  | false =>
   obtain⟨D,E,u⟩:=B q.1 (C q (cZ p));have l:j9 as kvs nx i q=(nx q.1).map (mK kvs):=if_neg λz=>nomatch h1.mpr z
   rw[l];refine⟨iF t ?_,by rw[aj];exact E,λm e=>?_⟩
   ·rw[d];have H:∀h,bR h (.ao fs) (.int I)=some (Bi nm res rows R1 R2):=λh=>w
    refine dS (yy rfl rfl (cA (bV (cA (cM (G:=λm=>iN (mK kvs m)) (sV (de (as:=[rows,.int (q.1:Int)]) (cA (b2 (b2 rfl rfl (H _)) rfl rfl) (cA (b2 rfl rfl rfl) rfl)) rfl (by simp[ai,hN,noRef]) D) rfl) (by lia) λm e=>?_) rfl) ?_) rfl) (aC (n:=1) rfl (by lia)))
    ·refine e1 (rp:=[none,some (iN m),some (.ref 0)]) (h1:=[dC kvs,⟨.lst,a⟩]) rfl (b2 (x:=.ref 0) (y:=.int (m:Int)) rfl rfl ?_);show eH [.inl (m:Int)] (kvs.map λq=>[q.1]) (kvs.map (·.2))=_
     rw[iV];exact(AJ hk (o m (u m e))).1
    ·unfold nT;rw[c6];rfl
   ·obtain⟨x,J,rfl⟩:=az.mp e;exact(AJ hk (o x (u x J))).2
 by_cases h:i+1<as.length
 ·obtain⟨f,v⟩:∃f,as[i+1]?=some f:=⟨_,bQ h⟩
  refine r ((f.1:Int)==(q.1:Int)) ?_ (by rw[v];simp only[qE,gF,Option.some.injEq];lia)
  rw[fg (by lia)]at g
  refine iT g ?_;rw[d];have L:∀h,bR h (.lst (as.map eN)) (.int ((i:Int)+1))=some (eN f):=λh=>atI_nat (xs:=as.map eN) (j:=i+1) (by rw[bG,v];rfl)
  exact bT (b2 (x:=.int (f.1:Int)) (y:=.int (q.1:Int)) (b2 (b2 rfl (b2 rfl rfl rfl) (L _)) rfl rfl) (b2 rfl rfl rfl) (oo _ _ _))
 ·refine r false ?_ ⟨(λz=>nomatch z),λz=>by rw[iZ (by lia)]at z;cases z⟩
  rw[lB (by lia)]at g
  exact iF g rfl
theorem sO(h:L2.km fs I=some (Bi nm res rows R1 R2))(hN:noRef rows=true)(i:xV c rows n nx)(hk:VY as.length kvs) (k:∀j:Nat,j<n->(bF kvs (.inl (j:Int))).isSome=true) (u:as.length<=40000) (o:∀q∈as,q.1<n):∀(bs a:List (Nat×bY)) (b:List PV) (d f:Option PV),as=a++bs->b.length=a.length ->
  ∃(v w:Option PV),dv (gj 2 Q7) (og c) (dZ a.length (bs.map eN)) ⟨[some (.ao fs),some (.int I),some (.lst (as.map eN)),some (.ref 0),d,f,some (.ref 1)],[dC kvs,⟨.lst,b⟩]⟩=some (.ok .nx,⟨[some (.ao fs),some (.int I),some (.lst (as.map eN)),some (.ref 0),v,w,some (.ref 1)],[dC kvs,⟨.lst,b++(Ib as kvs nx a.length bs).map nT⟩]⟩)/\(Ib as kvs nx a.length bs).length=bs.length/\∀l∈Ib as kvs nx a.length bs,l.length<=2/\∀m∈l,m<as.length
 | [],a,b,d,f,_,_=>⟨d,f,by simp[Ib];rfl,rfl,λ_ z=>nomatch z⟩
 | q::bs,a,b,d,f,e,ht=>by
  have J:a.length<=as.length:=by rw[e,aZ];lia
  have y:as[a.length]?=some q:=by rw[e];simp
  obtain⟨B,C,D⟩:=DG h hN i hk k (by lia) a.length q y o b (by lia)
  obtain⟨E,H,p,r,t⟩:=sO h hN i hk k u o bs (a++[q]) (b++[nT (j9 as kvs nx a.length q)]) (some (.int (a.length:Int))) (some (eN q)) (by rw[e];simp) (by simp[ht])
  rw[show(a++[q]).length=a.length+1 by simp]at p r t
  refine⟨E,H,?_,by simp[Ib,r],λx g=>?_⟩
  ·rw[aI,dZ,Ib,aI,show b++nT (j9 as kvs nx a.length q)::(Ib as kvs nx (a.length+1) bs).map nT=b++[nT (j9 as kvs nx a.length q)]++(Ib as kvs nx (a.length+1) bs).map nT by simp]
   exact fC rfl B p
  ·rcases aF.mp g with rfl | g
   ·exact⟨C,D⟩
   ·exact t x g
end
def qb(L:List (List bY))(nx:Nat->List Nat):List (List Nat):=Ib (dY 0 L) (iB (dY 0 L) 0 []) nx 0 (dY 0 L)
theorem LC:∀l:List (List Nat),ai (l.map nT)=true
 | []=>rfl
 | a::l=>by simp[ai,nT,noRef,mL,LC l]
theorem PF(k:Nat){fs:List PV}{I:Int}{nm res rows:PV}{e R2:List Rk}{L:List (List bY)}{nx:Nat->List Nat}(f:L2.km fs I=some (Bi nm res rows e R2))(hN:noRef rows=true)(b:Gives (run txt k "acts" [.ao fs,.int I] []) (.lst (sL 0 L)))(g:xV (run txt k) rows L.length nx)(hz:(dY 0 L).length<=40000) :
  Gives (run txt (k+1) "nexts" [.ao fs,.int I] []) (.lst ((qb L nx).map nT))/\(qb L nx).length=(dY 0 L).length/\∀l∈qb L nx,l.length<=2/\∀m∈l,m<(dY 0 L).length:=by
 rw[mI]at b;obtain⟨⟨h,i,o⟩,c,-,p⟩:=ij (run txt k) (.ao fs) (.int I) (.lst ((dY 0 L).map eN)) (dY 0 L) 0 [] none none (λ_ z=>nomatch z) (by simp) (by lia)
 rw[eS]at c;obtain⟨w,x,d,r,t⟩:=sO f hN g c (λj y=>by
  obtain⟨a,u⟩:=sM L 0 j (fj _) (by lia)
  exact p _ u) hz (λq v=>by have:=mJ L 0 q v;lia) (dY 0 L) [] [] h i rfl rfl
 refine⟨?_,r,t⟩;rw[Hh];rw[fK]at d;refine⟨_,_,j4 (sq (aS (de (cA rfl (cA rfl rfl)) rfl rfl b) rfl) (sq rfl (sq (fS (sG (eV rfl rfl)) o) (sq rfl (sq (fS (sG (eV rfl rfl)) d) (rS rfl)))))),?_⟩;exact DE rfl (LC _)
def cell(a:List Int)(i:Nat):Int:=a.getD i 0
theorem LD(k:Nat)(a:List Int)(i:Nat):Gives (run txt (k+1) "_law_cell_at" [xj a,.int (i:Int)] []) (.int (cell a i)):=by
 rw[xy];have b:gK [] [xj a]=some (.int (a.length:Int)):=by
  show some (PV.int (((a.map PV.int).length:Nat):Int))=_;rw[aj]
 have t:Ek (toB (op2 JC (rd 1) (gw gK (aq (rd 0) (aW []))))) (S0 [some (xj a),some (.int (i:Int))]) (decide ((i:Int)<(a.length:Int))):=bT (b2 rfl (bV (cA rfl rfl) b) rfl);by_cases h:i<a.length
 ·rw[fg (by lia)]at t
  have c:∀h,bR h (xj a) (.int (i:Int))=some (.int (cell a i)):=λ_=>atI_nat (by rw[bG,bQ h];simp[cell,h])
  exact gV (yx (iT t (rS (b2 rfl rfl (c _))))) rfl
 ·rw[lB (by lia)]at t
  have:cell a i=0:=by simp[cell,List.getD,iZ (qw h)]
  rw[this];exact gV (sq (iF t rfl) (rS rfl)) rfl
theorem da{h:List ak}{i j:Int}(a:0<j):gk h (.int i) (.int j)=some (.int (i%j)):=if_pos (fg a)
theorem xW{h:List ak}{i j:Int}(a:0<j/\j<1073741824):iJ h (.int i) (.int j)=some (.int (i/j)):=if_pos (fg a)
theorem AK{h:List ak}{i j:Int}(a:(-Ef<i/\i<Ef)\/(-Ef<j/\j<Ef)):tV h (.int i) (.int j)=some (.int (i*j)):=if_pos (fg a)
noncomputable def mxA:Nat->Int×Int
 | 0=>(48271,2147483647)
 | 1=>(69621,998244353)
 | 2=>(40692,1000000007)
 | _=>(16807,2147483629)
def Hu(c:Int)(i:Nat):Int:=(c%1000000000039+(i:Int))*(mxA i).1%(mxA i).2
theorem mM(k:Nat)(c:Int){i:Nat}(b:i<4):Gives (run txt (k+1) "_law_mixed" [.int c,.int (i:Int)] []) (.int (Hu c i)):=by
 rw[Dn];have a:∀h,gk h (.int c) (.int 1000000000039)=some (.int (c%1000000000039)):=λ_=>da (by decide)
 match i,b with
 | 0,_=>exact gV (sq (aS rfl rfl) (rS (b2 (b2 (b2 (b2 rfl rfl (a _)) rfl rfl) rfl (AK (.inr (by decide)))) rfl (da (by decide))))) rfl
 | 1,_=>exact gV (sq (aS rfl rfl) (rS (b2 (b2 (b2 (b2 rfl rfl (a _)) rfl rfl) rfl (AK (.inr (by decide)))) rfl (da (by decide))))) rfl
 | 2,_=>exact gV (sq (aS rfl rfl) (rS (b2 (b2 (b2 (b2 rfl rfl (a _)) rfl rfl) rfl (AK (.inr (by decide)))) rfl (da (by decide))))) rfl
 | 3,_=>exact gV (sq (aS rfl rfl) (rS (b2 (b2 (b2 (b2 rfl rfl (a _)) rfl rfl) rfl (AK (.inr (by decide)))) rfl (da (by decide))))) rfl
 | n+4,h=>lia
noncomputable def cp(n:Int):Nat:=97+(n%26).toNat
def lt(n:Int):Str:=⟨#[cp n]⟩
def eQ(l:List Nat):Str:=⟨l.toArray⟩
theorem vv{a b:List Nat}(h:eQ a=eQ b):a=b:=by
 have:a.toArray=b.toArray:=cV Str.cps h;simpa using this
theorem DH(a b:List Nat):eQ a++eQ b=eQ (a++b):=by
 show Str.append _ _=_;unfold Str.append eQ;simp
theorem Z3(n:Int):lt n=eQ [cp n]:=rfl
theorem E5:(Str.ofString "")=eQ []:=by decide +kernel
theorem E6(l:List Nat):(eQ l).length=l.length:=by
 unfold eQ Str.length;simp
theorem DI:∀m:Fin 26,L2.km (Str.ofString "abcdefghijklmnopqrstuvwxyz").cps.toList ((m:Nat):Int)=some (97+(m:Nat)):=by decide +kernel
theorem Hv(h:List ak)(n:Int):bR h (.str "abcdefghijklmnopqrstuvwxyz") (.int (n%26))=some (.str (lt n)):=by
 have b:=qz n (show(26:Int)≠0 by decide)
 have d:=BI n (show(0:Int)<26 by decide)
 obtain⟨m,a⟩:=Int.eq_ofNat_of_zero_le b;have:=DI ⟨m,by lia⟩
 show(if(Str.ofString "abcdefghijklmnopqrstuvwxyz").length<=fD then(L2.km (Str.ofString "abcdefghijklmnopqrstuvwxyz").cps.toList (n%26)).map λc=>PV.str ⟨#[c]⟩else none)=_
 rw[if_pos (by decide +kernel),a,this]
 show some (PV.str ⟨#[97+m]⟩)=some (PV.str ⟨#[cp n]⟩);unfold cp;rw[a,gB]
theorem VZ{a b:Int}(h:cp a=cp b):a%26=b%26:=by
 unfold cp at h;have c:=qz a (show(26:Int)≠0 by decide)
 have d:=qz b (show(26:Int)≠0 by decide)
 lia
abbrev W7:PV:=.str "abcdefghijklmnopqrstuvwxyz"
def MT(B:List Int)(pl q i:Nat):Nat:=cp (B.getD i 0+(q:Int)*(if i=pl then 1 else 0))
def DJ(B:List Int)(pl q:Nat):Str:=eQ ((List.range B.length).map (MT B pl q))
def nh(i:Nat):PV:=.int (0+(i:Int))
theorem mN{a:Gx (List PV)}{s s1:cz}{j:Nat}(h:Ev a s [iN j] s1)(b:j<=4000000):Ev (CJ (ph wR a)) s (.sq ((List.range j).map nh)) s1:=by
 refine sG (eB h ?_);show Option.map _ (if zD 0 (j:Int)=true then some (jE 0 (j:Int).toNat)else none)=_
 rw[if_pos (by unfold zD;rw[i9];lia),gB]
 rfl
section
variable (c:CT) (x0 x1:Option PV) (B:List Int) (pl q:Nat)
def nS(x0 x1:Option PV)(B:List Int)(pl:Nat)(a b d:Option PV)(F:List PV):cz:=⟨[x0,x1,some W7,some (iN B.length),some (iN pl),a,some (.lst (B.map .int)),some (.ref 0),b,d],[⟨.lst,F⟩]⟩
theorem AL(F:List PV)(i:Nat)(d:i<B.length)(N:List Nat)(hN:N.length<=100)(l:q<=100):Ev (si c) (nS x0 x1 B pl (some (nh i)) (some (nh q)) (some (.str (eQ N))) F) .nx (nS x0 x1 B pl (some (nh i)) (some (nh q)) (some (.str (eQ (N++[MT B pl q i])))) F):=by
 have b:∀j:Nat,nh j=iN j:=λj=>by unfold nh iN;rw[jP]
 rw[b,b];have f:∀h,bR h (.lst (B.map PV.int)) (.int (i:Int))=some (.int (B.getD i 0)):=λ_=>atI_nat (by rw[bG,Bm,bQ d];rfl)
 have he:∀h,Gq h [.bl ((i:Int)==(pl:Int))]=some (.int (if i=pl then 1 else 0)):=λh=>by
  by_cases a:i=pl
  ·rw[if_pos a,a,ly];rfl
  ·rw[if_neg a,show((i:Int)==(pl:Int))=false by rw[eR];lia];rfl
 have g:∀h,tV h (.int (q:Int)) (.int (if i=pl then 1 else 0))=some (.int ((q:Int)*(if i=pl then 1 else 0))):=λh=>AK (.inr (by split<;>decide))
 have k:∀h,eG h (.str (eQ N)) (.str (lt (B.getD i 0+(q:Int)*(if i=pl then 1 else 0))))=some (.str (eQ (N++[MT B pl q i]))):=λh=>by
  have e:eG h (.str (eQ N)) (.str (lt (B.getD i 0+(q:Int)*(if i=pl then 1 else 0))))=sizeOk ((eQ N).length+(lt (B.getD i 0+(q:Int)*(if i=pl then 1 else 0))).length) (.str (eQ N++lt (B.getD i 0+(q:Int)*(if i=pl then 1 else 0)))):=rfl
  rw[e,Z3,DH,E6,E6];exact if_pos (show N.length+1<=fD by have:fD=4000000:=rfl;lia)
 exact aS (b2 rfl (b2 rfl (b2 (b2 (b2 rfl rfl (f _)) (b2 rfl (bV (cA (b2 rfl rfl (oo _ _ _)) rfl) (he _)) (g _)) rfl) rfl (da (by decide))) (Hv _ _)) (k _)) rfl
theorem oZ(F:List PV)(g:q<=100):∀(b a:List Nat) (d:Option PV),List.range B.length=a++b->B.length<=50->∃f,dv (aV 5) (si c) (b.map nh) (nS x0 x1 B pl d (some (nh q)) (some (.str (eQ (a.map (MT B pl q))))) F)=some (.ok .nx,nS x0 x1 B pl f (some (nh q)) (some (.str (DJ B pl q))) F)
 | [],a,d,e,_=>⟨d,by unfold DJ;rw[e,dB];rfl⟩
 | i::b,a,d,e,j=>by
  have k:i<B.length:=ez.mp (by rw[e];simp)
  have hp:a.length<=B.length:=by
   have:=cV List.length e;rw[gD,aZ]at this
   lia
  have l:=AL c x0 x1 B pl q F i k (a.map (MT B pl q)) (by rw[aj];lia) g
  obtain⟨f,h⟩:=oZ F g b (a++[i]) (some (nh i)) (by rw[e];simp) j
  rw[cm]at h;exact⟨f,fC rfl l h⟩
theorem Hw(F:List PV)(hF:F.length<=100)(d:q<=100)(e:B.length<=50)(a f:Option PV):∃b,Ev (sj c) (nS x0 x1 B pl a (some (nh q)) f F) .nx (nS x0 x1 B pl b (some (nh q)) (some (.str (DJ B pl q))) (F++[.str (DJ B pl q)])):=by
 obtain⟨b,h⟩:=oZ c x0 x1 B pl q F d (List.range B.length) [] a rfl e;refine⟨b,sq (s1:=nS x0 x1 B pl a (some (nh q)) (some (.str (eQ []))) F) (by rw[<-E5];rfl) (sq (fS (mN rfl (by lia)) h) (dS (yy rfl rfl (cA rfl rfl) (aC rfl (by lia)))))⟩
end
theorem sP(c:CT)(e f:Option PV)(B:List Int)(pl:Nat)(k:B.length<=50):∀(a:List Nat) (F:List PV) (b g d:Option PV),(∀q∈a,q<=100)->F.length+a.length<=100->∃m i j,dv (aV 8) (sj c) (a.map nh) (nS e f B pl b g d F)=some (.ok .nx,nS e f B pl m i j (F++a.map λq=>.str (DJ B pl q)))
 | [],F,b,g,d,_,_=>⟨b,g,d,by simp;rfl⟩
 | q::a,F,b,g,d,l,o=>by
  rw[aN]at o;obtain⟨p,h⟩:=Hw c e f B pl q F (by lia) (l q aD) k b d
  obtain⟨t,u,v,w⟩:=sP c e f B pl k a (F++[.str (DJ B pl q)]) p (some (nh q)) (some (.str (DJ B pl q))) (λr x=>l r (aG _ x)) (by simp;lia)
  refine⟨t,u,v,?_⟩;rw[aI,aI,show F++PV.str (DJ B pl q)::a.map (λq=>PV.str (DJ B pl q))=F++[PV.str (DJ B pl q)]++a.map (λq=>PV.str (DJ B pl q)) by simp]
  exact fC rfl h w
theorem PH{B:List Int}{pl q a:Nat}(hp:pl<B.length)(h1:q<26)(h2:a<26)(h:DJ B pl q=DJ B pl a):q=a:=by
 have h:=vv h;have b:∀q:Nat,((List.range B.length).map (MT B pl q))[pl]?=some (cp (B.getD pl 0+(q:Int))):=λq=>by
  rw[bG,lr hp];simp[MT]
 have e:=cV (λl=>l[pl]?) h
 simp only[b]at e;have:=VZ (cj e)
 lia
noncomputable def xX(C:Int):Nat:=(1+C%8).toNat
def Ic(C:Int):List Int:=(List.range (xX C)).map fun(i:Nat)=>(C/(64+9*(i:Int)*i)+5*(i:Int))%26
def LF(C:Int):Nat:=(C/8%(xX C:Int)).toNat
theorem mO(C:Int):(Ic C).length=xX C:=by simp[Ic]
theorem sQ(C:Int):1<=xX C/\xX C<=8/\(xX C:Int)=1+C%8:=by unfold xX;lia
theorem LG(C:Int):LF C<(Ic C).length/\(LF C:Int)=C/8%(xX C:Int):=by
 have h:=sQ C;have a:=qz (C/8) (show(xX C:Int)≠0 by lia)
 have b:=BI (C/8) (show(0:Int)<(xX C:Int) by lia)
 rw[mO];unfold LF
 lia
def gS(C:Int)(q:Nat):Str:=DJ (Ic C) (LF C) q
theorem PJ{C:Int}{q a:Nat}(h1:q<26)(h2:a<26)(h:gS C q=gS C a):q=a:=PH (LG C).1 h1 h2 h
theorem DK(C:Int)(q:Nat):(gS C q==(Str.ofString ""))=false:=by
 rw[E5,eR];intro h;have:=cV List.length (vv h);rw[aj,gD,mO]at this;have:=sQ C;simp at *
 lia
theorem Hx(C:Int)(c d e f g j k l:Option PV):Ek (di false [none,none,some 0] (CJ (ph wR Qe)) (lM (aV 1) (op2 gk (op2 eG (op2 iJ (rd 2) (op2 eG (kI 64) (op2 tV (op2 tV (kI 9) (rd 1)) (rd 1)))) (op2 tV (kI 5) (rd 1))) (kI 26)))) (S0 [some (.int C),c,d,some (iN (xX C)),e,f,g,j,k,l]) (.lst ((Ic C).map .int)):=by
 have t:=sQ C;unfold Ic;rw[c6];refine cM (mN (cA rfl rfl) (by lia)) (by rw[gD];lia) λi b=>?_
 have b:=ez.mp b;have m:i<=7:=by lia
 have o:nh i=iN i:=by unfold nh iN;rw[jP]
 rw[o];have u:Ef=18446744073709551616\/1000<Ef:=by right;decide
 have p:∀h,tV h (.int 9) (.int (i:Int))=some (.int (9*(i:Int))):=λ_=>AK (.inl (by decide))
 have q:0<=9*(i:Int)*i/\9*(i:Int)*i<=441:=by
  have:i=0\/i=1\/i=2\/i=3\/i=4\/i=5\/i=6\/i=7:=by lia
  rcases this with rfl | rfl | rfl | rfl | rfl | rfl | rfl | rfl<;>simp
 have a:∀h,tV h (.int (9*(i:Int))) (.int (i:Int))=some (.int (9*(i:Int)*i)):=λ_=>AK (.inr (by
  have:i=0\/i=1\/i=2\/i=3\/i=4\/i=5\/i=6\/i=7:=by lia
  rcases this with rfl | rfl | rfl | rfl | rfl | rfl | rfl | rfl<;>decide))
 have r:∀h,tV h (.int 5) (.int (i:Int))=some (.int (5*(i:Int))):=λ_=>AK (.inl (by decide))
 exact e1 rfl (b2 (b2 (b2 rfl (b2 rfl (b2 (b2 rfl rfl (p _)) rfl (a _)) rfl) (xW (by lia))) (b2 rfl rfl (r _)) rfl) rfl (da (by decide)))
def nmL(C:Int)(n:Nat):List PV:=(List.range n).map λq=>.str (gS C q)
theorem fW{b:Type}(f:b->Str):∀l:List b,ai (l.map λa=>PV.str (f a))=true
 | []=>rfl
 | _::l=>by rw[aI];simp[ai,noRef,fW f l]
theorem PK(k:Nat)(C:Int)(n:Nat)(g:n<=26):Gives (run txt (k+1) "_law_names" [.int C,iN n] []) (.lst (nmL C n)):=by
 have a:=sQ C;have hp:=LG C;rw[Dp];obtain⟨i,j,l,h⟩:=sP (run txt k) (some (.int C)) (some (iN n)) (Ic C) (LF C) (by rw[mO];lia) (List.range n) [] none none none (λq b=>by have:=ez.mp b;lia) (by simp;lia)
 rw[fK]at h;have c:Ev (dh (op2 eG (kI 1) (op2 gk (rd 0) (kI 8))) (aV 3)) (S0 [some (.int C),some (iN n),some W7,none,none,none,none,none,none,none]) .nx (S0 [some (.int C),some (iN n),some W7,some (iN (xX C)),none,none,none,none,none,none]):=by
  have e:iN (xX C)=.int (1+C%8):=by unfold iN;rw[a.2.2]
  rw[e];exact aS (b2 rfl (b2 rfl rfl (da (by decide))) rfl) rfl
 have d:Ev (dh (op2 gk (op2 iJ (rd 0) (kI 8)) (rd 3)) (aV 4)) (S0 [some (.int C),some (iN n),some W7,some (iN (xX C)),none,none,none,none,none,none]) .nx (S0 [some (.int C),some (iN n),some W7,some (iN (xX C)),some (iN (LF C)),none,none,none,none,none]):=by
  have e:iN (LF C)=.int (C/8%(xX C:Int)):=by unfold iN;rw[hp.2]
  rw[e];exact aS (b2 (b2 rfl rfl (xW (by decide))) rfl (da (by lia))) rfl
 have f:nS (some (.int C)) (some (iN n)) (Ic C) (LF C) none none none []=⟨[some (.int C),some (iN n),some W7,some (iN (xX C)),some (iN (LF C)),none,some (.lst ((Ic C).map .int)),some (.ref 0),none,none],[⟨.lst,[]⟩]⟩:=by unfold nS;rw[mO]
 rw[f]at h;refine⟨.ref 0,[⟨.lst,nmL C n⟩],?_,om (fW _ _)⟩;refine j4 (sq rfl (sq c (sq d (sq (aS (Hx C _ _ _ _ _ _ _ _) rfl) (sq rfl (sq (fS (mN (cA rfl rfl) (by lia)) h) (rS rfl)))))))
noncomputable def iy(c:Int):Sh:=match(c%7).toNat with
 | 0=>.bA [.num,.num]
 | 1=>.own
 | 2=>.bL (1+c/7%8)
 | 3=>.num
 | 4=>.bA [.num,.own]
 | 5=>.bA [.bL (1+c/7%8),.own]
 | _=>.bA [.bA [.num,.num],.bL (1+c/7%8)]
theorem PL(k:Nat)(c:Int):Gives (run txt (k+1) "_law_shape" [.int c] []) (enc (iy c)):=by
 rw[Dq];obtain⟨n,a⟩:∃n,n=1+c/7%8:=⟨_,rfl⟩
 have b:Ev (dh (kF .ao (aq (kS "strip") (aq (op2 eG (kI 1) (op2 gk (op2 iJ (rd 0) (kI 7)) (kI 8))) (aW [])))) (aV 1)) (S0 [some (.int c),none,none,none]) .nx (S0 [some (.int c),some (enc (.bL n)),none,none]):=by
  rw[a];exact aS (tU (cA rfl (cA (b2 rfl (b2 (b2 rfl rfl (xW (by decide))) rfl (da (by decide))) rfl) rfl)) (by simp)) rfl
 have d:∀h,bR h (.lst (bX [.bA [.num,.num],.own,.bL n,.num,.bA [.num,.own],.bA [.bL n,.own]]++bX [.bA [.bA [.num,.num],.bL n]])) (.int (c%7))=some (enc (iy c)):=λh=>by
  have:c%7=0\/c%7=1\/c%7=2\/c%7=3\/c%7=4\/c%7=5\/c%7=6:=by lia
  unfold iy;rcases this with h | h | h | h | h | h | h<;>rw[h,a]<;>rfl
 exact gV (sq b (sq rfl (sq rfl (rS (b2 (b2 rfl rfl (aL (by simp[bX]))) (b2 rfl rfl (da (by decide))) (d _)))))) (dw _)
def jH(r:Rw):PV:=.ao [.ao (r.1.map .int),enc r.2.2.2]
theorem xY:∀l:List Int,ai (l.map PV.int)=true
 | []=>rfl
 | _::l=>by rw[aI];simp[ai,noRef,xY l]
theorem Z4(r:Rw):noRef (jH r)=true:=by simp[jH,noRef,ai,xY,dw]
theorem RV:∀l:List Rw,ai (l.map jH)=true
 | []=>rfl
 | r::l=>by rw[aI];simp[ai,Z4,RV l]
theorem AM(i:Nat)(a:Int)(s:Sh)(r:List Sh):tabs i a (s::r)=(tab s).map (mD i a)++tabs (i+1) (a+sz s) r:=rfl
theorem sR(c:CT)(S:Option PV):∀(b:List Sh) (i:Nat) (acc:List Rw) (a:Int) (f g:Option PV),(∀s∈b,Gives (c "_law_parts" [enc s] []) (.lst ((tab s).map jH)))->acc.length+gY b<=1000 ->
  ∃j k,dv (gj 2 Q3) (sk c) (dZ i (bX b)) (S0 [S,some (.lst (acc.map jH)),f,g])=some (.ok .nx,S0 [S,some (.lst ((acc++tabs i a b).map jH)),j,k])
 | [],i,acc,a,f,g,_,_=>⟨f,g,by simp[bX,dZ,tabs];rfl⟩
 | s::b,i,acc,a,f,g,h,m=>by
  have o:=h s aD;simp only[gY]at m;obtain⟨j,k,e⟩:=sR c S b (i+1) (acc++(tab s).map (mD i a)) (a+sz s) (some (.int (i:Int))) (some (enc s)) (λs p=>h s (aG _ p)) (by rw[aZ,aj];lia)
  refine⟨j,k,?_⟩;rw[AM,<-dA];have hp:∀r∈tab s,r.1.length<=1000:=λr l=>by have:=ES s r l;have:=RP s;lia
  have d:Ev (sk c) (S0 [S,some (.lst (acc.map jH)),some (.int (i:Int)),some (enc s)]) .nx (S0 [S,some (.lst ((acc++(tab s).map (mD i a)).map jH)),some (.int (i:Int)),some (enc s)]):=by
   rw[cm,c6];refine aS (b2 rfl (cM (sV (de rfl rfl rfl o) rfl) (by lia) λr l=>?_) (aL (by simp only[aj];lia))) rfl
   have q:=hp r l;exact e1 rfl (tU (cA (b2 rfl rfl (aT (by simp only[aN,vT,aj];lia))) (cA rfl rfl)) (by simp))
  exact fC rfl d e
theorem LH(h:List ak)(s:Sh):iL h (.str (W5 s)) (.str "rec")=some (.bl (!iw s)):=by cases s<;>rfl
theorem o8(s:Sh)(c a b:Option PV):Ev (dh (kF .lst (aq (kF .ao (aq (kF .ao (aW [])) (aq (rd 0) (aW [])))) (aW []))) (aV 1)) (S0 [some (enc s),c,a,b]) .nx (S0 [some (enc s),some (.lst [jH ([],0,sz s,s)]),a,b]):=rfl
theorem lR(k:Nat){s:Sh}(h:iw s=true):Gives (run txt (k+1) "_law_parts" [enc s] []) (.lst ((tab s).map jH)):=by
 rw[su];have he:=LH [] s;rw[h]at he;rw[Lf h];exact gV (sq (o8 s none none none) (sq (iF (bT (b2 (b2 rfl rfl (oV _ s)) rfl he)) rfl) (rS rfl))) (by simp[noRef,ai,Z4])
theorem Hy(k:Nat){ps:List Sh} (h:∀s∈ps,Gives (run txt k "_law_parts" [enc s] []) (.lst ((tab s).map jH))) (a:gY ps<=900):Gives (run txt (k+1) "_law_parts" [enc (.bA ps)] []) (.lst ((tab (.bA ps)).map jH)):=by
 rw[su];have he:=LH [] (.bA ps);obtain⟨b,c,e⟩:=sR (run txt k) (some (enc (.bA ps))) ps 0 [([],0,sz (.bA ps),.bA ps)] 0 none none h (by simp;lia)
 have ht:tab (.bA ps)=[([],0,sz (.bA ps),.bA ps)]++tabs 0 0 ps:=by simp[tab,sz,lv]
 rw[ht];exact gV (sq (o8 (.bA ps) none none none) (sq (iT (bT (b2 (b2 rfl rfl (oV _ (.bA ps))) rfl he)) (fS (sG (eV (b2 rfl rfl (by simp only[enc];rfl)) rfl)) e)) (rS rfl))) (RV _)
mutual
theorem xZ:∀(s:Sh) (k:Nat),dp s<=k->(tab s).length<=900->Gives (run txt (k+1) "_law_parts" [enc s] []) (.lst ((tab s).map jH))
 | .num,k,_,_=>lR k rfl
 | .own,k,_,_=>lR k rfl
 | .bL n,k,_,_=>lR k rfl
 | .bA a,0,hd,_=>by simp[dp]at hd
 | .bA a,k+1,hd,d=>by
  have e:(tab (.bA a)).length=gY a+1:=by simp only[tab,aN,fZ]
  have b:oM a<=k:=by simp only[dp]at hd;lia
  exact Hy (k+1) (λs c=>AN a k b (by lia) s c) (by lia)
theorem AN:∀(ps:List Sh) (k:Nat),oM ps<=k->gY ps<=900->∀s∈ps,Gives (run txt (k+1) "_law_parts" [enc s] []) (.lst ((tab s).map jH))
 | [],_,_,_,s,a=>by cases a
 | p::r,k,hd,b,s,a=>by
  simp only[oM]at hd;simp only[gY]at b;rcases aF.mp a with e | e
  ·rw[e];exact xZ p k (by lia) (by lia)
  ·exact AN r k (by lia) (by lia) s e
end
mutual
theorem E7:∀(s:Sh),∀r∈tab s,(tab r.2.2.2).length<=(tab s).length
 | .num,r,h=>by simp[tab]at h;subst h;simp[tab]
 | .own,r,h=>by simp[tab]at h;subst h;simp[tab]
 | .bL n,r,h=>by simp[tab]at h;subst h;simp[tab]
 | .bA a,r,h=>by
  have b:(tab (.bA a)).length=gY a+1:=by simp only[tab,aN,fZ]
  simp only[tab,aF]at h;rcases h with rfl | h
  ·exact aA _
  ·have:=vw a 0 0 r h
   lia
theorem vw:∀(l:List Sh) (k:Nat) (a:Int),∀r∈tabs k a l,(tab r.2.2.2).length<=gY l
 | [],_,_,r,h=>by simp[tabs]at h
 | s::l,k,a,r,h=>by
  simp only[tabs,aX,az]at h;simp only[gY];rcases h with⟨b,h0,rfl⟩ | h
  ·have:=E7 s b h0;simp only[mD]
   lia
  ·have:=vw l _ _ r h
   lia
end
mutual
def pos:Sh->Bool
 | .bL n=>decide (0<n)
 | .bA a=>LI a
 | _=>true
def LI:List Sh->Bool
 | []=>true
 | s::r=>pos s&&LI r
end
mutual
theorem sS:∀(s:Sh),pos s=true->∀r∈tab s,pos r.2.2.2=true
 | .num,h,r,a=>by simp[tab]at a;subst a;exact h
 | .own,h,r,a=>by simp[tab]at a;subst a;exact h
 | .bL n,h,r,a=>by simp[tab]at a;subst a;exact h
 | .bA b,h,r,a=>by
  simp only[tab,aF]at a;rcases a with rfl | a
  ·exact h
  ·exact vx b (by simpa only[pos]using h) 0 0 r a
theorem vx:∀(l:List Sh),LI l=true->∀(k:Nat) (a:Int),∀r∈tabs k a l,pos r.2.2.2=true
 | [],_,_,_,r,b=>by simp[tabs]at b
 | s::l,h,k,a,r,b=>by
  simp only[LI,aO]at h;simp only[tabs,aX,az]at b;rcases b with⟨c,h0,rfl⟩ | b
  ·exact sS s h.1 c h0
  ·exact vx l h.2 _ _ r b
end
def E8(s:Sh):Prop:=xP s/\pos s=true
theorem ya{s:Sh}(h:xP s){r:Rw}(a:r∈tab s):xP r.2.2.2:=by
 have b:=E7 s r a;have c:=(oj s r a).1;have d:=h.1;have e:=h.2;exact⟨by lia,by lia⟩
def cS(s:Sh):Prop:=E8 s/\(lv s).length<=3
theorem kB(c:Int):cS (iy c):=by
 have a:0<1+c/7%8/\1+c/7%8<=8:=by lia
 have:c%7=0\/c%7=1\/c%7=2\/c%7=3\/c%7=4\/c%7=5\/c%7=6:=by lia
 unfold iy;rcases this with h | h | h | h | h | h | h<;>rw[h]<;>simp[cS,E8,xP,tab,tabs,dp,oM,pos,LI,lv,fY,a]
theorem LJ:cS .num:=by simp[cS,E8,xP,tab,dp,pos,lv]
theorem LM{s:Sh}(h:cS s){r:Rw}(a:r∈tab s):cS r.2.2.2:=by
 obtain⟨⟨b,c⟩,d⟩:=h;exact⟨⟨ya b a,sS s c r a⟩,bK (oj s r a).2 d⟩
structure mP (ks:List Rk):Prop where
 nd:(ks.map (·.1)).Nodup
 good:∀q∈ks,E8 (bE q.2)/\(lv (bE q.2)).length<=3
 few:ks.length<=10
 ne:∀q∈ks,(q.1==(Str.ofString ""))=false
theorem mP.ok{ks:List Rk}(K:mP ks):VT ks:=λq a=>(K.good q a).1.1
def kw:Kn->Str
 | .ow s=>W5 s
 | .ho b _=>hw b
theorem lT(h:List ak)(k:Kn):bR h (encK k) (.int 0)=some (.str (kw k)):=by
 cases k with
 | ow s=>exact oV h s
 | ho b s=>rfl
theorem mQ(h:List ak)(d:Kn):pO false h (.str (kw d)) (.ao [.str "lent",.str "sole"])=some (.bl (dy d)):=by
 cases d with
 | ow s=>cases s<;>kernel_rfl
 | ho b s=>cases b<;>kernel_rfl
theorem V2(h:List ak)(a b:Str):JF h (.str a) (.str b)=some (.bl (!(a==b))):=rfl
def may(d:Kn):Bool:=!(kw d==(Str.ofString "lent"))
def la(ks:List Rk):List Sp:=ks.flatMap λq=>(tab (bE q.2)).map λr=>⟨q.1,q.2,r,.bj⟩
def kT(s:Sp):PV:=.ao [aU s,enc s.r.2.2.2,.bl (may s.d)]
theorem iz{ks:List Rk}(h:VT ks):∀s∈la ks,cG ks s/\s.a=.bj:=by
 intro s b;obtain⟨q,c,b⟩:=dR.mp b;obtain⟨r,d,rfl⟩:=az.mp b;exact⟨⟨c,h q c,d,.bj⟩,rfl⟩
theorem yb{ks:List Rk}(h:VT ks):(la ks).length<=100*ks.length:=by
 induction ks with
 | nil=>simp[la]
 | cons q ks ih =>
  have c:=(h q aD).1;have a:=ih λr b=>h r (aG _ b)
  simp only[la,dQ,aZ,aj,aN]at a ⊢
  lia
theorem mR{ks:List Rk}{q:Rk}(a:q∈ks):(⟨q.1,q.2,([],0,sz (bE q.2),bE q.2),.bj⟩:Sp)∈la ks:=dR.mpr ⟨q,a,az.mpr ⟨_,gf _,rfl⟩⟩
theorem LN(c:CT)(S:Option PV)(x:Str)(d:Kn)(h:Option PV)(T:List Rw):∀(acc:List PV) (a b:Option PV),acc.length+T.length<=90000 ->
  ∃f g,dv (gj 2 (cR (aV 6) (cR (aV 7) lK))) (Dr c) (T.map jH) ⟨[S,some (.ref 0),some (.str x),some (encK d),some (.bl (dy d)),h,a,b],[⟨.lst,acc⟩]⟩=some (.ok .nx,⟨[S,some (.ref 0),some (.str x),some (encK d),some (.bl (dy d)),h,f,g],[⟨.lst,acc++T.map λr=>kT ⟨x,d,r,.bj⟩⟩]⟩):=by
 induction T with
 | nil=>exact λacc a b _=>⟨a,b,by simp;rfl⟩
 | cons r T ih =>
  intro acc a b i;simp only[aN]at i;obtain⟨f,g,e⟩:=ih (acc++[kT ⟨x,d,r,.bj⟩]) (some (.ao (r.1.map .int))) (some (enc r.2.2.2)) (by simp;lia)
  refine⟨f,g,?_⟩;rw[dA]at e;rw[aI,aI];exact fC rfl (dS (yy rfl rfl (cA (tU (cA rfl (cA rfl (cA (b2 (b2 rfl rfl (lT _ d)) rfl (V2 _ _ _)) rfl))) (by simp)) rfl) (aC rfl (by lia)))) e
theorem HA(k:Nat)(hk:3<=k)(S:Option PV)(ks:List Rk):∀(acc:List PV) (f g h i a c:Option PV),VT ks->acc.length+100*ks.length<=80000 ->
  ∃j l m o p t,dv (gj 2 Q3) (Ds (run txt (k+1))) (ks.map bC) ⟨[S,some (.ref 0),f,g,h,i,a,c],[⟨.lst,acc⟩]⟩=some (.ok .nx,⟨[S,some (.ref 0),j,l,m,o,p,t],[⟨.lst,acc++(la ks).map kT⟩]⟩):=by
 induction ks with
 | nil=>exact λacc f g h i a c _ _=>⟨f,g,h,i,a,c,by simp[la];rfl⟩
 | cons q ks ih =>
  intro acc f g h i a c ho u;simp only[aN]at u;obtain⟨E,H⟩:=ho q aD;obtain⟨v,w,y⟩:=LN (run txt (k+1)) S q.1 q.2 (some (enc (bE q.2))) (tab (bE q.2)) acc a c (by lia)
  obtain⟨j,l,m,o,p,t,e⟩:=ih (acc++(tab (bE q.2)).map λr=>kT ⟨q.1,q.2,r,.bj⟩) (some (.str q.1)) (some (encK q.2)) (some (.bl (dy q.2))) (some (enc (bE q.2))) v w (λr B=>ho r (aG _ B)) (by rw[aZ,aj];lia)
  refine⟨j,l,m,o,p,t,?_⟩;have C:(la (q::ks)).map kT=((tab (bE q.2)).map λr=>kT ⟨q.1,q.2,r,.bj⟩)++(la ks).map kT:=by
   simp[la,dQ,cm,c6,Function.comp_def]
  rw[C,<-dA];have ht:=xZ (bE q.2) k (by lia) (by lia)
  have D:Ev (dN (fX (rd 4)) (dh (op2 bR (rd 3) (kI 1)) (aV 5)) (aW .nx)) ⟨[S,some (.ref 0),some (.str q.1),some (encK q.2),some (.bl (dy q.2)),some (encK q.2),a,c],[⟨.lst,acc⟩]⟩ .nx ⟨[S,some (.ref 0),some (.str q.1),some (encK q.2),some (.bl (dy q.2)),some (enc (bE q.2)),a,c],[⟨.lst,acc⟩]⟩:=by
   obtain⟨x,d⟩:=q;cases d with
   | ow s=>rfl
   | ho b s=>rfl
  exact fC rfl (sq (aS (b2 (b2 rfl rfl (lT _ q.2)) rfl (mQ _ q.2)) rfl) (sq (aS rfl rfl) (sq D (fS (sV (de rfl rfl (by simp[ai,dw]) ht) rfl) y)))) e
theorem V5{a:PV}(b:noRef a=true)(x:Str)(c:Bool)(p:List Int):noRef (Lw x c p a)=true:=by simp[Lw,noRef,ai,xY,b]
theorem uq.nr{ks:List Rk}{a:PV}(h:uq ks a):noRef a=true:=by cases h<;>rfl
theorem fG{ks:List Rk}{s:Sp}(h:cG ks s):noRef (aU s)=true:=V5 h.at_.nr _ _ _
theorem E9{ks:List Rk}:∀l:List Sp,(∀s∈l,cG ks s)->ai (l.map kT)=true
 | [],_=>rfl
 | s::l,h=>by rw[aI];simp[ai,noRef,kT,fG (h s aD),dw,E9 l λt ht=>h t (aG _ ht)]
theorem PN(k:Nat)(hk:3<=k)(ks:List Rk)(h:VT ks)(b:ks.length<=100):Gives (run txt (k+2) "_law_spots" [.lst (ks.map bC)] []) (.lst ((la ks).map kT)):=by
 rw[Dt];obtain⟨c,d,f,g,i,j,e⟩:=HA k hk (some (.lst (ks.map bC))) ks [] none none none none none none h (by simp;lia)
 rw[fK]at e;exact⟨.ref 0,_,j4 (sq rfl (sq (fS rfl e) (rS rfl))),om (E9 _ λs a=>(iz h s a).1)⟩
def jI(s:Sp):PV:=.ao [aU s,.bl (may s.d)]
noncomputable def gZ(x:Str)(dg:Int)(s:Sp):List Sp:=match s.r.2.2.2 with
 | .num=>[s]
 | .own=>[s]
 | .bL n=>[{s with a:=if dg/8%2=0 then .int (dg%n)else .str x}]
 | .bA _=>[]
def Z5:Sh->Bool
 | .num=>true
 | .own=>true
 | _=>false
def AO:Sh->Bool
 | .bL _=>true
 | _=>false
theorem Z6(h:List ak)(s:Sh):pO false h (.str (W5 s)) (.ao [.str "num",.str "own"])=some (.bl (Z5 s)):=by cases s<;>kernel_rfl
theorem RX(h:List ak)(s:Sh):iL h (.str (W5 s)) (.str "strip")=some (.bl (AO s)):=by cases s<;>kernel_rfl
def V6(S:Option PV)(x:Str)(dg:Int)(acc:List PV)(s:Sp):cz:=⟨[S,some (.str x),some (.int dg),some (.ref 0),some (aU s),some (enc s.r.2.2.2),some (.bl (may s.d))],[⟨.lst,acc⟩]⟩
theorem Fb(S:Option PV)(x:Str)(dg:Int)(s:Sp)(acc:List PV)(a:acc.length<90000):Ev (gq (yv "list" (iO (gU wO)) (rd 3) (aq (kF .ao (aq (rd 4) Qu)) (aW [])))) (V6 S x dg acc s) .nx (V6 S x dg (acc++[jI s]) s):=dS (yy rfl rfl (cA rfl rfl) (aC rfl (by lia)))
theorem LO(c:CT)(S:Option PV)(x:Str)(dg:Int){s:Sp}(hp:pos s.r.2.2.2=true)(acc:List PV)(f:acc.length<90000):Ev (mG c) (V6 S x dg acc s) .nx (V6 S x dg (acc++(gZ x dg s).map jI) s):=by
 have b:=λacc:List PV=>(bT (b2 (b2 rfl rfl (oV _ s.r.2.2.2)) rfl (Z6 _ s.r.2.2.2)):Ek (toB (op2 (pO false) Qj (kF .ao (aq (kS "num") (aq (kS "own") (aW [])))))) (V6 S x dg acc s) (Z5 s.r.2.2.2))
 have e:=λacc:List PV=>(bT (b2 (b2 rfl rfl (oV _ s.r.2.2.2)) rfl (RX _ s.r.2.2.2)):Ek (toB (op2 iL Qj (kS "strip"))) (V6 S x dg acc s) (AO s.r.2.2.2))
 cases he:s.r.2.2.2 with
 | num =>
  rw[he]at b e;rw[show gZ x dg s=[s] by unfold gZ;rw[he]]
  exact sq (iT (b acc) (Fb S x dg s acc f)) (iF (e _) rfl)
 | own =>
  rw[he]at b e;rw[show gZ x dg s=[s] by unfold gZ;rw[he]]
  exact sq (iT (b acc) (Fb S x dg s acc f)) (iF (e _) rfl)
 | bA k =>
  rw[he]at b e;rw[show gZ x dg s=[] by unfold gZ;rw[he],nE,dB]
  exact sq (iF (b acc) rfl) (iF (e acc) rfl)
 | bL n =>
  rw[he]at b e hp;have hp:0<n:=by simpa[pos]using hp
  rw[show gZ x dg s=[{s with a:=if dg/8%2=0 then .int (dg%n)else .str x}] by unfold gZ;rw[he]]
  refine sq (iF (b acc) rfl) (iT (e acc) ?_);have i:∀h,bR h (enc s.r.2.2.2) (.int 1)=some (.int n):=λh=>by rw[he];rfl
  have g:Ek (op2 bR (kF .lst (aq (op2 gk (rd 2) (op2 bR (rd 5) (kI 1))) Q5)) (op2 gk (op2 iJ (rd 2) (kI 8)) (kI 2))) (V6 S x dg acc s) (if dg/8%2=0 then .int (dg%n)else .str x):=by
   refine b2 (lS (cA (b2 rfl (b2 rfl rfl (i _)) (da hp)) rfl) (by simp)) (b2 (b2 rfl rfl (xW (by decide))) rfl (da (by decide))) ?_
   have:dg/8%2=0\/dg/8%2=1:=by lia
   rcases this with h | h
   ·rw[h];rfl
   ·rw[h];rfl
  obtain⟨a,j⟩:∃a,a=(if dg/8%2=0 then PV.int (dg%n)else .str x):=⟨_,rfl⟩
  rw[<-j]at g ⊢;exact dS (yy rfl rfl (cA (tU (cA (b2 (x:=.ao [.str s.x,.bl (dy s.d),.ao (s.r.1.map .int)]) (cE rfl rfl rfl rfl) (tU (cA g rfl) (by simp)) (aT (by simp))) rfl) (by simp)) rfl) (aC rfl (by lia)))
theorem AQ(c:CT)(S:Option PV)(x:Str)(dg:Int):∀(T:List Sp) (acc:List PV) (a b f:Option PV),(∀s∈T,pos s.r.2.2.2=true)->acc.length+T.length<=80000 ->
  ∃g i j,dv Qk (mG c) (T.map kT) ⟨[S,some (.str x),some (.int dg),some (.ref 0),a,b,f],[⟨.lst,acc⟩]⟩=some (.ok .nx,⟨[S,some (.str x),some (.int dg),some (.ref 0),g,i,j],[⟨.lst,acc++(T.flatMap (gZ x dg)).map jI⟩]⟩)
 | [],acc,a,b,f,_,_=>⟨a,b,f,by simp;rfl⟩
 | s::T,acc,a,b,f,h,k=>by
  simp only[aN]at k;have l:=LO c S x dg (h s aD) acc (by lia)
  have m:(gZ x dg s).length<=1:=by
   unfold gZ;split<;>simp
  obtain⟨g,i,j,e⟩:=AQ c S x dg T (acc++(gZ x dg s).map jI) (some (aU s)) (some (enc s.r.2.2.2)) (some (.bl (may s.d))) (λt ht=>h t (aG _ ht)) (by rw[aZ,aj];lia)
  refine⟨g,i,j,?_⟩;rw[dQ,cm,<-dA];exact fC rfl l e
abbrev RY(ks:List Rk)(x:Str)(dg:Int):List Sp:=(la ks).flatMap (gZ x dg)
theorem PQ{ks:List Rk}{x:Str}(b:(x,Kn.ow .num)∈ks){dg:Int}{s:Sp}(a:cG ks s):∀t∈gZ x dg s,cG ks t/\t.d=s.d:=λt ht=>by
 unfold gZ at ht;split at ht
 ·rw[ax]at ht;subst ht;exact⟨a,rfl⟩
 ·rw[ax]at ht;subst ht;exact⟨a,rfl⟩
 ·rw[ax]at ht;subst ht;refine⟨⟨a.mem,a.ok,a.row,?_⟩,rfl⟩;show uq ks (if dg/8%2=0 then _ else _)
  split
  ·exact .int _
  ·exact .str _ b
 ·cases ht
theorem DL{ks:List Rk}(K:mP ks){x:Str}(a:(x,Kn.ow .num)∈ks)(dg:Int):(∀t∈RY ks x dg,cG ks t)/\(RY ks x dg).length<=1000/\∃t∈RY ks x dg,may t.d=true:=by
 refine⟨λt ht=>?_,?_,?_⟩
 ·obtain⟨s,b,ht⟩:=dR.mp ht;exact(PQ a (iz K.ok s b).1 t ht).1
 ·have c:=yb K.ok;have e:=K.few;have:∀T:List Sp,(T.flatMap (gZ x dg)).length<=T.length:=λT=>by
   induction T with
   | nil=>simp
   | cons s T ih =>
    have f:(gZ x dg s).length<=1:=by
     unfold gZ;split<;>simp
    rw[dQ,aZ,aN]
    lia
  have:=this (la ks);show(List.flatMap (gZ x dg) (la ks)).length<=1000
  lia
 ·refine⟨⟨x,.ow .num,([],0,sz .num,.num),.bj⟩,dR.mpr ⟨_,mR a,?_⟩,?_⟩
  ·simp[gZ,bE]
  ·show(!((Str.ofString "num")==(Str.ofString "lent")))=true;decide +kernel
theorem LP{ks:List Rk}:∀l:List Sp,(∀s∈l,cG ks s)->ai (l.map jI)=true
 | [],_=>rfl
 | s::l,h=>by rw[aI];simp[ai,noRef,jI,fG (h s aD),LP l λt ht=>h t (aG _ ht)]
theorem HB(k:Nat){ks:List Rk}(K:mP ks){x:Str}(b:(x,Kn.ow .num)∈ks)(dg:Int):Gives (run txt (k+1) "_law_numbers" [.lst ((la ks).map kT),.str x,.int dg] []) (.lst ((RY ks x dg).map jI)):=by
 rw[xA];have d:=yb K.ok;have f:=K.few;obtain⟨g,h,i,e⟩:=AQ (run txt k) (some (.lst ((la ks).map kT))) x dg (la ks) [] none none none (λs c=>by
  obtain⟨a,j⟩:=iz K.ok s c;exact sS _ (K.good _ a.mem).1.2 _ a.row) (by simp;lia)
 rw[fK]at e;exact⟨.ref 0,_,j4 (sq rfl (sq (fS rfl e) (rS rfl))),om (LP _ (DL K b dg).1)⟩
theorem dq{c:Type}(N:List c)(e:c->PV)(m:Int)(h:0<N.length):∃s∈N,∀H:List ak,bR H (.lst (N.map e)) (.int (m%((N.map e).length:Int)))=some (e s):=by
 rw[aj];have b:=qz m (show(N.length:Int)≠0 by lia)
 have d:=BI m (show(0:Int)<(N.length:Int) by lia)
 obtain⟨j,f⟩:=Int.eq_ofNat_of_zero_le b;have a:j<N.length:=by lia
 refine⟨N[j],vQ a,λH=>?_⟩
 rw[f];exact atI_nat (by rw[bG,bQ a];rfl)
theorem Z7(h:List ak):Og h (.int 10) (.int 30)=some (.int (10^30)):=by kernel_rfl
theorem eP.nr{ks:List Rk}{o:Op}(h:eP ks o):noRef (eW o)=true:=by
 cases o with
 | n i=>rfl
 | s s=>exact fG h
theorem vy(k:Nat){ks:List Rk}{N:List Sp}(h:∀s∈N,cG ks s)(d:0<N.length)(C m:Int):∃o,Gives (run txt (k+1) "_law_operand" [.int C,.int m,.lst (N.map jI)] []) (eW o)/\eP ks o:=by
 rw[xB];obtain⟨s,b,e⟩:=dq N jI (m/20) d;have f:0<((N.map jI).length:Int):=by rw[aj];lia
 have a:Ek (toB (op2 iL (op2 gk (op2 iJ (rd 1) (kI 5)) (kI 4)) (kI 0))) (S0 [some (.int C),some (.int m),some (.lst (N.map jI))]) (m/5%4==0):=bT (b2 (b2 (b2 rfl rfl (xW (by decide))) rfl (da (by decide))) rfl (oo _ _ _))
 by_cases c:m/5%4=0
 ·rw[c,ly]at a;exact⟨.n (C%10^30),gV (yx (iT a (rS (b2 rfl (b2 rfl rfl (Z7 _)) (da (by decide)))))) rfl,trivial⟩
 ·rw[show(m/5%4==0)=false by rw[eR];exact c]at a
  exact⟨.s s,gV (sq (iF a rfl) (rS (b2 (b2 rfl (b2 (b2 rfl rfl (xW (by decide))) (bV (cA rfl rfl) rfl) (da f)) (e _)) rfl rfl))) (fG (h s b)),h s b⟩
theorem LQ(h:List ak)(s:Sh):JF h (.str (W5 s)) (.str "rec")=some (.bl (iw s)):=by cases s<;>kernel_rfl
theorem mT{c:CT}(S:Option PV):∀(ps:List Sh) (a:List PV) (d:Option PV),(∀s∈ps,Gives (c "_law_leaves" [enc s] []) (.lst (bX (lv s))))->a.length+(fY ps).length<=4000000 ->
  ∃b,dv (aV 2) (oS c) (bX ps) (S0 [S,some (.lst a),d])=some (.ok .nx,S0 [S,some (.lst (a++bX (fY ps))),b])
 | [],a,d,_,_=>⟨d,by simp[bX,fY];rfl⟩
 | s::ps,a,d,h,f=>by
  simp only[fY,aZ]at f;have g:Ev (oS c) (S0 [S,some (.lst a),some (enc s)]) .nx (S0 [S,some (.lst (a++bX (lv s))),some (enc s)]):=aS (b2 rfl (de rfl rfl rfl (h s aD)) (aL (by rw[fz];lia))) rfl
  obtain⟨b,e⟩:=mT S ps (a++bX (lv s)) (some (enc s)) (λt ht=>h t (aG _ ht)) (by rw[aZ,fz];lia)
  refine⟨b,?_⟩;have ex:a++bX (fY (s::ps))=a++bX (lv s)++bX (fY ps):=by
   simp only[fY,oN,dA]
  rw[ex];show dv _ _ (enc s::bX ps) _=_;exact fC rfl g e
theorem jr(k:Nat){s:Sh}(h:iw s=true):Gives (run txt (k+1) "_law_leaves" [enc s] []) (.lst [enc s]):=by
 rw[oT];exact gV (yx (iT (bT (b2 (b2 rfl rfl (oV _ s)) rfl ((LQ _ s).trans (by rw[h])))) (rS rfl))) (by simp[noRef,ai,dw])
mutual
theorem oq:∀(s:Sh) (k:Nat),dp s<=k->(lv s).length<=90000->Gives (run txt (k+1) "_law_leaves" [enc s] []) (.lst (bX (lv s)))
 | .num,k,_,_=>jr k rfl
 | .own,k,_,_=>jr k rfl
 | .bL n,k,_,_=>jr k rfl
 | .bA a,0,hd,_=>by simp[dp]at hd
 | .bA a,k+1,hd,b=>by
  simp only[dp]at hd;simp only[lv]at b;rw[oT];obtain⟨c,e⟩:=mT (some (enc (.bA a))) a [] none (gR a k (by lia) b) (by simp;lia)
  rw[fK]at e;have z:lv (.bA a)=fY a:=by simp only[lv]
  rw[z];exact gV (sq (iF (bT (b2 (b2 rfl rfl (oV _ (.bA a))) rfl (LQ _ (.bA a)))) rfl) (sq rfl (sq (fS (sV (b2 rfl rfl (by simp only[enc];rfl)) rfl) e) (rS rfl)))) (pZ _)
theorem gR:∀(ps:List Sh) (k:Nat),oM ps<=k->(fY ps).length<=90000->∀s∈ps,Gives (run txt (k+1) "_law_leaves" [enc s] []) (.lst (bX (lv s)))
 | [],_,_,_,s,a=>by cases a
 | p::r,k,hd,b,s,a=>by
  simp only[oM]at hd;simp only[fY,aZ]at b;rcases aF.mp a with e | e
  ·rw[e];exact oq p k (by lia) (by lia)
  ·exact gR r k (by lia) (by lia) s e
end
mutual
theorem Fc:∀(s:Sh),∀r∈tab s,0<=r.2.1/\0<=r.2.2.1/\r.2.1+r.2.2.1<=((lv s).length:Int)
 | .num,r,h=>by simp only[tab,ax]at h;subst h;simp[lv]
 | .own,r,h=>by simp only[tab,ax]at h;subst h;simp[lv]
 | .bL n,r,h=>by simp only[tab,ax]at h;subst h;simp[lv]
 | .bA a,r,h=>by
  simp only[tab,aF]at h;rcases h with h | h
  ·subst h;simp[lv]
  ·have:=AR a 0 0 r h (by lia)
   simp only[lv]
   lia
theorem AR:∀(l:List Sh) (k:Nat) (a:Int),∀r∈tabs k a l,0<=a->0<=r.2.1/\0<=r.2.2.1/\r.2.1+r.2.2.1<=a+((fY l).length:Int)
 | [],_,_,_,h,_=>nomatch h
 | s::l,k,a,r,h,c=>by
  rw[AM,aX]at h;simp only[fY,aZ];rcases h with h | h
  ·obtain⟨q,b,rfl⟩:=az.mp h;have:=Fc s q b;simp only[mD]
   lia
  ·have:=AR l (k+1) (a+sz s) r h (by simp only[sz];lia)
   simp only[sz]at this
   lia
end
structure uv (X:List Str) (Bd:Nat) (a:bY):Prop where
 f0:0<=a.f
 m0:0<=a.m
 few:a.f+a.m<=(Bd:Int)
 nm:a.n∈X\/a.n=""
abbrev AS(ks:List Rk):List Str:=ks.map (·.1)
structure pG (ks:List Rk) (M:Nat) (p:PV) (as:List bY):Prop where
 made:∀F K,sF F ks->noRef F=true->12<=K->Ly (run txt K) F p as
 six:as.length<=6
 ok:∀a∈as,uv (AS ks) 3 a
section
variable {ks:List Rk}
theorem Ie{F p:PV}{as:List bY}{w fn:Str}{a:List PV}{c:CT}(hp:p=.ao (.str w::a))(h1:jf.lookup w=some fn)(h2:VO.lookup fn=some 2)(d:as.length<=6)(h:Gives (c fn [F,p] []) (fF as))(b:noRef p=true):Ly c F p as:=⟨⟨w,fn,a,hp,h1,h2,h⟩,by lia,b⟩
theorem vz(K:mP ks)(w:Str){x:Str}{d:Kn}(a:(x,d)∈ks){r:Rw}(b:r∈tab (bE d))(t:Str):uv (AS ks) 3 (tA w x d r t):=by
 obtain⟨c,e,g⟩:=Fc _ r b;have f:=(K.good _ a).2;simp only at f;exact⟨c,e,by show r.2.1+r.2.2.1<=_;lia,.inl (az.mpr ⟨_,a,rfl⟩)⟩
theorem js(K:mP ks)(w:Str){s:Sp}(a:cG ks s)(t:Str):uv (AS ks) 3 (ng w s t):=vz K w a.mem a.row t
theorem LR{a:PV}(h:uq ks a):∀q∈E2 a,uv (AS ks) 3 q:=λq b=>by
 cases h with
 | bj=>cases b
 | int i=>cases b
 | str y c =>
  simp only[E2,ax]at b;subst b;exact⟨Int.le_refl 0,(by show(0:Int)<=1;decide),(by show(0:Int)+1<=((3:Nat):Int);decide),.inl (az.mpr ⟨_,c,rfl⟩)⟩
theorem yc(K:mP ks){o:Op}(ho:eP ks o):∀q∈p8 o,uv (AS ks) 3 q:=λq a=>by
 cases o with
 | n i=>cases a
 | s s =>
  rcases aX.mp a with h | h
  ·exact LR ho.at_ q h
  ·rw[ax]at h;subst h;exact js K _ ho _
theorem LU(K:mP ks){s:Sp}(b:cG ks s):∀q∈uu s,uv (AS ks) 3 q:=λq a=>by
 unfold uu at a;split at a
 ·rw[ax]at a;subst a;exact js K _ b _
 ·rcases aX.mp a with h | h
  ·exact LR b.at_ q h
  ·rw[ax]at h;subst h;exact js K _ b _
theorem V7(K:mP ks){r:Rk}(a:r∈ks)(t:Str):uv (AS ks) 3 (PC r.1 r.2 t):=by
 obtain⟨x,d⟩:=r;cases d with
 | ow s=>exact vz K _ a (gf s) _
 | ho b s=>exact vz K _ a (gf s) _
theorem V8(K:mP ks){r:Rk}(a:r∈ks):uv (AS ks) 3 (RT r.1 r.2):=by
 obtain⟨x,d⟩:=r;cases d with
 | ow s=>exact vz K _ a (gf s) _
 | ho b s=>exact vz K _ a (gf s) _
theorem LV:uv (AS ks) 3 Av:=⟨by decide,by decide,by decide,.inr rfl⟩
theorem HC{as:List bY}(h:∀a∈as,uv (AS ks) 3 a):∀a∈cf as,uv (AS ks) 3 a:=λa c=>by
 cases as with
 | nil =>
  simp only[cf,ax]at c;subst c;exact LV
 | cons b l=>exact h a c
theorem Fd(K:mP ks):∀(l:List Rk) (i:Nat),(∀r∈l,r∈ks)->∀q∈gQ i l,uv (AS ks) 3 q
 | [],_,_,_,h=>nomatch h
 | r::l,i,a,q,h=>by
  simp only[gQ,aF]at h;rcases h with h | h
  ·subst h;exact V7 K (a r aD) _
  ·exact Fd K l (i+1) (λs b=>a s (aG _ b)) q h
theorem PR(K:mP ks){tk:Option Rk}(ht:∀r,tk=some r->r∈ks):∀q∈lQ tk,uv (AS ks) 3 q:=λq a=>by
 cases tk with
 | none=>cases a
 | some r =>
  have c:=ht r rfl;obtain⟨x,d⟩:=r;cases d with
  | ow s =>
   simp only[lQ,ax]at a;subst a;exact vz K _ c (gf s) _
  | ho b s =>
   simp only[lQ,ax]at a;subst a;exact⟨Int.le_refl 0,Int.le_refl 0,(by show(0:Int)+0<=((3:Nat):Int);decide),.inr rfl⟩
theorem yd{X:List Str}{Bd:Nat}{a b:List bY}(h1:∀q∈a,uv X Bd q)(h2:∀q∈b,uv X Bd q):∀q∈a++b,uv X Bd q:=λq c=>(aX.mp c).elim (h1 q) (h2 q)
theorem K7{K:Nat}(h:12<=K):∃k,K=k+7/\3<=k:=⟨K-7,by lia,by lia⟩
variable (K:mP ks) (M:Nat)
include K
theorem PU{s:Sp}(a:cG ks s){o:Op}(ho:eP ks o){w:Str}(hw:w="put"\/w="fill"):pG ks M (.ao [.str w,aU s,eW o]) (p8 o++uu s):=by
 have d:=lP o;have e:=xT s;have b:(p8 o++uu s).length<=6:=by rw[aZ];lia
 refine⟨λF k hF hN hk=>?_,b,yd (yc K ho) (LU K a)⟩
 ·obtain⟨k,rfl,c⟩:=K7 hk;have h:=DA hF k c w a ho;rcases hw with rfl | rfl
  ·exact Ie rfl (by kernel_rfl) (by kernel_rfl) b h (by simp[noRef,ai,fG a,eP.nr ho])
  ·exact Ie rfl (by kernel_rfl) (by kernel_rfl) b h (by simp[noRef,ai,fG a,eP.nr ho])
theorem PX{s:Sp}(c:cG ks s)(q:PV)(g:noRef q=true){a b:Op}(d:eP ks a)(e:eP ks b):pG ks M (.ao [.str "set",aU s,q,eW a,eW b]) (p8 a++p8 b++uu s):=by
 have i:=lP a;have j:=lP b;have l:=xT s;have f:(p8 a++p8 b++uu s).length<=6:=by simp only[aZ];lia
 refine⟨λF k hF hN hk=>?_,f,yd (yd (yc K d) (yc K e)) (LU K c)⟩
 obtain⟨k,rfl,h⟩:=K7 hk;exact Ie rfl (by kernel_rfl) (by kernel_rfl) f (DB hF k h "set" c q d e) (by simp[noRef,ai,fG c,eP.nr d,eP.nr e,g])
theorem PY{a:Op}(b:eP ks a):pG ks M (.ao [.str "say",eW a]) (p8 a):=by
 have e:=lP a;have c:(p8 a).length<=6:=by lia
 refine⟨λF k hF hN hk=>?_,c,yc K b⟩
 obtain⟨k,rfl,d⟩:=K7 hk;exact Ie rfl (by kernel_rfl) (by kernel_rfl) c (DC hF k d "say" b) (by simp[noRef,ai,eP.nr b])
theorem HE:pG ks M (.ao [.str "give",.str ""]) []:=by
 refine⟨λF k hF hN hk=>?_,by simp,λ_ h=>nomatch h⟩
 obtain⟨k,rfl,a⟩:=K7 hk;exact Ie rfl (by kernel_rfl) (by kernel_rfl) (by simp) (xU k "give") (by simp[noRef,ai])
theorem LW{r:Rk}(a:r∈ks):pG ks M (.ao [.str "give",.str r.1]) [RT r.1 r.2]:=by
 refine⟨λF k hF hN hk=>?_,by simp,λq b=>?_⟩
 ·obtain⟨k,rfl,c⟩:=K7 hk;exact Ie rfl (by kernel_rfl) (by kernel_rfl) (by simp) (AB hF k c "give" a (K.ok _ a) (K.ne _ a)) (by simp[noRef,ai])
 ·rw[ax]at b;subst b;exact V8 K a
theorem LX{s t:Sp}(a:cG ks s)(ht:cG ks t):pG ks M (.ao [.str "copy",aU s,aU t]) [ng "read" t "",ng "fill" s ""]:=by
 refine⟨λF k hF hN hk=>?_,by simp,λq b=>?_⟩
 ·obtain⟨k,rfl,c⟩:=K7 hk;exact Ie rfl (by kernel_rfl) (by kernel_rfl) (by simp) (Aw hF k c "copy" a ht) (by simp[noRef,ai,fG a,fG ht])
 ·simp only[aF,fJ,fN]at b;rcases b with rfl | rfl
  ·exact js K _ ht _
  ·exact js K _ a _
theorem LY{s t:Sp}(a:cG ks s)(ht:cG ks t):pG ks M (.ao [.str "move",aU s,aU t]) [ng "empty" t "",ng "fill" s ""]:=by
 refine⟨λF k hF hN hk=>?_,by simp,λq b=>?_⟩
 ·obtain⟨k,rfl,c⟩:=K7 hk;exact Ie rfl (by kernel_rfl) (by kernel_rfl) (by simp) (Ax hF k c "move" a ht) (by simp[noRef,ai,fG a,fG ht])
 ·simp only[aF,fJ,fN]at b;rcases b with rfl | rfl
  ·exact js K _ ht _
  ·exact js K _ a _
theorem LZ{s:Sp}(a:cG ks s):pG ks M (.ao [.str "drop",aU s]) [ng "empty" s ""]:=by
 refine⟨λF k hF hN hk=>?_,by simp,λq b=>?_⟩
 ·obtain⟨k,rfl,c⟩:=K7 hk;exact Ie rfl (by kernel_rfl) (by kernel_rfl) (by simp) (Ay hF k c "drop" a) (by simp[noRef,ai,fG a])
 ·rw[ax]at b;subst b;exact js K _ a _
theorem L0{w:Str}(hw:w="lend"\/w="sole")(x:Str){s:Sp}(a:cG ks s):pG ks M (.ao [.str w,.str x,aU s]) [ng w s x]:=by
 refine⟨λF k hF hN hk=>?_,by simp,λq b=>?_⟩
 ·obtain⟨k,rfl,c⟩:=K7 hk;have h:=Az hF k c w x a;rcases hw with rfl | rfl
  ·exact Ie rfl (by kernel_rfl) (by kernel_rfl) (by simp) h (by simp[noRef,ai,fG a])
  ·exact Ie rfl (by kernel_rfl) (by kernel_rfl) (by simp) h (by simp[noRef,ai,fG a])
 ·rw[ax]at b;subst b;exact js K _ a _
theorem L3(fn:PV)(f:noRef fn=true){a:List Rk}(b:∀r∈a,r∈ks)(g:a.length<=4){tk:Option Rk}(ht:∀r,tk=some r->r∈ks):pG ks M (.ao [.str "call",.str (AD tk),fn,.ao (a.map λr=>.str r.1)]) (gQ 0 a++j8::lQ tk):=by
 have i:=sJ a 0;have j:(lQ tk).length<=1:=by
  cases tk with
  | none=>simp[lQ]
  | some r=>obtain⟨x,d⟩:=r;cases d<;>simp[lQ]
 have c:(gQ 0 a++j8::lQ tk).length<=6:=by rw[aZ,aN,i];lia
 refine⟨λF k hF hN hk=>?_,c,yd (Fd K a 0 b) λq l=>?_⟩
 ·obtain⟨k,rfl,m⟩:=K7 hk;have h:=AG hF k m hN "call" fn b K.ok (by lia) (λr e=>⟨ht r e,K.ne r (ht r e)⟩)
  exact Ie rfl (by kernel_rfl) (by kernel_rfl) c h (by simp[noRef,ai,f,fW])
 ·rcases aF.mp l with rfl | h
  ·exact⟨by decide,by decide,by decide,.inr rfl⟩
  ·exact PR K ht q h
end
theorem ka{a b:Str}{xs c:List Tr}(h:eqT (.ao (.str a::xs)) (.ao (.str b::c))=true):(a==b)=true/\mf xs c=true:=fI.mp h
mutual
theorem sU:∀s t:Sh,eqT (vo s) (vo t)=true->s=t
 | .num,.num,_=>rfl
 | .own,.own,_=>rfl
 | .bL n,.bL m,h=>by
  have c:((n==m)&&true)=true:=(ka h).2;rw[vY]at c;rw[bc c]
 | .bA a,.bA b,h=>by
  have c:(mf (mH a) (mH b)&&true)=true:=(ka h).2;rw[vY]at c;rw[Ff a b c]
 | .num,.own,h=>absurd (ka h).1 (by decide +kernel)
 | .num,.bL _,h=>absurd (ka h).1 (by decide +kernel)
 | .num,.bA _,h=>absurd (ka h).1 (by decide +kernel)
 | .own,.num,h=>absurd (ka h).1 (by decide +kernel)
 | .own,.bL _,h=>absurd (ka h).1 (by decide +kernel)
 | .own,.bA _,h=>absurd (ka h).1 (by decide +kernel)
 | .bL _,.num,h=>absurd (ka h).1 (by decide +kernel)
 | .bL _,.own,h=>absurd (ka h).1 (by decide +kernel)
 | .bL _,.bA _,h=>absurd (ka h).1 (by decide +kernel)
 | .bA _,.num,h=>absurd (ka h).1 (by decide +kernel)
 | .bA _,.own,h=>absurd (ka h).1 (by decide +kernel)
 | .bA _,.bL _,h=>absurd (ka h).1 (by decide +kernel)
theorem Ff:∀a b:List Sh,mf (mH a) (mH b)=true->a=b
 | [],[],_=>rfl
 | s::a,t::b,h=>by
  have h:=fI.mp (show(eqT (vo s) (vo t)&&mf (mH a) (mH b))=true from h)
  rw[sU s t h.1,Ff a b h.2]
 | [],_::_,h=>nomatch h
 | _::_,[],h=>nomatch h
end
def L4:Kn->Tr
 | .ow s=>vo s
 | .ho b s=>.ao [.str (hw b),vo s]
theorem V9:∀a b:Kn,eqT (L4 a) (L4 b)=true->a=b
 | .ow s,.ow t,h=>by rw[sU s t h]
 | .ho a s,.ho b t,h=>by
  have h:=ka h;have c:(eqT (vo s) (vo t)&&true)=true:=h.2;rw[vY]at c;rw[sU s t c];have d:(hw a==hw b)=true:=h.1;cases a<;>cases b<;>first | rfl | exact absurd d (by decide +kernel)
 | .ow s,.ho b t,h=>by
  exfalso
  cases s<;>cases b<;>exact absurd (ka h).1 (by decide +kernel)
 | .ho b t,.ow s,h=>by
  exfalso
  cases s<;>cases b<;>exact absurd (ka h).1 (by decide +kernel)
structure Cs where
 d1:Kn
 d4:Kn
 d5:Kn
 r1:Option Kn
 pl:Int
noncomputable def pk(C:Cs):Nat->List Kn
 | 0=>[]
 | 1=>if C.pl%2=1 then [C.d1,C.d4]else [C.d4,C.d1]
 | _=>[C.d4,C.d5].take (C.pl/2).toNat++C.d1::[C.d4,C.d5].drop (C.pl/2).toNat
def rk(C:Cs):Nat->Option Kn
 | 0=>none
 | 1=>C.r1
 | _=>some C.d4
inductive Ro where
 | put (fl:Bool) (s:Sp) (o:Op)
 | set (s:Sp) (g:Str) (a b:Op)
 | mU (t s:Sp)
 | mV (t s:Sp)
 | drop (s:Sp)
 | iA (x:Str) (b:Bool) (s:Sp)
 | call (tk:Option Rk) (j:Nat) (ar:List Rk)
 | AU (a:Op)
 | eA (z:Option Rk)
noncomputable def lw(b:Bool):Str:=if b then "sole" else "lend"
abbrev d0(r:Rk):PV:=.str r.1
abbrev Fg(r:Option Rk):PV:=.str (AD r)
def bB(fn:Nat->PV):Ro->PV
 | .put c s o=>.ao [.str (if c then "fill" else "put"),aU s,eW o]
 | .set s g a b=>.ao [.str "set",aU s,.str g,eW a,eW b]
 | .mU t s=>.ao [.str "copy",aU t,aU s]
 | .mV t s=>.ao [.str "move",aU t,aU s]
 | .drop s=>.ao [.str "drop",aU s]
 | .iA x b s=>.ao [.str (lw b),.str x,aU s]
 | .call d j e=>.ao [.str "call",Fg d,fn j,.ao (e.map d0)]
 | .AU a=>.ao [.str "say",eW a]
 | .eA z=>.ao [.str "give",Fg z]
def nsp(s:Sp):Prop:=s.a=.bj\/AO s.r.2.2.2=true
def ou(C:Cs)(ks:List Rk)(M:Nat):Ro->Prop
 | .put f s o=>cG ks s/\eP ks o/\may s.d=true/\(f=true->s.a=.bj)/\nsp s
 | .set s g a b=>cG ks s/\eP ks a/\eP ks b/\may s.d=true/\nsp s
 | .mU t s=>cG ks t/\cG ks s/\t.a=.bj/\s.a=.bj/\t.r.2.2.2=s.r.2.2.2/\may t.d=true
 | .mV t s=>cG ks t/\cG ks s/\t.a=.bj/\s.a=.bj/\t.r.2.2.2=s.r.2.2.2/\may t.d=true/\dy s.d=false
 | .drop s=>cG ks s/\s.a=.bj/\dy s.d=false
 | .iA x b s=>cG ks s/\s.a=.bj/\(x,Kn.ho b s.r.2.2.2)∈ks/\(b=true->may s.d=true)
 | .call e j c=>j<3/\e.map (·.2)=rk C j/\c.map (·.2)=pk C j/\(∀r∈c,r∈ks)/\c.length<=4/\∀r,e=some r->r∈ks
 | .AU a=>eP ks a
 | .eA z=>∀r,z=some r->r∈ks
def ni:Ro->List bY
 | .put _ s o=>p8 o++uu s
 | .set s _ a b=>p8 a++p8 b++uu s
 | .mU t s=>[ng "read" s "",ng "fill" t ""]
 | .mV t s=>[ng "empty" s "",ng "fill" t ""]
 | .drop s=>[ng "empty" s ""]
 | .iA x b s=>[ng (lw b) s x]
 | .call c _ d=>gQ 0 d++j8::lQ c
 | .AU a=>p8 a
 | .eA none=>[]
 | .eA (some r)=>[RT r.1 r.2]
theorem Wa{ks:List Rk}(K:mP ks)(M:Nat){fn:Nat->PV}(c:∀j,noRef (fn j)=true){C:Cs}:∀r:Ro,ou C ks M r->pG ks M (bB fn r) (ni r)
 | .put d s o,h=>PU K M h.1 h.2.1 (by cases d<;>first | exact .inl rfl | exact .inr rfl)
 | .set s g a b,h=>PX K M h.1 (.str g) rfl h.2.1 h.2.2.1
 | .mU t s,h=>LX K M h.1 h.2.1
 | .mV t s,h=>LY K M h.1 h.2.1
 | .drop s,h=>LZ K M h.1
 | .iA x b s,h=>L0 K M (by cases b<;>first | exact .inl rfl | exact .inr rfl) x h.1
 | .call e j f,h=>L3 K M (fn j) (c j) h.2.2.2.1 h.2.2.2.2.1 h.2.2.2.2.2
 | .AU a,h=>PY K M h
 | .eA none,_=>HE K M
 | .eA (some r),h=>LW K M (h r rfl)
theorem Fh{ks:List Rk}{M:Nat}{fn:Nat->PV}(c:∀j,noRef (fn j)=true){C:Cs}:∀r:Ro,ou C ks M r->noRef (bB fn r)=true
 | .put d s o,h=>by simp[bB,noRef,ai,fG h.1,eP.nr h.2.1]
 | .set s g a b,h=>by simp[bB,noRef,ai,fG h.1,eP.nr h.2.1,eP.nr h.2.2.1]
 | .mU t s,h=>by simp[bB,noRef,ai,fG h.1,fG h.2.1]
 | .mV t s,h=>by simp[bB,noRef,ai,fG h.1,fG h.2.1]
 | .drop s,h=>by simp[bB,noRef,ai,fG h.1]
 | .iA x b s,h=>by simp[bB,noRef,ai,fG h.1]
 | .call e j f,h=>by simp[bB,noRef,ai,c j,fW]
 | .AU a,h=>by simp[bB,noRef,ai,eP.nr h]
 | .eA z,_=>rfl
def isG:Ro->Bool
 | .eA _=>true
 | _=>false
def AV(fn:Nat->PV)(C:Cs)(ks:List Rk)(M:Nat)(p:PV):Prop:=∃r,p=bB fn r/\isG r=false/\ou C ks M r
def Rt(P:PV->Prop)(x:Option (Rs dE×cz)):Prop:=∃p s,x=some (.ok (.rt p),s)/\noRef p=true/\P p
theorem Rt.run{f:Gx dE}{n:Nat}{as:List PV}{P:PV->Prop}(h:Rt P (f ⟨gm n as,[]⟩)):∃p,Gives (dO f n as []) p/\P p:=by
 obtain⟨p,⟨d,e⟩,a,b,c⟩:=h;exact⟨p,gV a b,c⟩
theorem xS{f g:Gx dE}{s s1:cz}{P:PV->Prop}(h:Ev f s .nx s1)(k:Rt P (g s1)):Rt P (dW f g s):=by
 obtain⟨p,c,a,b⟩:=k;exact⟨p,c,sq h a,b⟩
theorem xI{e:Gx Bool}{f h:Gx dE}{s s1:cz}{b:Bool}{P:PV->Prop}(hc:Ev e s b s1)(ht:b=true->Rt P (f s1))(g:b=false->Rt P (h s1)):Rt P (dW (dN e f (aW .nx)) h s):=by
 cases b with
 | true =>
  obtain⟨p,d,a,c⟩:=ht rfl;exact⟨p,d,yx (iT hc a),c⟩
 | false =>
  obtain⟨p,d,a,c⟩:=g rfl;exact⟨p,d,sq (iF hc rfl) a,c⟩
theorem xR{a:Gx PV}{s s1:cz}{p:PV}{P:PV->Prop}(h:Ev a s p s1)(b:noRef p=true)(k:P p):Rt P (retS a s):=⟨p,s1,rS h,b,k⟩
theorem oB{f g:Gx Bool}{s:cz}{a b:Bool}(h1:Ev f s a s)(h2:Ev g s b s):Ev (dN f (aW true) g) s (a || b) s:=by
 cases a with
 | true=>exact iT h1 rfl
 | false=>exact iF h1 h2
theorem nD{f g:Gx Bool}{s:cz}{a b:Bool}(h1:Ev f s a s)(h2:Ev g s b s):Ev (dN f g (aW false)) s (a&&b) s:=by
 cases a with
 | true=>exact iT h1 h2
 | false=>exact iF h1 rfl
theorem RZ(h:List ak){s t:Sh}(a:xP s)(ht:xP t):iL h (enc s) (enc t)=some (.bl (eqT (vo s) (vo t))):=by
 have e1:=toT_enc h s e9 (by have:=a.2;show _<1000;lia)
 have b:=toT_enc h t e9 (by have:=ht.2;show _<1000;lia)
 show((toT h e9 (enc s)).bind λx=>(toT h e9 (enc t)).map λy=>eqT x y).map PV.bl=_
 rw[e1,b];rfl
theorem ye{b:Type}{l:List b}(h:l.isEmpty=false):0<l.length:=by
 cases l with
 | nil=>cases h
 | cons a l=>simp
theorem jt{b:Type}{l:List b}{x:b}(h:x∈l):0<l.length:=by
 cases l with
 | nil=>cases h
 | cons a l=>simp
section
variable {ks:List Rk} (K:mP ks) (M:Nat)
abbrev SL(ks:List Rk):PV:=.lst ((la ks).map kT)
theorem mW(K:mP ks):∀s∈la ks,cG ks s:=λs a=>(iz K.ok s a).1
theorem sW(K:mP ks):(la ks).length<=1000:=by
 have a:=yb K.ok;have b:=K.few
 lia
theorem Fi{l:List Sp}{f:Sp->Bool}(h:∀s∈l,cG ks s):∀s∈l.filter f,cG ks s:=λs a=>h s (b7.mp a).1
theorem Wb{c:Type}{link:List (Option Nat)}{i:Gx yu}{d:Bd}{s s1:cz}{l:List c}{e G:c->PV}{f:c->Bool}(j:Ev i s (.sq (l.map e)) s1)(k:l.length<=4000000)(g:∀a∈l,d (bM link s1.ρ) (e a) s1.h=some (if f a=true then some (G a)else none,s1.h)):Ev (di false link i d) s (.lst ((l.filter f).map G)) s1:=by
 have z:∀l:List c,(∀a∈l,d (bM link s1.ρ) (e a) s1.h=some (if f a=true then some (G a)else none,s1.h))->(l.map e).filterMap (λp=>match d (bM link s1.ρ) p s1.h with | some (o,_)=>o | none=>none)=(l.filter f).map G:=by
  intro l;induction l with
  | nil=>exact λ_=>rfl
  | cons a l ih =>
   intro h;have m:=h a aD;have q:=ih λb g=>h b (aG _ g)
   rw[aI,jL,m,q];cases hf:f a<;>simp[vO,hf]
 rw[<-z l g];refine cQ j (by rw[aj];exact k) λp hp=>?_
 obtain⟨a,r,rfl⟩:=az.mp hp;rw[g a r]
theorem PZ(s:Sh):pO false [] oP (.lst (bX (lv s)))=some (.bl ((lv s).any oX)):=by
 have hd:=sH (xl s);have e:=toT_encs [] (lv s) e9 (by rw[hd];decide)
 have a:Oo [] oP (bX (lv s))=some ((lv s).any oX):=by
  unfold Oo;rw[e,show toT [] e9 oP=some (.ao [.str "own"])from rfl,<-DD]
  rfl
 have e1:pO false [] oP (.lst (bX (lv s)))=(Oo [] oP (bX (lv s))).map λb=>.bl (if false=true then !b else b):=rfl
 rw[e1,a];rfl
def Fj(s t:Sp):Bool:=eqT (vo t.r.2.2.2) (vo s.r.2.2.2)&&may t.d
theorem HF(K:mP ks){s:Sp}(b:xP s.r.2.2.2)(c e f h i j k:Option PV):Ek (di false [none,none,none,none,some 5] Qx (jD Qg Ql (rd 1))) (S0 [c,e,f,some (SL ks),h,some (enc s.r.2.2.2),i,j,k]) (.lst (((la ks).filter (Fj s)).map aU)):=by
 have l:=sW K;refine Wb (sV rfl rfl) (by lia) λt ht=>?_
 have ok:=mW K t ht;have g:Ek Ql (S0 [none,some (aU t),some (enc t.r.2.2.2),some (.bl (may t.d)),some (enc s.r.2.2.2)]) (Fj s t):=nD (bT (b2 rfl rfl (RZ _ (ya ok.ok ok.row) b))) (tR rfl rfl);cases a:Fj s t with
 | true=>rw[a]at g;exact MS rfl g rfl
 | false=>rw[a]at g;exact G9 rfl g
end
theorem Fl{ks:List Rk}{N:List Sp}(h:∀s∈N,cG ks s):iL [] (.lst (N.map aU)) (.lst [])=some (.bl N.isEmpty):=by
 have e:∀l:List Sp,(∀s∈l,cG ks s)->∃b,cb (toT [] 999) (l.map aU)=some b/\b.length=l.length:=by
  intro l;induction l with
  | nil=>exact λ_=>⟨[],rfl,rfl⟩
  | cons s l ih =>
   intro h;obtain⟨b,f,c⟩:=ih λt ht=>h t (aG _ ht)
   obtain⟨g,j⟩:∃g,toT [] 999 (aU s)=some g:=by
    have hp:∀p:List Int,cb (toT [] 997) (p.map PV.int)=some (p.map Tr.int):=λp=>by
     induction p with
     | nil=>rfl
     | cons i p ih=>show((cb (toT [] 997) (p.map PV.int)).map _)=_;rw[ih];rfl
    have q:toT [] 998 (.ao (s.r.1.map PV.int))=some (.ao (s.r.1.map Tr.int)):=by
     show((cb (toT [] 997) (s.r.1.map PV.int)).bind (JE .ao))=_;rw[hp];rfl
    obtain⟨k,m⟩:∃k,toT [] 998 s.a=some k:=by
     have o:=(h s aD).at_
     revert o
     generalize s.a=a
     intro o;cases o<;>exact⟨_,rfl⟩
    refine⟨.ao [.str s.x,.bl (dy s.d),.ao (s.r.1.map Tr.int),k],?_⟩;show((cb (toT [] 998) [.str s.x,.bl (dy s.d),.ao (s.r.1.map PV.int),s.a]).bind (JE .ao))=_;simp only[cb,q,m];rfl
   refine⟨g::b,?_,by simp[c]⟩
   rw[aI];simp only[cb,j,f];rfl
 obtain⟨b,f,c⟩:=e N h;have e1:toT [] e9 (.lst (N.map aU))=some (.lst b):=by
  show((cb (toT [] 999) (N.map aU)).bind (JE .lst))=_;rw[f];rfl
 show((toT [] e9 (.lst (N.map aU))).bind λx=>(toT [] e9 (.lst [])).map λy=>eqT x y).map PV.bl=_
 rw[e1];cases N with
 | nil=>cases b with
  | nil=>rfl
  | cons _ _=>simp at c
 | cons _ _=>cases b with
  | nil=>simp at c
  | cons _ _=>rfl
section
variable {ks:List Rk} (K:mP ks) (M:Nat) (fn:Nat->PV) (C:Cs)
include K in
theorem HG(k:Nat)(hk:3<=k)(w:Str)(a b:Int)(J:0<(la ks).length):∃p,Gives (run txt (k+2) "_law_carried" [.str w,.int a,.int b,SL ks] []) p/\AV fn C ks M p:=by
 rw[xD];refine Rt.run ?_;obtain⟨s,m,L⟩:=dq (la ks) kT a J;have ok:=mW K s m;have N:0<(((la ks).map kT).length:Int):=by rw[aj];lia
 have i:=(ya ok.ok ok.row);have j:=oq s.r.2.2.2 k (by have:=i.2;lia) (by have:=i.1;have:=Af s.r.2.2.2;lia)
 obtain⟨G,e⟩:∃G,G=(la ks).filter (Fj s):=⟨_,rfl⟩
 have q:=HF K i (some (.str w)) (some (.int a)) (some (.int b)) (some (aU s)) (some (.bl (may s.d))) none none;rw[<-e]at q;have c:∀t∈G,cG ks t:=by rw[e];exact Fi (mW K)
 have u:s.a=.bj:=(iz K.ok s m).2;have v:∀t∈G,t.a=.bj:=by rw[e];exact λt ht=>(iz K.ok t (b7.mp ht).1).2
 have x:∀t∈G,t.r.2.2.2=s.r.2.2.2:=by rw[e];exact λt ht=>sU _ _ (fI.mp (b7.mp ht).2).1
 have f:∀t∈G,may t.d=true:=by rw[e];exact λt ht=>(fI.mp (b7.mp ht).2).2
 obtain⟨o,ho⟩:∃o,o=(lv s.r.2.2.2).any oX:=⟨_,rfl⟩
 have y:=PZ s.r.2.2.2;rw[<-ho]at y;have Q:Ev (dh (op2 bR (rd 3) (op2 gk (rd 1) (gw gK Qe))) Qk) (S0 [some (.str w),some (.int a),some (.int b),some (SL ks),none,none,none,none,none]) .nx (S0 [some (.str w),some (.int a),some (.int b),some (SL ks),some (aU s),some (enc s.r.2.2.2),some (.bl (may s.d)),none,none]):=aS (b2 rfl (b2 rfl (bV (cA rfl rfl) rfl) (da N)) (L _)) rfl;refine xS Q (xS (aS q rfl) (xS (aS (b2 rfl (de rfl rfl rfl j) y) rfl) ?_));refine xI (oB (bT (b2 rfl rfl (Fl c))) (nD (tR rfl rfl) (tR rfl rfl))) (λ_=>?_) λhc=>?_
 ·exact xR rfl rfl ⟨.AU (.n a),rfl,rfl,trivial⟩
 ·have g:G.isEmpty=false:=(Bool.or_eq_false_iff.mp hc).1;obtain⟨t,ht,l⟩:=dq G aU b (ye g);have R:0<((G.map aU).length:Int):=by have:=ye g;rw[aj];lia
  have B:Ek (op2 bR (rd 7) (op2 gk (rd 2) Qy)) (S0 [some (.str w),some (.int a),some (.int b),some (SL ks),some (aU s),some (enc s.r.2.2.2),some (.bl (may s.d)),some (.lst (G.map aU)),some (.bl o)]) (aU t):=b2 rfl (b2 rfl (bV (cA rfl rfl) rfl) (da R)) (l _);have D:=fG (c t ht);have E:=fG ok;refine xI (oB (tR rfl rfl) (nD (bT (b2 rfl rfl (fA _ _ _))) (nB (tR rfl rfl)))) (λH=>?_) λ_=>?_
  ·refine xR (tU (cA rfl (cA B (cA rfl rfl))) (by simp)) (by simp[noRef,ai,D,E]) ⟨.mV t s,rfl,rfl,c t ht,ok,v t ht,u,x t ht,f t ht,?_⟩
   have I:=(Bool.or_eq_false_iff.mp hc).2;cases o with
   | true=>rw[vY]at I;exact I
   | false =>
    rw[Bool.false_or]at H;have:=(fI.mp H).2;cases h:dy s.d
    ·rfl
    ·rw[h]at this;cases this
  ·exact xR (tU (cA rfl (cA B (cA rfl rfl))) (by simp)) (by simp[noRef,ai,D,E]) ⟨.mU t s,rfl,rfl,c t ht,ok,v t ht,u,x t ht,f t ht⟩
end
section
variable {ks:List Rk} (K:mP ks) (M:Nat) (fn:Nat->PV) (C:Cs)
abbrev KL(ks:List Rk):PV:=.lst (ks.map bC)
def P4(s:Sh)(w:Str)(t:Sp):Bool:=eqT (vo t.r.2.2.2) (vo s)&&(may t.d || w==(Str.ofString "lend"))
theorem L5(K:mP ks)(b:Bool)(s:Sh)(c:xP s)(w:Str)(e f h i j k:Option PV):Ek (di false [none,none,none,none,some 6,some 7] Qx (jD Qg Q9 (rd 1))) (S0 [e,f,h,some (SL ks),i,j,some (encK (.ho b s)),some (.str w),k]) (.lst (((la ks).filter (P4 s w)).map aU)):=by
 have l:=sW K;refine Wb (sV rfl rfl) (by lia) λt ht=>?_
 have ok:=mW K t ht;have g:Ek Q9 (S0 [none,some (aU t),some (enc t.r.2.2.2),some (.bl (may t.d)),some (encK (.ho b s)),some (.str w)]) (P4 s w t):=nD (bT (b2 rfl (b2 rfl rfl rfl) (RZ _ (ya ok.ok ok.row) c))) (oB (tR rfl rfl) (bT (b2 rfl rfl (fA _ _ _))));cases a:P4 s w t with
 | true=>rw[a]at g;exact MS rfl g rfl
 | false=>rw[a]at g;exact G9 rfl g
theorem HH(K:mP ks)(b c d e f h i j:Option PV):Ek (di false [none,none] (jF (rd 2)) (jD (aV 1) Qq (rd 1))) (S0 [b,c,some (KL ks),d,e,f,h,i,j]) (.lst ((ks.filter λq=>dy q.2).map bC)):=by
 have k:=K.few;refine Wb (sV rfl rfl) (by lia) λq l=>?_
 have g:Ek Qq (S0 [none,some (bC q)]) (dy q.2):=bT (b2 (b2 (b2 rfl rfl rfl) rfl (lT _ q.2)) rfl (mQ _ q.2));cases a:dy q.2 with
 | true=>rw[a]at g;exact MS rfl g rfl
 | false=>rw[a]at g;exact G9 rfl g
include K in
theorem HI(k:Nat)(a b:Int)(E:∃q∈ks,dy q.2=true):∃p,Gives (run txt (k+1) "_law_lending" [.int a,.int b,KL ks,SL ks] []) p/\AV fn C ks M p:=by
 rw[xE];refine Rt.run ?_;obtain⟨Y,g,h⟩:=E;have H:0<(ks.filter λq=>dy q.2).length:=jt (b7.mpr ⟨g,h⟩)
 obtain⟨q,I,o⟩:=dq (ks.filter λq=>dy q.2) bC a H
 obtain⟨e,i⟩:=b7.mp I;have u:0<(((ks.filter λq=>dy q.2).map bC).length:Int):=by rw[aj];lia
 obtain⟨G,J⟩:∃G,G=(ks.filter λq=>dy q.2).map bC:=⟨_,rfl⟩
 have v:=HH K (some (.int a)) (some (.int b)) (some (SL ks)) none none none none none;rw[<-J]at v o u;obtain⟨x,d⟩:=q;cases d with
 | ow s=>cases i
 | ho c s =>
  obtain⟨w,hw,j,e1⟩:∃w:Str,w=lw c/\(may (.ho c s) || w==(Str.ofString "lend"))=true/\Ek (op2 bR (kF .lst (aq (kS "lend") (aq (kS "sole") (aW [])))) (gw Gq (aq (op2 iL (op2 bR (rd 6) (kI 0)) (kS "sole")) (aW [])))) (S0 [some (.int a),some (.int b),some (KL ks),some (SL ks),some (.lst G),some (.str x),some (encK (.ho c s)),none,none]) (.str w):=by
   cases c with
   | true=>exact⟨"sole",rfl,by show(!((Str.ofString "sole")==(Str.ofString "lent")) || _)=true;decide +kernel,b2 (y:=.int 1) rfl (bV (cA (b2 (b2 rfl rfl (lT _ _)) rfl (fA _ _ _)) rfl) (by kernel_rfl)) rfl⟩
   | false=>exact⟨"lend",rfl,by show(!((Str.ofString "lent")==(Str.ofString "lent")) || _)=true;decide +kernel,b2 (y:=.int 0) rfl (bV (cA (b2 (b2 rfl rfl (lT _ _)) rfl (fA _ _ _)) rfl) (by kernel_rfl)) rfl⟩
  have B:=L5 K c s (K.ok _ e) w (some (.int a)) (some (.int b)) (some (KL ks)) (some (.lst G)) (some (.str x)) none;obtain⟨T,f⟩:∃T,T=(la ks).filter (P4 s w):=⟨_,rfl⟩
  have L:0<T.length:=by
   rw[f];refine jt (b7.mpr ⟨mR e,?_⟩);show(eqT (vo s) (vo s)&&(may (.ho c s) || _))=true;rw[iK,j];rfl
  have D:∀t∈T,cG ks t:=by rw[f];exact Fi (mW K)
  have N:∀t∈T,t.a=.bj:=by rw[f];exact λt ht=>(iz K.ok t (b7.mp ht).1).2
  have l:∀t∈T,s=t.r.2.2.2:=by rw[f];exact λt ht=>(sU _ _ (fI.mp (b7.mp ht).2).1).symm
  have m:∀t∈T,c=true->may t.d=true:=by
   rw[f];intro t ht Q;have:=(fI.mp (b7.mp ht).2).2;rw[hw,Q]at this;rw[show(lw true==Str.ofString "lend")=false by decide +kernel,Bool.or_false]at this
   exact this
  rw[<-f]at B;obtain⟨t,ht,R⟩:=dq T aU b L;have X:0<((T.map aU).length:Int):=by rw[aj];lia
  refine xS (aS v rfl) (xS (aS (b2 rfl (b2 rfl (bV (cA rfl rfl) rfl) (da u)) (o _)) rfl) (xS (aS e1 rfl) (xS (aS B rfl) (xR (tU (cA rfl (cA rfl (cA (b2 rfl (b2 rfl (bV (cA rfl rfl) rfl) (da X)) (R _)) rfl))) (by simp)) (by simp[noRef,ai,fG (D t ht)]) ⟨.iA x c t,by rw[hw];rfl,rfl,D t ht,N t ht,l t ht▸e,m t ht⟩))))
end
theorem P5{ks:List Rk}{N:List Sp}(h:∀s∈N,cG ks s):JF [] (.lst (N.map aU)) (.lst [])=some (.bl (!N.isEmpty)):=by
 have e:=Fl h;have e1:∀o:Option Bool,o.map PV.bl=some (.bl N.isEmpty)->(o.map λb=>PV.bl !b)=some (.bl (!N.isEmpty)):=λo ho=>by
  cases o with
  | none=>cases ho
  | some b =>
   have:b=N.isEmpty:=by injection ho with z;injection z
   rw[this];rfl
 exact e1 _ e
section
variable {ks:List Rk} (K:mP ks) (M:Nat) (fn:Nat->PV) (C:Cs)
include K in
theorem P6(k:Nat)(w:Str)(a:Int){o:Op}(ho:eP ks o)(hw:∃q∈ks,dy q.2=false):∃p,Gives (run txt (k+1) "_law_small_row" [.str w,.int a,eW o,SL ks] []) p/\AV fn C ks M p:=by
 rw[sv];refine Rt.run ?_;have D:=sW K;refine xI (bT (b2 rfl rfl (fA _ _ _))) (λ_=>?_) λ_=>?_
 ·have e:Ek (di false [none,none,none,none] Qx (jD Qg (zd (fX Q2)) (rd 1))) (S0 [some (.str w),some (.int a),some (eW o),some (SL ks),none,none]) (.lst (((la ks).filter λt=>!dy t.d).map aU)):=by
   refine Wb (sV rfl rfl) (by lia) λt ht=>?_
   have g:Ek (zd (fX Q2)) (S0 [none,some (aU t),some (enc t.r.2.2.2),some (.bl (may t.d))]) (!dy t.d):=nB (tR rfl rfl);cases f:(!dy t.d)with
   | true=>rw[f]at g;exact MS rfl g rfl
   | false=>rw[f]at g;exact G9 rfl g
  obtain⟨q,y,l⟩:=hw;obtain⟨T,b⟩:∃T,T=(la ks).filter λt=>!dy t.d:=⟨_,rfl⟩
  have B:0<T.length:=by
   rw[b];exact jt (b7.mpr ⟨mR y,by show(!dy q.2)=true;rw[l];rfl⟩)
  have c:∀t∈T,cG ks t:=by rw[b];exact Fi (mW K)
  have j:∀t∈T,t.a=.bj:=by rw[b];exact λt ht=>(iz K.ok t (b7.mp ht).1).2
  have m:∀t∈T,dy t.d=false:=by
   rw[b];intro t ht;have:=(b7.mp ht).2;cases h:dy t.d
   ·rfl
   ·rw[h]at this;cases this
  rw[<-b]at e;obtain⟨t,ht,u⟩:=dq T aU a B;have v:0<((T.map aU).length:Int):=by rw[aj];lia
  exact xS (aS e rfl) (xR (tU (cA rfl (cA (b2 rfl (b2 rfl (bV (cA rfl rfl) rfl) (da v)) (u _)) rfl)) (by simp)) (by simp[noRef,ai,fG (c t ht)]) ⟨.drop t,rfl,rfl,c t ht,j t ht,m t ht⟩)
 ·have e:Ek (di false [none,none,none,none] Qx (jD Qg Qf (rd 1))) (S0 [some (.str w),some (.int a),some (eW o),some (SL ks),none,none]) (.lst (((la ks).filter λt=>AO t.r.2.2.2&&may t.d).map aU)):=by
   refine Wb (sV rfl rfl) (by lia) λt ht=>?_
   have g:Ek Qf (S0 [none,some (aU t),some (enc t.r.2.2.2),some (.bl (may t.d))]) (AO t.r.2.2.2&&may t.d):=nD (bT (b2 (b2 rfl rfl (oV _ _)) rfl (RX _ _))) (tR rfl rfl);cases f:(AO t.r.2.2.2&&may t.d)with
   | true=>rw[f]at g;exact MS rfl g rfl
   | false=>rw[f]at g;exact G9 rfl g
  obtain⟨T,b⟩:∃T,T=(la ks).filter λt=>AO t.r.2.2.2&&may t.d:=⟨_,rfl⟩
  have c:∀t∈T,cG ks t:=by rw[b];exact Fi (mW K)
  have j:∀t∈T,t.a=.bj:=by rw[b];exact λt ht=>(iz K.ok t (b7.mp ht).1).2
  have x:∀t∈T,may t.d=true:=by rw[b];exact λt ht=>(fI.mp (b7.mp ht).2).2
  rw[<-b]at e;refine xS (aS e rfl) (xI (nD (bT (b2 rfl rfl (fA _ _ _))) (bT (b2 rfl rfl (P5 c)))) (λhc=>?_) λ_=>?_)
  ·have i:T.isEmpty=false:=by
    have:=(fI.mp hc).2;cases h:T.isEmpty
    ·rfl
    ·rw[h]at this;cases this
   obtain⟨t,ht,u⟩:=dq T aU a (ye i);have v:0<((T.map aU).length:Int):=by have:=ye i;rw[aj];lia
   exact xR (tU (cA rfl (cA (b2 rfl (b2 rfl (bV (cA rfl rfl) rfl) (da v)) (u _)) (cA rfl rfl))) (by simp)) (by simp[noRef,ai,fG (c t ht),eP.nr ho]) ⟨.put true t o,rfl,rfl,c t ht,ho,x t ht,λ_=>j t ht,.inl (j t ht)⟩
  ·exact xR (tU (cA rfl (cA rfl rfl)) (by simp)) (by simp[noRef,ai,eP.nr ho]) ⟨.AU o,rfl,rfl,ho⟩
end
theorem lC{a:Gx (List PV)}{s s1:cz}{ps:List PV}(h:Ev a s ps s1)(b:ps.length<=4000000):Ev (zf a) s (.ref s1.h.length) ⟨s1.ρ,s1.h++[⟨.lst,ps⟩]⟩:=eB h (eB (by show(small ps PV.bj).map _=_;rw[show small ps PV.bj=some .bj from if_pos b];rfl) rfl)
structure Wd (C:Cs) (ks:List Rk) (LK OT OW:List Rk) (BK:List (Option Rk)):Prop where
 lk:(∀r∈LK,r∈ks/\r.2=C.d4)/\0<LK.length
 ot:(∀r∈OT,r∈ks/\r.2=C.d5)/\0<OT.length
 ow:(∀r∈OW,r∈ks/\r.2=C.d1)/\0<OW.length
 bk:(∀o∈BK,(∀r,o=some r->r∈ks)/\o.map (·.2)=C.r1)/\0<BK.length
section
variable {ks:List Rk} (K:mP ks) (M:Nat) (fn:Nat->PV) (C:Cs)
def P7(a b:Int)(c d e f:PV)(L T O B:List PV)(pl:Int)(x:Option PV)(h:List ak):cz:=⟨[some (.int a),some (.int b),some c,some (.lst [d,e,f]),some (.lst L),some (.lst T),some (.lst O),some (.lst B),some (.int pl),x],h⟩
include K in
theorem We(k:Nat)(a b:Int)(D1:∀j,noRef (fn j)=true){q y t:List Rk}{D:List (Option Rk)}(Q:Wd C ks q y t D)(hp:0<=C.pl/\C.pl<6):∃p,Gives (run txt (k+1) "_law_call" [.int a,.int b,.ao [.lst [fn 0,fn 1,fn 2],.lst (q.map d0),.lst (y.map d0),.lst (t.map d0),.lst (D.map Fg),.int C.pl]] []) p/\AV fn C ks M p:=by
 rw[Hm];refine Rt.run ?_;obtain⟨i,c,N⟩:=dq q d0 b Q.lk.2;obtain⟨E,Vd,R⟩:=dq t d0 (b/8) Q.ow.2;obtain⟨H,X,R0⟩:=dq y d0 (b/8) Q.ot.2;obtain⟨o2,Y,Z⟩:=dq t d0 (b/64) Q.ow.2;obtain⟨l2,hl2,al2⟩:=dq q d0 (a/4) Q.lk.2;obtain⟨k1,hk1,ak1⟩:=dq D Fg (a/4) Q.bk.2;have zl:0<((q.map d0).length:Int):=by have:=Q.lk.2;rw[aj];lia
 have zo:0<((t.map d0).length:Int):=by have:=Q.ow.2;rw[aj];lia
 have zt:0<((y.map d0).length:Int):=by have:=Q.ot.2;rw[aj];lia
 have zk:0<((D.map Fg).length:Int):=by have:=Q.bk.2;rw[aj];lia
 have m:∀r∈q,r∈ks/\r.2=C.d4:=Q.lk.1
 have I:∀r∈t,r∈ks/\r.2=C.d1:=Q.ow.1
 have hT:∀r∈y,r∈ks/\r.2=C.d5:=Q.ot.1
 have hB:∀o∈D,(∀r,o=some r->r∈ks)/\o.map (·.2)=C.r1:=Q.bk.1
 obtain⟨d,e0⟩:∃d,d=fn 0:=⟨_,rfl⟩
 obtain⟨e,e1⟩:∃e,e=fn 1:=⟨_,rfl⟩
 obtain⟨f,e2⟩:∃f,f=fn 2:=⟨_,rfl⟩
 have n0:noRef d=true:=by rw[e0];exact D1 0
 have n1:noRef e=true:=by rw[e1];exact D1 1
 have n2:noRef f=true:=by rw[e2];exact D1 2
 rw[<-e0,<-e1,<-e2];obtain⟨pl,l⟩:∃pl,pl=C.pl:=⟨_,rfl⟩
 rw[<-l]at hp ⊢;obtain⟨L,eL⟩:∃L,L=q.map d0:=⟨_,rfl⟩
 obtain⟨O,eO⟩:∃O,O=t.map d0:=⟨_,rfl⟩
 obtain⟨T,eT⟩:∃T,T=y.map d0:=⟨_,rfl⟩
 obtain⟨B,eB⟩:∃B,B=D.map Fg:=⟨_,rfl⟩
 rw[<-eL]at N al2 zl;rw[<-eO]at R Z zo;rw[<-eT]at R0 zt;rw[<-eB]at ak1 zk;rw[<-eL,<-eO,<-eT,<-eB];obtain⟨g,hCA⟩:∃g,g=PV.ao [.lst [d,e,f],.lst L,.lst T,.lst O,.lst B,.int pl]:=⟨_,rfl⟩
 have ev1:Ev Qa (S0 [some (.int a),some (.int b),some g,none,none,none,none,none,none,none]) .nx (P7 a b g d e f L T O B pl none []):=by rw[hCA];rfl
 rw[<-hCA];have d4:∀(v:Int) (x:Option PV) (h:List ak),Ek (toB (op2 iL (op2 gk (rd 0) (kI 4)) (aW (.int v)))) (P7 a b g d e f L T O B pl x h) (a%4==v):=λv x h=>bT (b2 (b2 rfl rfl (da (by decide))) rfl (oo _ _ _))
 refine xS ev1 (xI (d4 0 none []) (λ_=>?_) λ_=>?_)
 ·exact xR rfl (by simp[noRef,ai,n0]) ⟨.call none 0 [],by rw[e0];rfl,rfl,by decide,rfl,rfl,(λ_ h=>nomatch h),by simp,λ_ h=>nomatch h⟩
 have pkL:∀(x:Option PV) (h:List ak),Ek (op2 bR (rd 4) (op2 gk (rd 1) (gw gK (aq (rd 4) (aW []))))) (P7 a b g d e f L T O B pl x h) (d0 i):=λx h=>b2 rfl (b2 rfl (bV (cA rfl rfl) rfl) (da zl)) (N _)
 have CW:∀(x:Option PV) (h:List ak),Ek (op2 bR (rd 6) (op2 gk (op2 iJ (rd 1) (kI 8)) (gw gK Qu))) (P7 a b g d e f L T O B pl x h) (d0 E):=λx h=>b2 rfl (b2 (b2 rfl rfl (xW (by decide))) (bV (cA rfl rfl) rfl) (da zo)) (R _)
 have pkT:∀(x:Option PV) (h:List ak),Ek (op2 bR (rd 5) (op2 gk (op2 iJ (rd 1) (kI 8)) (gw gK (aq (rd 5) (aW []))))) (P7 a b g d e f L T O B pl x h) (d0 H):=λx h=>b2 rfl (b2 (b2 rfl rfl (xW (by decide))) (bV (cA rfl rfl) rfl) (da zt)) (R0 _)
 refine xS (aS (lC (cA (pkL none []) (cA (CW none []) rfl)) (by simp)) rfl) ?_
 refine xI (d4 1 _ _) (λ_=>?_) λ_=>?_
 ·have d2:Ek (toB (op2 iL (op2 gk (rd 8) (kI 2)) (kI 1))) (P7 a b g d e f L T O B pl (some (.ref 0)) [⟨.lst,[d0 i,d0 E]⟩]) (pl%2==1):=bT (b2 (b2 rfl rfl (da (by decide))) rfl (oo _ _ _))
  have kX:∀(r1 r2:Rk),r1∈ks->r2∈ks->[r1.2,r2.2]=pk C 1->Rt (AV fn C ks M) (retS (kF .ao (aq (kS "call") (aq (op2 bR (rd 7) (op2 gk (op2 iJ (rd 0) (kI 4)) Qy)) (aq (op2 bR (rd 3) (kI 1)) (aq (gw Gp (aq (rd 9) (aW []))) (aW [])))))) (P7 a b g d e f L T O B pl (some (.ref 0)) [⟨.lst,[d0 r1,d0 r2]⟩])):=by
   intro r1 r2 h1 h2 h3;refine xR (tU (cA rfl (cA (b2 rfl (b2 (b2 rfl rfl (xW (by decide))) (bV (cA rfl rfl) rfl) (da zk)) (ak1 _)) (cA (b2 rfl rfl rfl) (cA (bV rfl rfl) rfl)))) (by simp)) (by simp[noRef,ai,n1]) ⟨.call k1 1 [r1,r2],by rw[e1];rfl,rfl,by decide,(hB k1 hk1).2,h3,(λr u=>?_),by simp,(hB k1 hk1).1⟩
   simp only[aF,fJ,fN]at u;rcases u with rfl | rfl
   ·exact h1
   ·exact h2
  cases hb:(pl%2==1)with
  | true =>
   rw[hb]at d2;exact xS (iT d2 rfl) (kX E i (I _ Vd).1 (m _ c).1 (by rw[(I _ Vd).2,(m _ c).2];show _=(if C.pl%2=1 then _ else _);rw[<-l,if_pos (bc hb)]))
  | false =>
   rw[hb]at d2;exact xS (iF d2 rfl) (kX i E (m _ c).1 (I _ Vd).1 (by rw[(I _ Vd).2,(m _ c).2];show _=(if C.pl%2=1 then _ else _);rw[<-l,if_neg (λz=>by rw[z]at hb;cases hb)]))
 ·refine xS (aS (lC (cA (pkL _ _) (cA (pkT _ _) rfl)) (by simp)) rfl) ?_
  obtain⟨j,hj,hj2⟩:∃j:Nat,pl/2=(j:Int)/\j<=2:=⟨(pl/2).toNat,by lia,by lia⟩
  have aef:Ev (gq (yv "list" (iO (gU JN)) (rd 9) (aq (op2 iJ (rd 8) (kI 2)) (aq (op2 bR (rd 6) (op2 gk (op2 iJ (rd 1) (kI 64)) (gw gK Qu))) (aW []))))) (P7 a b g d e f L T O B pl (some (.ref 1)) [⟨.lst,[d0 i,d0 E]⟩,⟨.lst,[d0 i,d0 H]⟩]) .nx (P7 a b g d e f L T O B pl (some (.ref 1)) [⟨.lst,[d0 i,d0 E]⟩,⟨.lst,([i,H].take j++o2::[i,H].drop j).map d0⟩]):=by
   refine dS (p:=.bj) (yy (as:=[.int (j:Int),d0 o2]) rfl rfl (cA (b2 rfl rfl (by rw[<-hj];exact xW (by decide))) (cA (b2 rfl (b2 (b2 rfl rfl (xW (by decide))) (bV (cA rfl rfl) rfl) (da zo)) (Z _)) rfl)) ?_)
   have:j=0\/j=1\/j=2:=by lia
   rcases this with rfl | rfl | rfl<;>rfl
  refine xS aef ?_;obtain⟨J,har⟩:∃J,J=[i,H].take j++o2::[i,H].drop j:=⟨_,rfl⟩
  rw[<-har];have w:(∀r∈J,r∈ks)/\J.length<=4/\J.map (·.2)=pk C 2:=by
   have:j=0\/j=1\/j=2:=by lia
   rcases this with rfl | rfl | rfl
   all_goals
    rw[har];refine⟨λr u=>?_,by simp,?_⟩
    rotate_left
    ·show _=[C.d4,C.d5].take (C.pl/2).toNat++C.d1::[C.d4,C.d5].drop (C.pl/2).toNat;rw[<-l,hj];simp[(I _ Y).2,(m _ c).2,(hT _ X).2]
    simp at u;rcases u with rfl | rfl | rfl
    all_goals first | exact(m _ c).1 | exact(hT _ X).1 | exact(I _ Y).1
  exact xR (tU (cA rfl (cA (b2 rfl (b2 (b2 rfl rfl (xW (by decide))) (bV (cA rfl rfl) rfl) (da zl)) (al2 _)) (cA (b2 rfl rfl rfl) (cA (bV rfl rfl) rfl)))) (by simp)) (by simp[noRef,ai,n2,fW]) ⟨.call (some l2) 2 J,by rw[e2];rfl,rfl,by decide,by show some l2.2=some C.d4;rw[(m _ hl2).2],w.2.2,w.1,w.2.1,λr u=>by cases u;exact(m _ hl2).1⟩
end
theorem P8(m:Int):∃y:Str,∀h,bR h (.str "+-*") (.int (m%3))=some (.str y):=by
 have:m%3=0\/m%3=1\/m%3=2:=by lia
 rcases this with h | h | h<;>rw[h]
 ·exact⟨"+",λ_=>by kernel_rfl⟩
 ·exact⟨"-",λ_=>by kernel_rfl⟩
 ·exact⟨"*",λ_=>by kernel_rfl⟩
theorem aeh(h:List ak)(w a b:Str):pO false h (.str w) (.ao [.str a,.str b])=some (.bl (a==w || (b==w || false))):=rfl
theorem L6{N:List Sp}(r:N.length<=1000)(e f h i j k l m o b c p q:Option PV):Ek (di false [none,none,none] (jF (rd 6)) (jD Qc (fX (rd 2)) (rd 1))) (S0 [e,f,h,i,j,k,some (.lst (N.map jI)),l,m,o,b,c,p,q]) (.lst ((N.filter λt=>may t.d).map aU)):=by
 refine Wb (sV rfl rfl) (by lia) λs u=>?_
 have g:Ek (fX (rd 2)) (S0 [none,some (aU s),some (.bl (may s.d))]) (may s.d):=tR rfl rfl;cases a:may s.d with
 | true=>rw[a]at g;exact MS (by rw[<-a];rfl) g rfl
 | false=>rw[a]at g;exact G9 (by rw[<-a];rfl) g
abbrev mdT(W:List Str)(ks:List Rk)(x:Str)(dg:Int)(a b:PV):PV:=.ao [.lst (W.map .str),KL ks,SL ks,.lst ((RY ks x dg).map jI),a,b]
abbrev caT(fn:Nat->PV)(a b c:List Rk)(d:List (Option Rk))(pl:Int):PV:=.ao [.lst [fn 0,fn 1,fn 2],.lst (a.map d0),.lst (b.map d0),.lst (c.map d0),.lst (d.map Fg),.int pl]
theorem Wf{ks:List Rk}{x:Str}{dg:Int}(h:VT ks):∀t∈RY ks x dg,nsp t:=λt ht=>by
 obtain⟨s,b,ht⟩:=dR.mp ht;have a:=(iz h s b).2;unfold gZ at ht;split at ht
 ·rw[ax]at ht;subst ht;exact .inl a
 ·rw[ax]at ht;subst ht;exact .inl a
 ·rename_i e;rw[ax]at ht;subst ht;exact .inr (by show AO s.r.2.2.2=true;rw[e];rfl)
 ·cases ht
theorem aab(k:Nat)(hk:3<=k){ks:List Rk}(K:mP ks){M:Nat}(hM:0<M){W:List Str}(hW:0<W.length)(J:∀w∈W,(w==Str.ofString "give")=false/\(w==Str.ofString "go")=false/\(w==Str.ofString "if")=false){x:Str}(L:(x,Kn.ow .num)∈ks)(hh:∃q∈ks,dy q.2=true)(dg:Int){fn:Nat->PV}(D1:∀j,noRef (fn j)=true){C:Cs}{R X Y:List Rk}{Z:List (Option Rk)}(Q:Wd C ks R X Y Z)(hp:0<=C.pl/\C.pl<6){f:PV}(hln:noRef f=true)(c:Int) :
  ∃p,Gives (run txt (k+3) "_law_row" [.int c,.int (M:Int),mdT W ks x dg (caT fn R X Y Z C.pl) f] []) p/\AV fn C ks M p:=by
 obtain⟨D,n2,n3⟩:=DL K L dg;have n4:=Wf (x:=x) (dg:=dg) K.ok;obtain⟨tm,g,hmy⟩:=n3;obtain⟨N,hN⟩:∃N,N=RY ks x dg:=⟨_,rfl⟩
 rw[<-hN]at D n2 n4 g;have o:=jt g;have h0:0<(la ks).length:=jt (mR L);have hz:0<((W.map PV.str).length:Int):=by rw[aj];lia
 obtain⟨w,hwm,hwa⟩:=dq W PV.str (Hu c 0) hW;obtain⟨a,ha⟩:∃a,a=Hu c 1:=⟨_,rfl⟩
 obtain⟨b,hb⟩:∃b,b=Hu c 2:=⟨_,rfl⟩
 have ma:=mM (k+1) c (i:=1) (by decide)
 have mb:=mM (k+1) c (i:=2) (by decide)
 have m0:=mM (k+1) c (i:=0) (by decide)
 rw[<-ha]at ma;rw[<-hb]at mb;obtain⟨one,e1,E⟩:=vy (k+1) D o c b;obtain⟨two,e2,o2⟩:=vy (k+1) D o (c/7) a;obtain⟨pc,c1,c2⟩:=HG K M fn C k hk w a b h0;obtain⟨pl',l1,l2⟩:=HI K M fn C (k+1) a b hh;obtain⟨pq,q1,q2⟩:=We K M fn C (k+1) a b D1 Q hp;obtain⟨ps,s1,s2⟩:=P6 K M fn C (k+1) w a E ⟨_,L,rfl⟩;obtain⟨T,hT⟩:∃T,T=N.filter λt=>may t.d:=⟨_,rfl⟩
 have Z8:0<T.length:=by rw[hT];exact jt (b7.mpr ⟨g,hmy⟩)
 have Ge:∀t∈T,cG ks t/\may t.d=true/\nsp t:=by
  rw[hT];exact λt ht=>⟨D t (b7.mp ht).1,(b7.mp ht).2,n4 t (b7.mp ht).1⟩
 obtain⟨t,ht,hta⟩:=dq T aU a Z8;obtain⟨t1,t2,t3⟩:=Ge t ht;have hTz:0<((T.map aU).length:Int):=by rw[aj];lia
 obtain⟨pm,hpm⟩:=P8 b;unfold mdT;rw[<-hN];obtain⟨e,u⟩:∃e,e=caT fn R X Y Z C.pl:=⟨_,rfl⟩
 rw[<-u];have q1:Gives (run txt (k+2) "_law_call" [.int a,.int b,e] []) pq:=by rw[u];exact q1
 obtain⟨md,W9⟩:∃md,md=PV.ao [.lst (W.map .str),KL ks,SL ks,.lst (N.map jI),e,f]:=⟨_,rfl⟩
 rw[Lo];refine Rt.run ?_;have a0:Ev Qa (S0 [some (.int c),some (.int (M:Int)),some md,none,none,none,none,none,none,none,none,none,none,none]) .nx (S0 [some (.int c),some (.int (M:Int)),some md,some (.lst (W.map .str)),some (KL ks),some (SL ks),some (.lst (N.map jI)),some e,some f,none,none,none,none,none]):=by rw[W9];exact aS rfl rfl
 rw[<-W9];have oc:=L6 n2 (some (.int c)) (some (.int (M:Int))) (some md) (some (.lst (W.map .str))) (some (KL ks)) (some (SL ks)) (some e) (some f) (some (.int a)) (some (.int b)) (some (.str w)) none none;rw[<-hT]at oc;have nc:∀s:cz,s.h=[]->∀as:List PV,(s.h.isEmpty || ai as)=true:=λs h as=>by rw[h];rfl
 obtain⟨S,hS⟩:∃S:cz,S=S0 [some (.int c),some (.int (M:Int)),some md,some (.lst (W.map .str)),some (KL ks),some (SL ks),some (.lst (N.map jI)),some e,some f,some (.int a),some (.int b),some (.str w),some (.lst (T.map aU)),some (eW one)]:=⟨_,rfl⟩
 refine xS a0 (xS (aS (de (cA rfl (cA rfl rfl)) rfl rfl ma) rfl) (xS (aS (de (cA rfl (cA rfl rfl)) rfl rfl mb) rfl) (xS (aS (b2 (x:=.lst (W.map .str)) rfl (b2 (de (cA rfl (cA rfl rfl)) rfl rfl m0) (bV (as:=[.lst (W.map .str)]) (cA rfl rfl) rfl) (da hz)) (hwa _)) rfl) (xS (aS oc rfl) (xS (s1:=S) (aS (de (cA rfl (cA rfl (cA rfl rfl))) rfl rfl e1) (by rw[hS];rfl)) ?_)))))
 have l:∀v:Str,Ev (toB (op2 iL (rd 11) (aW (.str v)))) S (w==v) S:=λv=>by rw[hS];exact bT (b2 rfl rfl (fA _ _ _))
 have ot:Ev (op2 bR (rd 12) (op2 gk (rd 9) (gw gK (aq (rd 12) (aW []))))) S (aU t) S:=by rw[hS];exact b2 (x:=.lst (T.map aU)) rfl (b2 (x:=.int a) rfl (bV (as:=[.lst (T.map aU)]) (cA rfl rfl) rfl) (da hTz)) (hta _)
 have B:Ev (rd 9) S (.int a) S:=by rw[hS];rfl
 have H:Ev (rd 10) S (.int b) S:=by rw[hS];rfl
 have s1':Ev (rd 1) S (.int (M:Int)) S:=by rw[hS];rfl
 have so:Ev (rd 13) S (eW one) S:=by rw[hS];rfl
 have sh:(S.h.isEmpty)=true:=by rw[hS];rfl
 have cl:∀as:List PV,(S.h.isEmpty || ai as)=true:=λas=>by rw[sh];rfl
 have m:Ev (rd 11) S (.str w) S:=by rw[hS];rfl
 have r4:Ev (rd 4) S (KL ks) S:=by rw[hS];rfl
 have r5:Ev (rd 5) S (SL ks) S:=by rw[hS];rfl
 have r6:Ev (rd 6) S (.lst (N.map jI)) S:=by rw[hS];rfl
 have r7:Ev (rd 7) S e S:=by rw[hS];rfl
 have r8:Ev (rd 8) S f S:=by rw[hS];rfl
 have r0:Ev (rd 0) S (.int c) S:=by rw[hS];rfl
 have nS:noRef (aU t)=true:=fG t1;have nO:noRef (eW one)=true:=eP.nr E;have nO2:noRef (eW two)=true:=eP.nr o2;have I:∀p,AV fn C ks M p->noRef p=true:=λp ⟨r,h1,_,h2⟩=>by rw[h1];exact Fh D1 r h2
 refine xI (l "put") (λ_=>?_) λ_=>?_
 ·exact xR (tU (ps:=[.str "put",aU t,eW one]) (cA rfl (cA ot (cA so rfl))) (by simp)) (by simp[noRef,ai,nS,nO]) ⟨.put false t one,rfl,rfl,t1,E,t2,(λz=>nomatch z),t3⟩
 refine xI (l "set") (λ_=>?_) λ_=>?_
 ·exact xR (tU (ps:=[.str "set",aU t,.str pm,eW one,eW two]) (cA rfl (cA ot (cA (b2 (x:=.str "+-*") rfl (b2 H rfl (da (by decide))) (hpm _)) (cA so (cA (de (cA (b2 r0 rfl (xW (by decide))) (cA B (cA r6 rfl))) rfl (cl _) e2) rfl))))) (by simp)) (by simp[noRef,ai,nS,nO,nO2]) ⟨.set t pm one two,rfl,rfl,t1,E,o2,t2,t3⟩
 refine xI (bT (b2 (x:=.str w) (y:=.ao [.str "copy",.str "move"]) m rfl (aeh _ _ _ _))) (λ_=>?_) λ_=>?_
 ·exact xR (de (cA m (cA B (cA H (cA r5 rfl)))) rfl (cl _) c1) (I _ c2) c2
 refine xI (l "lend") (λ_=>?_) λ_=>?_
 ·exact xR (de (cA B (cA H (cA r4 (cA r5 rfl)))) rfl (cl _) l1) (I _ l2) l2
 refine xI (l "call") (λ_=>?_) λ_=>?_
 ·exact xR (de (cA B (cA H (cA r7 rfl))) rfl (cl _) q1) (I _ q2) q2
 obtain⟨w1,w2,w3⟩:=J w hwm;refine xI (l "give") (λz=>absurd (w1.symm.trans z) c5) λ_=>?_
 refine xI (l "go") (λz=>absurd (w2.symm.trans z) c5) λ_=>?_
 refine xI (l "if") (λz=>absurd (w3.symm.trans z) c5) λ_=>?_
 exact xR (de (cA m (cA B (cA so (cA r5 rfl)))) rfl (cl _) s1) (I _ s2) s2
def mC(a:List Int)(i:Nat):Int:=Hu (cell a (1+i)) (i%4)
abbrev NM(C:Int):PV:=.lst (nmL C 13)
abbrev CE(a:List Int):PV:=.lst ((List.range 7).map λi=>.int (mC a i))
def HJ(a:List Int):List Sh:=[.num,iy (mC a 0),iy (mC a 1),iy (mC a 2)]
abbrev OE(a:List Int):PV:=.lst ((HJ a).map enc)
theorem L7(C:Int){q:Nat}(h:q<13)(H:List ak):bR H (NM C) (.int (q:Int))=some (.str (gS C q)):=atI_nat (by unfold nmL;rw[bG,lr h];rfl)
theorem R6(a:List Int){q:Nat}(h:q<7)(H:List ak):bR H (CE a) (.int (q:Int))=some (.int (mC a q)):=atI_nat (by rw[bG,lr h];rfl)
theorem Wg(b:List Int):∀s∈HJ b,cS s:=λs a=>by
 simp only[HJ,aF,fJ,fN]at a;rcases a with rfl | rfl | rfl | rfl
 ·exact LJ
 ·exact kB _
 ·exact kB _
 ·exact kB _
noncomputable def Wh(S:Option PV)(a:PV)(i:Nat)(CC b:PV)(acc:List PV)(c d:Option PV):cz:=⟨[S,some a,some (.int (i:Int)),some CC,some b,some (.ref 0),c,d],[⟨.lst,acc⟩]⟩
theorem mX(k:Nat)(hk:3<=k)(C:Int)(a:List Int)(S:Option PV){i:Nat}(R:i<4)(acc:List PV)(X:acc.length<=100)(x y:Option PV):∃(d:Kn) (B D:Option PV),Ev (Hk (run txt (k+1))) (Wh S (NM C) i (CE a) (OE a) acc x y) .nx (Wh S (NM C) i (CE a) (OE a) (acc++[bC (gS C (4+i),d)]) B D)/\dy d=true/\cS (bE d):=by
 obtain⟨m,E⟩:∃m,m=mC a (3+i):=⟨_,rfl⟩
 have hc:=R6 a (q:=3+i) (by lia)
 rw[<-E]at hc;obtain⟨CC,c⟩:∃CC,CC=CE a:=⟨_,rfl⟩
 rw[<-c]at hc;rw[<-c];have o:=L7 C (q:=4+i) (by lia)
 obtain⟨g,p⟩:∃g,g=NM C:=⟨_,rfl⟩
 rw[<-p]at o;rw[<-p];have H:∀h,eG h (.int 3) (.int (i:Int))=some (.int ((3+i:Nat):Int)):=λ_=>cV (λz=>some (PV.int z)) (by lia)
 have I:∀h,eG h (.int 4) (.int (i:Int))=some (.int ((4+i:Nat):Int)):=λ_=>cV (λz=>some (PV.int z)) (by lia)
 obtain⟨s,J,t⟩:∃s∈HJ a,∀h,bR h (OE a) (.int (1+m%3))=some (enc s):=by
  have:m%3=0\/m%3=1\/m%3=2:=by lia
  rcases this with h | h | h
  ·rw[h];exact⟨iy (mC a 0),by simp[HJ],λ_=>(atI_nat rfl:L2.km ((HJ a).map enc) ((1:Nat):Int)=_)⟩
  ·rw[h];exact⟨iy (mC a 1),by simp[HJ],λ_=>(atI_nat rfl:L2.km ((HJ a).map enc) ((2:Nat):Int)=_)⟩
  ·rw[h];exact⟨iy (mC a 2),by simp[HJ],λ_=>(atI_nat rfl:L2.km ((HJ a).map enc) ((3:Nat):Int)=_)⟩
 have fs:=Wg a s J;obtain⟨j,e⟩:∃j,j=OE a:=⟨_,rfl⟩
 rw[<-e]at t;rw[<-e];have hp:=xZ s k (by have:=fs.1.1.2;lia) (by have:=fs.1.1.1;lia)
 obtain⟨r,L,f⟩:=dq (tab s) jH (m/9) (xo s);have u:0<(((tab s).map jH).length:Int):=by have:=xo s;rw[aj];lia
 obtain⟨T,M⟩:∃T,T=(tab s).map jH:=⟨_,rfl⟩
 rw[<-M]at hp f u;obtain⟨b,N⟩:∃b:Bool,∀h,bR h (.lst [.str "lent",.str "sole",.str "sole"]) (.int (m/3%3))=some (.str (hw b)):=by
  have:m/3%3=0\/m/3%3=1\/m/3%3=2:=by lia
  rcases this with h | h | h
  ·rw[h];exact⟨false,λ_=>rfl⟩
  ·rw[h];exact⟨true,λ_=>rfl⟩
  ·rw[h];exact⟨true,λ_=>rfl⟩
 refine⟨.ho b r.2.2.2,some (.lst T),some (.str (hw b)),?_,rfl,LM fs L⟩;have l:∀(v w:Option PV),Ek (op2 bR (rd 3) (op2 eG (kI 3) (rd 2))) (Wh S g i CC j acc v w) (.int m):=λv w=>b2 rfl (b2 rfl rfl (H _)) (hc _)
 refine sq (aS (de (cA (b2 rfl (b2 rfl (b2 (l _ _) rfl (da (by decide))) rfl) (t _)) rfl) rfl (by simp[ai,dw]) hp) rfl) (sq (aS (b2 rfl (b2 (b2 (l _ _) rfl (xW (by decide))) rfl (da (by decide))) (N _)) rfl) ?_)
 have Q:∀h,gK h [.lst T]=some (.int (T.length:Int)):=λ_=>rfl
 exact dS (yy rfl rfl (cA (tU (cA (b2 rfl (b2 rfl rfl (I _)) (o _)) (cA (tU (cA rfl (cA (b2 (b2 rfl (b2 (b2 (l _ _) rfl (xW (by decide))) (bV (cA rfl rfl) (Q _)) (da u)) (f _)) rfl rfl) rfl)) (by simp)) rfl)) (by simp)) rfl) (aC rfl (by lia)))
abbrev ltL(C:Int)(a:List Int)(d4 d5 b c:Kn):List Rk:=[(gS C 0,.ow .num),(gS C 1,.ow (iy (mC a 0))),(gS C 2,.ow (iy (mC a 1))),(gS C 3,.ow (iy (mC a 2))),(gS C 4,d4),(gS C 5,d5),(gS C 6,b),(gS C 7,c)]
theorem sX:∀l:List Rk,ai (l.map bC)=true
 | []=>rfl
 | r::l=>by rw[aI];simp[ai,noRef,bC,xN,sX l]
theorem Wi(k:Nat)(hk:3<=k)(C:Int)(a:List Int):∃d4 d5 c d:Kn,Gives (run txt (k+2) "_law_lets" [xj a,NM C] []) (.lst ((ltL C a d4 d5 c d).map bC))/\(dy d4=true/\cS (bE d4))/\(dy d5=true/\cS (bE d5))/\(dy c=true/\cS (bE c))/\(dy d=true/\cS (bE d)):=by
 obtain⟨S,hS⟩:∃S,S=xj a:=⟨_,rfl⟩
 have I:∀i:Nat,Gives (run txt (k+1) "_law_cell_at" [S,.int (i:Int)] []) (.int (cell a i)):=λi=>by rw[hS];exact LD k a i
 obtain⟨b,p⟩:∃b,b=(([(gS C 0,.ow .num),(gS C 1,.ow (iy (mC a 0))),(gS C 2,.ow (iy (mC a 1))),(gS C 3,.ow (iy (mC a 2)))]:List Rk).map bC):=⟨_,rfl⟩
 have J:b.length=4:=by rw[p];rfl
 obtain⟨d4,r,t,L,M⟩:=mX k hk C a (some S) (i:=0) (by decide) b (by lia) none none
 obtain⟨d5,u,v,N,Q⟩:=mX k hk C a (some S) (i:=1) (by decide) (b++[bC (gS C 4,d4)]) (by simp;lia) r t
 obtain⟨c,w,B,R,T⟩:=mX k hk C a (some S) (i:=2) (by decide) (b++[bC (gS C 4,d4)]++[bC (gS C 5,d5)]) (by simp;lia) u v
 obtain⟨d,v6,v7,D,X⟩:=mX k hk C a (some S) (i:=3) (by decide) (b++[bC (gS C 4,d4)]++[bC (gS C 5,d5)]++[bC (gS C 6,c)]) (by simp;lia) w B
 refine⟨d4,d5,c,d,?_,M,Q,T,X⟩;rw[Hl,<-hS];have Y:Ek (di false [none,none,some 0] (CJ (ph wR (aq (kI 7) (aW [])))) (lM (aV 1) (bnd (aq (bnd (aq (rd 2) (aq (op2 eG (kI 1) (rd 1)) (aW []))) (cC 0 2 (run txt (k+1) "_law_cell_at"))) (aq (op2 gk (rd 1) (kI 4)) (aW []))) (cC 0 2 (run txt (k+1) "_law_mixed"))))) (S0 [some S,some (NM C),none,none,none,none,none,none]) (CE a):=by
  refine cM (mN (cA rfl rfl) (by lia)) (by simp) λi e=>?_
  have f:nh i=iN i:=by unfold nh iN;rw[jP]
  rw[f];have h1:∀h,eG h (.int 1) (.int (i:Int))=some (.int ((1+i:Nat):Int)):=λ_=>cV (λz=>some (PV.int z)) (by lia)
  have Z:∀h,gk h (.int (i:Int)) (.int 4)=some (.int ((i%4:Nat):Int)):=λh=>by
   rw[da (by decide)]
   exact cV (λz=>some (PV.int z)) (by lia)
  exact e1 rfl (de (cA (de (cA rfl (cA (b2 rfl rfl (h1 _)) rfl)) rfl rfl (I (1+i))) (cA (b2 rfl rfl (Z _)) rfl)) rfl rfl (mM k (cell a (1+i)) (by lia)))
 have c2:Ek (op2 eG (kF .lst (aq (kF .ao (aq (kS "num") (aW []))) (aW []))) (di false [none,none,some 3] (CJ (ph wR (aq (kI 3) (aW [])))) (lM (aV 1) (bnd (aq (op2 bR (rd 2) (rd 1)) (aW [])) (cC 0 1 (run txt (k+1) "_law_shape")))))) (S0 [some S,some (NM C),none,some (CE a),none,none,none,none]) (OE a):=by
  refine b2 (x:=.lst [enc .num]) (y:=.lst ((List.range 3).map λi=>enc (iy (mC a i)))) rfl (cM (mN (j:=3) (cA rfl rfl) (by lia)) (by simp) λi e=>?_) (aL (by simp))
  have e:=ez.mp e;have f:nh i=iN i:=by unfold nh iN;rw[jP]
  rw[f];have hc:=R6 a (q:=i) (by lia)
  obtain⟨CC,g⟩:∃CC,CC=CE a:=⟨_,rfl⟩
  rw[<-g]at hc;rw[<-g];exact e1 (rp:=[none,some (iN i),some CC]) (h1:=[]) rfl (de (cA (b2 (x:=CC) (y:=.int (i:Int)) rfl rfl (hc _)) rfl) rfl rfl (PL k (mC a i)))
 have c3:Ev (dh (di true [none,none,some 1,some 4] (CJ (ph wR (aq (kI 4) (aW [])))) (lM (aV 1) (kF .ao (aq (op2 bR (rd 2) (rd 1)) (aq (op2 bR (rd 3) (rd 1)) (aW [])))))) (aV 5)) (S0 [some S,some (NM C),none,some (CE a),some (OE a),none,none,none]) .nx ⟨[some S,some (NM C),none,some (CE a),some (OE a),some (.ref 0),none,none],[⟨.lst,b⟩]⟩:=by
  have ea:b=(List.range 4).map λi=>PV.ao [.str (gS C i),enc ((HJ a).getD i .num)]:=by rw[p];rfl
  rw[ea];refine aS (cN (mN (j:=4) (cA rfl rfl) (by lia)) (by simp) (cF _ λi e=>?_)) rfl
  have e:=ez.mp e;have f:nh i=iN i:=by unfold nh iN;rw[jP]
  rw[f];have E:=L7 C (q:=i) (by lia)
  have ho:∀h,bR h (OE a) (.int (i:Int))=some (enc ((HJ a).getD i .num)):=λ_=>(atI_nat (by
   have:i=0\/i=1\/i=2\/i=3:=by lia
   rcases this with rfl | rfl | rfl | rfl<;>rfl):L2.km ((HJ a).map enc) (i:Int)=_)
  obtain⟨m,H⟩:∃m,m=NM C:=⟨_,rfl⟩
  rw[<-H]at E;rw[<-H];obtain⟨o,l⟩:∃o,o=OE a:=⟨_,rfl⟩
  rw[<-l]at ho;rw[<-l];exact e1 (rp:=[none,some (iN i),some m,some o]) (h1:=[]) rfl (tU (cA (b2 (x:=m) (y:=.int (i:Int)) rfl rfl (E _)) (cA (b2 (x:=o) (y:=.int (i:Int)) rfl rfl (ho _)) rfl)) (by simp))
 have hl:b++[bC (gS C 4,d4)]++[bC (gS C 5,d5)]++[bC (gS C 6,c)]++[bC (gS C 7,d)]=(ltL C a d4 d5 c d).map bC:=by rw[p];rfl
 rw[hl]at D;refine⟨.ref 0,_,j4 (sq (aS Y rfl) (sq (aS c2 rfl) (sq c3 (sq (fS (mN (j:=4) (cA rfl rfl) (by lia)) (fC (s1:=Wh (some S) (NM C) 0 (CE a) (OE a) b none none) rfl L (fC (s1:=Wh (some S) (NM C) 1 (CE a) (OE a) (b++[bC (gS C 4,d4)]) r t) rfl N (fC (s1:=Wh (some S) (NM C) 2 (CE a) (OE a) (b++[bC (gS C 4,d4)]++[bC (gS C 5,d5)]) u v) rfl R (fC (s1:=Wh (some S) (NM C) 3 (CE a) (OE a) (b++[bC (gS C 4,d4)]++[bC (gS C 5,d5)]++[bC (gS C 6,c)]) w B) rfl D rfl))))) (rS rfl))))),om (sX _)⟩
theorem aae(h:List ak):Og h (.int 10) (.int 12)=some (.int (10^12)):=by kernel_rfl
theorem qc(m:Int):m%4=0\/m%4=1\/m%4=2\/m%4=3:=by lia
structure Md where
 C:Int
 s1:Sh
 s2:Sh
 s3:Sh
 b4:Bool
 t4:Sh
 b5:Bool
 t5:Sh
 d6:Kn
 d7:Kn
 pl:Int
 bk:Int
 L:List Ro
namespace Md
variable (m:Md)
abbrev d4:Kn:=.ho m.b4 m.t4
abbrev d5:Kn:=.ho m.b5 m.t5
def nm(i:Nat):Str:=gS m.C i
def P:List Rk:=if m.pl%2=1 then [(m.nm 9,.ow m.s1),(m.nm 8,m.d4)]else [(m.nm 8,m.d4),(m.nm 9,.ow m.s1)]
def LT:List Rk:=[(m.nm 0,.ow .num),(m.nm 1,.ow m.s1),(m.nm 2,.ow m.s2),(m.nm 3,.ow m.s3),(m.nm 4,m.d4),(m.nm 5,m.d5),(m.nm 6,m.d6),(m.nm 7,m.d7)]
def ks:List Rk:=m.P++m.LT
noncomputable def so1:List Nat:=if m.bk%4=2 then [8]else []
noncomputable def so2:List Nat:=if m.bk/4%4=0 then []else if m.bk/4%4=1 then [0]else if m.bk/4%4=2 then [1]else [0,1]
def sT(l:List Nat):PV:=.ao (l.map λi=>.str (m.nm i))
def res:PV:=if m.bk%4=0 then .bj else if m.bk%4=3 then enc m.s2 else .ao [.str (hw m.b5),enc m.t5,m.sT m.so1]
def z:Option Rk:=if m.bk%4=0 then none else if m.bk%4=3 then some (m.nm 2,.ow m.s2)else some (m.nm 5,m.d5)
def hd:List Rk:=[(m.nm 0,m.d4),(m.nm 1,m.d5)].take (m.pl/2).toNat++(m.nm 2,.ow m.s1)::[(m.nm 0,m.d4),(m.nm 1,m.d5)].drop (m.pl/2).toNat
def fn(j:Nat):PV:=.str (m.nm (10+j))
def cs:Cs:=⟨.ow m.s1,m.d4,m.d5,m.z.map (·.2),m.pl⟩
def rows:List PV:=m.L.map (bB m.fn)
def F1:PV:=Bi (m.fn 1) m.res (.ao m.rows) m.P m.LT
def F0:PV:=.ao [m.fn 0,.ao [],.bj,.ao [],.ao [.ao [.str "give",.str ""]]]
def F2:PV:=.ao [m.fn 2,.ao (m.hd.map bC),.ao [.str (hw m.b4),enc m.t4,m.sT m.so2],.ao [],.ao [.ao [.str "give",.str (m.nm 0)]]]
def prog:PV:=.ao [m.F0,m.F1,m.F2]
end Md
structure c7 (m:Md) (most:Nat):Prop where
 f1:cS m.s1
 f2:cS m.s2
 f3:cS m.s3
 f4:cS m.t4
 f5:cS m.t5
 f6:dy m.d6=true/\cS (bE m.d6)
 f7:dy m.d7=true/\cS (bE m.d7)
 pl:0<=m.pl/\m.pl<6
 rows:∃L,m.L=L++[.eA m.z]/\L.length<=most/\∀r∈L,isG r=false
 ok:∀r∈m.L,ou m.cs m.ks m.L.length r
theorem DM(C:Int):∀l:List (Fin 26),l.Nodup->(l.map λi=>gS C i.1).Nodup
 | [],_=>jO
 | i::l,h=>by
  rw[fL]at h;rw[aI,fL];refine⟨λa=>?_,DM C l h.2⟩
  obtain⟨j,b,e⟩:=az.mp a;have:=PJ j.2 i.2 e;exact h.1 (by rw[<-Fin.ext this];exact b)
section
variable {m:Md}
theorem ox:m.ks.length=10:=by
 unfold Md.ks Md.P;split<;>rfl
theorem R7{q:Rk}(h:q∈m.P):q=(m.nm 9,.ow m.s1)\/q=(m.nm 8,m.d4):=by
 unfold Md.P at h;split at h
 all_goals simp only[aF,fJ,fN]at h
 ·exact h
 ·exact h.symm
theorem R8{q:Rk}(h:q∈m.LT):q=(m.nm 0,.ow .num)\/q=(m.nm 1,.ow m.s1)\/q=(m.nm 2,.ow m.s2)\/q=(m.nm 3,.ow m.s3)\/q=(m.nm 4,m.d4)\/q=(m.nm 5,m.d5)\/q=(m.nm 6,m.d6)\/q=(m.nm 7,m.d7):=by
 unfold Md.LT at h;simpa only[aF,fJ,fN]using h
theorem o9:(m.ks.map (·.1)).Nodup:=by
 unfold Md.ks Md.P;split
 ·exact DM m.C [9,8,0,1,2,3,4,5,6,7] (by decide)
 ·exact DM m.C [8,9,0,1,2,3,4,5,6,7] (by decide)
theorem L8{q:Rk}(h:q∈m.ks):∃i,i<10/\q.1=m.nm i:=by
 rcases aX.mp h with h | h
 ·rcases R7 h with rfl | rfl
  ·exact⟨9,by decide,rfl⟩
  ·exact⟨8,by decide,rfl⟩
 ·rcases R8 h with rfl | rfl | rfl | rfl | rfl | rfl | rfl | rfl
  ·exact⟨0,by decide,rfl⟩
  ·exact⟨1,by decide,rfl⟩
  ·exact⟨2,by decide,rfl⟩
  ·exact⟨3,by decide,rfl⟩
  ·exact⟨4,by decide,rfl⟩
  ·exact⟨5,by decide,rfl⟩
  ·exact⟨6,by decide,rfl⟩
  ·exact⟨7,by decide,rfl⟩
theorem R9(a:cS m.s1)(c:cS m.s2)(d:cS m.s3)(b:cS m.t4)(f:cS m.t5)(g:cS (bE m.d6))(j:cS (bE m.d7)):mP m.ks:=by
 refine⟨o9,λq h=>?_,by rw[ox];decide,λq h=>?_⟩
 ·rcases aX.mp h with h | h
  ·rcases R7 h with rfl | rfl
   ·exact a
   ·exact b
  ·rcases R8 h with rfl | rfl | rfl | rfl | rfl | rfl | rfl | rfl
   ·exact LJ
   ·exact a
   ·exact c
   ·exact d
   ·exact b
   ·exact f
   ·exact g
   ·exact j
 ·obtain⟨i,_,e⟩:=L8 h;rw[e];exact DK m.C i
theorem c7.ks{a:Nat}(h:c7 m a):mP m.ks:=R9 h.f1 h.f2 h.f3 h.f4 h.f5 h.f6.2 h.f7.2
theorem mY(j:Nat):noRef (m.fn j)=true:=rfl
theorem aag:∀r,m.z=some r->r∈m.ks:=λr h=>by
 unfold Md.z at h;have a:((m.nm 2,.ow m.s2):Rk)∈m.ks:=bW _ (by simp[Md.LT])
 have b:((m.nm 5,m.d5):Rk)∈m.ks:=bW _ (by simp[Md.LT])
 split at h
 ·cases h
 ·split at h
  ·cases h;exact a
  ·cases h;exact b
end
def fk(ks:List Rk)(d:Kn):List Rk:=ks.filter λq=>eqT (L4 q.2) (L4 d)
theorem Fo{ks:List Rk}{r:Rk}(h:r∈ks):(∀q∈fk ks r.2,q∈ks/\q.2=r.2)/\0<(fk ks r.2).length:=⟨λq a=>⟨(b7.mp a).1,V9 _ _ (b7.mp a).2⟩,jt (b7.mpr ⟨h,iK _⟩)⟩
theorem toT_K(h:List ak){d:Kn}(a:xP (bE d)):toT h e9 (encK d)=some (L4 d):=by
 cases d with
 | ow s=>exact toT_enc h s e9 (by have:=a.2;simp only[bE]at this;show _<1000;lia)
 | ho b s =>
  have e1:=toT_enc h s 999 (by have:=a.2;simp only[bE]at this;show _<999;lia)
  show((cb (toT h 999) [.str (hw b),enc s]).bind (JE .ao))=_;simp only[cb,e1];rfl
theorem aah(h:List ak){d e:Kn}(hd:xP (bE d))(he:xP (bE e)):iL h (encK d) (encK e)=some (.bl (eqT (L4 d) (L4 e))):=by
 show((toT h e9 (encK d)).bind λx=>(toT h e9 (encK e)).map λy=>eqT x y).map PV.bl=_
 rw[toT_K h hd,toT_K h he];rfl
theorem qd{ks:List Rk}(K:mP ks){s:cz}{LL:PV}(c:Ev (rd 8) s (KL ks) s)(d:bM [none,none,none,some 4] s.ρ=[none,none,none,some LL]){j:Int}{a:Rk}(e:a∈ks)(f:∀h,bR h LL (.int j)=some (bC a)):Ev (di false [none,none,none,some 4] (jF (rd 8)) (jD Qc (toB (op2 iL (rd 2) (op2 bR (op2 bR (rd 3) (aW (.int j))) (kI 1)))) (rd 1))) s (.lst ((fk ks a.2).map d0)) s:=by
 have k:=K.few;refine Wb (sV c rfl) (by lia) λq i=>?_
 rw[d];have g:Ek (toB (op2 iL (rd 2) (op2 bR (op2 bR (rd 3) (aW (.int j))) (kI 1)))) ⟨[none,some (.str q.1),some (encK q.2),some LL],s.h⟩ (eqT (L4 q.2) (L4 a.2)):=bT (b2 rfl (b2 (b2 rfl rfl (f _)) rfl rfl) (aah _ (K.ok q i) (K.ok a e)));cases b:eqT (L4 q.2) (L4 a.2)with
 | true=>rw[b]at g;exact MS rfl g rfl
 | false=>rw[b]at g;exact G9 rfl g
theorem HK(a:List Int)(n:Nat):∃cs:List Int,jU (a.map PV.int) (some 8) (some (8+(n:Int)))=cs.map .int/\cs.length<=n:=by
 have e1:=HT.wx (a.map PV.int).length 0 8;have b:=HT.wx (a.map PV.int).length (a.map PV.int).length (8+n);unfold jU;rw[show(some 8:Option Int)=some ((8:Nat):Int)from rfl,show(some (8+(n:Int)):Option Int)=some ((8+n:Nat):Int) by rw[Int.natCast_add];rfl,e1,b,<-List.map_drop,<-List.map_take]
 exact⟨_,rfl,by rw[nz];lia⟩
theorem Fp{fn:Nat->PV}{R:Ro->Prop}{a:PV->List ak->Option (Option PV×List ak)}{h:List ak}:∀cs:List Int,(∀c∈cs,∃r,a (.int c) h=some (some (bB fn r),h)/\R r)->∃L:List Ro,dJ a (cs.map PV.int) h=some (L.map (bB fn),h)/\(∀r∈L,R r)/\L.length=cs.length
 | [],_=>⟨[],rfl,(λ_ z=>nomatch z),rfl⟩
 | c::cs,H=>by
  obtain⟨r,d,e⟩:=H c aD;obtain⟨L,f,g,i⟩:=Fp cs λc hc=>H c (aG _ hc)
  refine⟨r::L,?_,λq b=>?_,by simp[i]⟩
  ·show(a (.int c) h).bind _=_;rw[d];show(dJ a (cs.map PV.int) h).map _=_;rw[f];rfl
  ·rcases aF.mp b with rfl | b
   ·exact e
   ·exact g q b
theorem cN'{link:List (Option Nat)}{a:Gx yu}{b:Bd}{s s1:cz}{ps c:List PV}(d:Ev a s (.sq ps) s1)(e:ps.length<=4000000)(f:dJ (b (bM link s1.ρ)) ps s1.h=some (c,s1.h)):Ev (di false link a b) s (.lst c) s1:=eB d (by
 show(if ps.length<=fD then dJ _ ps s1.h else none).bind _=_
 rw[if_pos (show ps.length<=fD from e),f]
 rfl)
theorem Fq:∀l:List Str,ai (l.map PV.str)=true
 | []=>rfl
 | _::l=>by rw[aI];simp[ai,noRef,Fq l]
theorem yf:∀l:List PV,(∀p∈l,noRef p=true)->ai l=true
 | [],_=>rfl
 | p::l,h=>by simp[ai,h p aD,yf l λq a=>h q (aG _ a)]
def pS(l:List (Option PV))(h:List ak):cz:=⟨(l.reverse++List.replicate 24 none).take 24,h⟩
theorem aQ{b:Gx PV}{g:Gx dE}{P:PV->Prop}{l:List (Option PV)}{h h':List ak}{p q:PV}{s1:cz}{i:Nat}(a:Ev b (pS l h) p s1)(c:p=q)(d:s1=pS l h')(ht:aV i q (pS l h')=some (pS (some q::l) h')) (k:Rt P (g (pS (some q::l) h'))):Rt P (dW (dh b (aV i)) g (pS l h)):=by
 subst c d;exact xS (aS a ht) k
theorem aP{b:Gx PV}{g:Gx dE}{P:PV->Prop}{l:List (Option PV)}{h:List ak}{p:PV}{i:Nat}(a:Ek b (pS l h) p)(ht:aV i p (pS l h)=some (pS (some p::l) h)) (k:Rt P (g (pS (some p::l) h))):Rt P (dW (dh b (aV i)) g (pS l h)):=xS (aS a ht) k
theorem xH{f g:Gx dE}{P:PV->Prop}{l:List (Option PV)}{h h':List ak}(a:Ev f (pS l h) .nx (pS l h'))(k:Rt P (g (pS l h'))):Rt P (dW f g (pS l h)):=xS a k
theorem HL(k:Nat)(hk:3<=k)(g:List Int)(f:Nat)(afM:f<=31){W:List Str}(hW:0<W.length)(hWs:∀w∈W,(w==Str.ofString "give")=false/\(w==Str.ofString "go")=false/\(w==Str.ofString "if")=false):∃m,Gives (run txt (k+4) "_law_program" [xj g,.int (f:Int),.lst (W.map .str)] []) (Md.prog m)/\c7 m f:=by
 obtain⟨S,hS⟩:∃S,S=xj g:=⟨_,rfl⟩
 have jR:Gives (run txt (k+3) "_law_cell_at" [S,.int 0] []) (.int (cell g 0)):=by rw[hS];exact LD (k+2) g 0
 obtain⟨C,hC⟩:∃C,C=cell g 0%10^12:=⟨_,rfl⟩
 have hn:=PK (k+2) C 13 (by decide)
 obtain⟨d4,d5,d6,d7,CF,i4,i5,i6,i7⟩:=Wi (k+1) (by lia) C g
 obtain⟨back,aai⟩:∃back,back=Hu (cell g 0) 3:=⟨_,rfl⟩
 have hb:=mM (k+2) (cell g 0) (i:=3) (by decide)
 rw[<-aai]at hb;obtain⟨b4,t4,e4⟩:∃b4 t4,d4=.ho b4 t4:=by
  cases d4 with
  | ow s=>cases i4.1
  | ho b s=>exact⟨b,s,rfl⟩
 obtain⟨b5,t5,e5⟩:∃b5 t5,d5=.ho b5 t5:=by
  cases d5 with
  | ow s=>cases i5.1
  | ho b s=>exact⟨b,s,rfl⟩
 subst e4 e5;obtain⟨s1,q1⟩:∃s,s=iy (mC g 0):=⟨_,rfl⟩
 obtain⟨s2,q2⟩:∃s,s=iy (mC g 1):=⟨_,rfl⟩
 obtain⟨s3,q3⟩:∃s,s=iy (mC g 2):=⟨_,rfl⟩
 have f1:=kB (mC g 0);have f2:=kB (mC g 1);have f3:=kB (mC g 2);rw[<-q1]at f1;rw[<-q2]at f2;rw[<-q3]at f3;unfold ltL at CF;rw[<-q1,<-q2,<-q3]at CF;obtain⟨d,H⟩:∃m:Md,m=⟨C,s1,s2,s3,b4,t4,b5,t5,d6,d7,back/1024%6,back,[]⟩:=⟨_,rfl⟩
 have hp6:0<=d.pl/\d.pl<6:=by rw[H];show 0<=back/1024%6/\back/1024%6<6;lia
 have K:mP d.ks:=by rw[H];exact R9 f1 f2 f3 i4.2 i5.2 i6.2 i7.2
 have fm:cS d.s1/\cS d.s2/\cS d.s3/\cS d.t4/\cS d.t5/\(dy d.d6=true/\cS (bE d.d6))/\(dy d.d7=true/\cS (bE d.d7)):=by rw[H];exact⟨f1,f2,f3,i4.2,i5.2,i6,i7⟩
 have CF:Gives (run txt (k+1+2) "_law_lets" [xj g,NM C] []) (.lst (d.LT.map bC)):=by rw[H];exact CF
 have B:d.bk=back:=by rw[H]
 have lY:d.pl=back/1024%6:=by rw[H]
 have hCm:d.C=C:=by rw[H]
 clear H;have t:∀q∈d.LT,q∈d.ks:=λq hq=>bW _ hq
 have M0:((d.nm 0,Kn.ow .num):Rk)∈d.ks:=t _ (by simp[Md.LT])
 have M1:((d.nm 1,Kn.ow d.s1):Rk)∈d.ks:=t _ (by simp[Md.LT])
 have M2:((d.nm 2,Kn.ow d.s2):Rk)∈d.ks:=t _ (by simp[Md.LT])
 have M4:((d.nm 4,d.d4):Rk)∈d.ks:=t _ (by simp[Md.LT])
 have M5:((d.nm 5,d.d5):Rk)∈d.ks:=t _ (by simp[Md.LT])
 obtain⟨LL,I⟩:∃LL,LL=PV.lst (d.LT.map bC):=⟨_,rfl⟩
 have l1:∀h,bR h LL (.int 1)=some (bC (d.nm 1,.ow d.s1)):=λ_=>by rw[I];rfl
 have l2:∀h,bR h LL (.int 2)=some (bC (d.nm 2,.ow d.s2)):=λ_=>by rw[I];rfl
 have l4:∀h,bR h LL (.int 4)=some (bC (d.nm 4,d.d4)):=λ_=>by rw[I];rfl
 have l5:∀h,bR h LL (.int 5)=some (bC (d.nm 5,d.d5)):=λ_=>by rw[I];rfl
 obtain⟨e,MU⟩:∃e,e=NM C:=⟨_,rfl⟩
 have D:∀q:Nat,q<13->∀h,bR h e (.int (q:Int))=some (.str (d.nm q)):=λq hq h=>by
  rw[MU];show _=some (PV.str (gS d.C q));rw[hCm];exact L7 C hq h
 have n0:∀h,bR h e (.int 0)=some (.str (d.nm 0)):=D 0 (by decide)
 have n1:∀h,bR h e (.int 1)=some (.str (d.nm 1)):=D 1 (by decide)
 have n2:∀h,bR h e (.int 2)=some (.str (d.nm 2)):=D 2 (by decide)
 have n5:∀h,bR h e (.int 5)=some (.str (d.nm 5)):=D 5 (by decide)
 have n8:∀h,bR h e (.int 8)=some (.str (d.nm 8)):=D 8 (by decide)
 have n9:∀h,bR h e (.int 9)=some (.str (d.nm 9)):=D 9 (by decide)
 have n10:∀h,bR h e (.int 10)=some (d.fn 0):=D 10 (by decide)
 have n11:∀h,bR h e (.int 11)=some (d.fn 1):=D 11 (by decide)
 have n12:∀h,bR h e (.int 12)=some (d.fn 2):=D 12 (by decide)
 have aem:∀h,Gn h (some 10) none e=some (.lst [d.fn 0,d.fn 1,d.fn 2]):=λh=>by
  rw[MU];show some (PV.lst (jU _ (some 10) none))=some (.lst [.str (gS d.C 10),.str (gS d.C 11),.str (gS d.C 12)]);rw[hCm];rfl
 obtain⟨cs,WS,hcl⟩:=HK g f;have aen:∀h,Gn h (some 8) (some (8+(f:Int))) S=some (.lst (cs.map .int)):=λh=>by
  rw[hS];show some (PV.lst (jU (g.map .int) (some 8) (some (8+(f:Int)))))=_;rw[WS]
 have rs:∀h,bR h (.lst [.bj,.ao [.str (hw d.b5),enc d.t5,.ao []],.ao [.str (hw d.b5),enc d.t5,.ao [.str (d.nm 8)]],enc d.s2]) (.int (back%4))=some d.res:=λ_=>by
  unfold Md.res Md.so1;rw[B];rcases qc back with h | h | h | h<;>rw[h]<;>rfl
 have rz:∀h,bR h (.lst [.str "",.str (d.nm 5),.str (d.nm 5),.str (d.nm 2)]) (.int (back%4))=some (Fg d.z):=λ_=>by
  unfold Md.z;rw[B];rcases qc back with h | h | h | h<;>rw[h]<;>rfl
 obtain⟨J,hBK,hB1,hB2⟩:∃J:List (Option Rk),(∀h,bR h (.lst [.lst [.str ""],.lst ((fk d.ks d.d5).map d0),.lst ((fk d.ks d.d5).map d0),.lst ((fk d.ks (.ow d.s2)).map d0)]) (.int (back%4))=some (.lst (J.map Fg)))/\(∀o∈J,(∀r,o=some r->r∈d.ks)/\o.map (·.2)=d.z.map (·.2))/\0<J.length:=by
  have sm:∀{r:Rk},r∈d.ks->d.z.map (·.2)=some r.2->(∀o∈(fk d.ks r.2).map some,(∀q,o=some q->q∈d.ks)/\o.map (·.2)=d.z.map (·.2))/\0<((fk d.ks r.2).map some).length:=λ{r} N hz=>by
   obtain⟨g1,g2⟩:=Fo N;refine⟨λo ho=>?_,by rw[aj];exact g2⟩
   obtain⟨q',tO,rfl⟩:=az.mp ho;exact⟨λq hq=>by cases hq;exact(g1 _ tO).1,by rw[hz];show some q'.2=_;rw[(g1 _ tO).2]⟩
  have mm:∀l:List Rk,(l.map some).map Fg=l.map d0:=λl=>by rw[c6];rfl
  unfold Md.z at sm ⊢;rw[B]at sm ⊢;rcases qc back with h | h | h | h<;>rw[h]at sm ⊢
  ·refine⟨[none],λ_=>rfl,λo ho=>?_,by simp⟩
   rw[ax]at ho;subst ho;exact⟨(λ_ z=>nomatch z),rfl⟩
  ·exact⟨(fk d.ks d.d5).map some,λ_=>by rw[mm];rfl,sm M5 rfl⟩
  ·exact⟨(fk d.ks d.d5).map some,λ_=>by rw[mm];rfl,sm M5 rfl⟩
  ·exact⟨(fk d.ks (.ow d.s2)).map some,λ_=>by rw[mm];rfl,sm M2 rfl⟩
 have CO:Wd d.cs d.ks (fk d.ks d.d4) (fk d.ks d.d5) (fk d.ks (.ow d.s1)) J:=⟨Fo M4,Fo M5,Fo M1,hB1,hB2⟩;have v20:∀h,bR h (.lst [.ao [],.ao [.str (d.nm 0)],.ao [.str (d.nm 1)],.ao [.str (d.nm 0),.str (d.nm 1)]]) (.int (back/4%4))=some (d.sT d.so2):=λ_=>by
  unfold Md.so2;rw[B];rcases qc (back/4)with h | h | h | h<;>rw[h]<;>rfl
 have aeo:=PN (k+1) (by lia) d.ks K.ok (by rw[ox];decide)
 have aep:=HB (k+2) K M0 (back/16%64);obtain⟨E,L9⟩:∃E,E=PV.ao [.str "give",Fg d.z]:=⟨_,rfl⟩
 have Q:noRef E=true:=by rw[L9];rfl
 have Wk:=λc:Int=>aab k hk K (M:=cs.length+1) (by lia) hW hWs M0 ⟨_,M4,rfl⟩ (back/16%64) (fn:=d.fn) mY CO hp6 Q c
 obtain⟨md,W9⟩:∃md,md=mdT W d.ks (d.nm 0) (back/16%64) (caT d.fn (fk d.ks d.d4) (fk d.ks d.d5) (fk d.ks (.ow d.s1)) J d.pl) E:=⟨_,rfl⟩
 have Wk:∀c:Int,∃p,Gives (run txt (k+3) "_law_row" [.int c,.int ((cs.length+1:Nat):Int),md] []) p/\AV d.fn d.cs d.ks (cs.length+1) p:=by rw[W9];exact Wk
 have nrm:noRef md=true:=by rw[W9];simp[noRef,ai,Fq,sX,E9 _ (mW K),LP _ (DL K M0 (back/16%64)).1,Q,mY,fW]
 have aak:∀hp:List ak,∃L:List Ro,dJ (lM (aV 1) (bnd (aq (rd 1) (aq (op2 eG Q8 (kI 1)) Qe)) (cC 0 3 (run txt (k+3) "_law_row"))) [none,none,some (.lst (cs.map .int)),some md]) (cs.map PV.int) hp=some (L.map (bB d.fn),hp)/\(∀r∈L,isG r=false/\ou d.cs d.ks (cs.length+1) r)/\L.length=cs.length:=λhp=>by
  refine Fp cs λc hc=>?_
  obtain⟨p,h1,r,h2,h3⟩:=Wk c;refine⟨r,?_,h3⟩;have hl1:Ek (op2 eG Q8 (kI 1)) ⟨[none,some (.int c),some (.lst (cs.map .int)),some md],hp⟩ (.int ((cs.length+1:Nat):Int)):=by
   refine b2 (x:=.int (cs.length:Int)) (bV (cA rfl rfl) ?_) rfl rfl;show some (PV.int (((cs.map PV.int).length:Nat):Int))=_;rw[aj]
  rw[h2]at h1;exact e1 rfl (de (cA rfl (cA hl1 (cA rfl rfl))) rfl (by simp[ai,noRef,nrm]) h1)
 obtain⟨L,hL1,R,hL3⟩:=aak [⟨.lst,d.P.map bC⟩];have hLn:L.length<=f:=by lia
 obtain⟨m,hm⟩:∃m:Md,m={d with L:=L++[Ro.eA d.z]}:=⟨_,rfl⟩
 refine⟨m,?_,?_⟩
 rotate_left
 ·rw[hm];obtain⟨g1,g2,g3,g4,g5,g6,g7⟩:=fm;refine⟨g1,g2,g3,g4,g5,g6,g7,hp6,⟨L,rfl,hLn,λr N=>(R r N).1⟩,λr N=>?_⟩
  show ou d.cs d.ks (L++[Ro.eA d.z]).length r;rw[aZ,hL3];rcases aX.mp N with h | h
  ·exact(R r h).2
  ·rw[ax]at h;subst h;exact aag
 have hR:m.rows=L.map (bB d.fn)++[E]:=by
  rw[hm,L9];show(L++[Ro.eA d.z]).map (bB d.fn)=_;rw[cm];rfl
 have hF1:m.F1=Bi (d.fn 1) d.res (.ao (L.map (bB d.fn)++[E])) d.P d.LT:=by
  rw[<-hR,hm];rfl
 have hF0:m.F0=d.F0:=by rw[hm];rfl
 have hF2:m.F2=d.F2:=by rw[hm];rfl
 unfold Md.prog;rw[hF0,hF1,hF2,xF,<-hS];obtain⟨WW,hWW⟩:∃WW,WW=PV.lst (W.map .str):=⟨_,rfl⟩
 rw[<-hWW];obtain⟨x1,hx1⟩:∃x,x=PV.int (f:Int):=⟨_,rfl⟩
 rw[<-hx1];obtain⟨KS,T⟩:∃KS,KS=KL d.ks:=⟨_,rfl⟩
 obtain⟨X,Xa⟩:∃X,X=d.P.map bC:=⟨_,rfl⟩
 obtain⟨u,Y⟩:∃u,u=L.map (bB d.fn)++[E]:=⟨_,rfl⟩
 rw[<-Y];obtain⟨v4,hv4⟩:∃v,v=PV.lst ((fk d.ks d.d4).map d0):=⟨_,rfl⟩
 obtain⟨v5,Z⟩:∃v,v=PV.lst ((fk d.ks d.d5).map d0):=⟨_,rfl⟩
 obtain⟨v1,hv1⟩:∃v,v=PV.lst ((fk d.ks (.ow d.s1)).map d0):=⟨_,rfl⟩
 obtain⟨vB,hvB⟩:∃v,v=PV.lst (J.map Fg):=⟨_,rfl⟩
 obtain⟨vS,hvS⟩:∃v,v=SL d.ks:=⟨_,rfl⟩
 obtain⟨vN,hvN⟩:∃v,v=PV.lst ((RY d.ks (d.nm 0) (back/16%64)).map jI):=⟨_,rfl⟩
 obtain⟨vC,hvC⟩:∃v,v=PV.lst (cs.map .int):=⟨_,rfl⟩
 obtain⟨p9,h9⟩:∃v,v=d.res:=⟨_,rfl⟩
 obtain⟨w20,h20⟩:∃v,v=d.sT d.so2:=⟨_,rfl⟩
 rw[<-h9]at rs;rw[<-h20]at v20;rw[<-Xa]at hL1;have QT:Gives (run txt (k+3) "_law_names" [.int (cell g 0%10^12),.int 13] []) e:=by rw[<-hC,MU];exact hn
 rw[<-hS,<-MU,<-I]at CF;have fd:∀h,gk h (.int (back/1024)) (.int 6)=some (.int d.pl):=λh=>by rw[lY];exact da (by decide)
 have P2:X.length=2:=by rw[Xa,aj];unfold Md.P;split<;>rfl
 have hLT:d.LT.length=8:=rfl;have nrR:ai u=true:=by
  rw[Y];refine yf _ λp hp=>?_
  rcases aX.mp hp with h | h
  ·obtain⟨r,N,rfl⟩:=az.mp h;exact Fh mY r (R r N).2
  ·rw[ax]at h;rw[h];exact Q
 have nr9:noRef d.res=true:=by
  unfold Md.res;split
  ·rfl
  ·split
   ·exact dw _
   ·simp[noRef,ai,dw,Md.sT,fW]
 have nrP:noRef (.ao [d.F0,Bi (d.fn 1) d.res (.ao u) d.P d.LT,d.F2])=true:=by simp[noRef,ai,Md.F0,Md.F2,Bi,dw,sX,nrR,nr9,Md.sT,fW,mY]
 suffices h:Rt (λp=>p=.ao [d.F0,Bi (d.fn 1) d.res (.ao u) d.P d.LT,d.F2]) (sx (run txt (k+3)) ⟨gm 24 [S,x1,WW],[]⟩)from by
  obtain⟨p,a,b⟩:=Rt.run h;rw[<-b];exact a
 refine xS (aS (de (cA (b2 (de (cA rfl (cA rfl rfl)) rfl rfl jR) (b2 rfl rfl (aae _)) (da (by decide))) (cA rfl rfl)) rfl rfl QT) rfl) ?_
 refine xS (aS (de (cA rfl (cA rfl rfl)) rfl rfl CF) rfl) ?_;refine xS (aS (de (cA (de (cA rfl (cA rfl rfl)) rfl rfl jR) (cA rfl rfl)) rfl rfl hb) rfl) ?_;refine xS (aS (b2 (b2 rfl rfl (xW (by decide))) rfl (fd _)) rfl) ?_
 refine xS (aS (lC (cA (tU (cA (b2 (x:=e) rfl rfl (n8 _)) (cA (b2 (b2 (x:=LL) rfl rfl (l4 _)) rfl rfl) rfl)) (by simp)) (cA (tU (cA (b2 (x:=e) rfl rfl (n9 _)) (cA (b2 (b2 (x:=LL) rfl rfl (l1 _)) rfl rfl) rfl)) (by simp)) rfl)) (by simp)) rfl) ?_
 refine xS (s1:=pS [some (.ref 0),some (.int d.pl),some (.int back),some LL,some e,some WW,some x1,some S] [⟨.lst,X⟩]) ?_ ?_
 ·have d2:Ek (toB (op2 iL (op2 gk (rd 6) (kI 2)) (kI 1))) (pS [some (.ref 0),some (.int d.pl),some (.int back),some LL,some e,some WW,some x1,some S] [⟨.lst,[bC (d.nm 8,d.d4),bC (d.nm 9,.ow d.s1)]⟩]) (d.pl%2==1):=bT (b2 (b2 (x:=.int d.pl) rfl rfl (da (by decide))) rfl (oo _ _ _))
  rw[Xa];unfold Md.P;by_cases h:d.pl%2=1
  ·rw[show(d.pl%2==1)=true by rw[h];rfl]at d2
   rw[if_pos h];exact iT d2 rfl
  ·rw[show(d.pl%2==1)=false by rw[eR];exact h]at d2
   rw[if_neg h];exact iF d2 rfl
 refine aP (p:=KS) ?_ rfl ?_
 ·rw[T,I,Xa];show Ev _ _ (PV.lst (d.ks.map bC)) _;unfold Md.ks;rw[cm];refine b2 (x:=.ref 0) (y:=.lst (d.LT.map bC)) rfl rfl ?_;show sizeOk ((d.P.map bC).length+(d.LT.map bC).length) _=_;exact if_pos (show _<=4000000 by rw[<-Xa,P2,aj,hLT];decide)
 refine aP (p:=p9) (b2 (x:=.lst [.bj,.ao [.str (hw d.b5),enc d.t5,.ao []],.ao [.str (hw d.b5),enc d.t5,.ao [.str (d.nm 8)]],enc d.s2]) (lS (cA rfl (cA (b2 (y:=.ao [.ao []]) (b2 (x:=bC (d.nm 5,d.d5)) (z:=.ao [.str (hw d.b5),enc d.t5]) (b2 (x:=LL) rfl rfl (l5 _)) rfl rfl) rfl (aT (by simp))) (cA (b2 (y:=.ao [.ao [.str (d.nm 8)]]) (b2 (x:=bC (d.nm 5,d.d5)) (z:=.ao [.str (hw d.b5),enc d.t5]) (b2 (x:=LL) rfl rfl (l5 _)) rfl rfl) (tU (cA (tU (cA (b2 (x:=e) rfl rfl (n8 _)) rfl) (by simp)) rfl) (by simp)) (aT (by simp))) (cA (b2 (b2 (x:=LL) rfl rfl (l2 _)) rfl rfl) rfl)))) (by simp)) (b2 (x:=.int back) rfl rfl (da (by decide))) (rs _)) rfl ?_
 refine aP (p:=E) ?_ rfl ?_
 ·rw[L9];exact tU (cA rfl (cA (b2 (x:=.lst [.str "",.str (d.nm 5),.str (d.nm 5),.str (d.nm 2)]) (lS (cA rfl (cA (b2 (x:=e) rfl rfl (n5 _)) (cA (b2 (x:=e) rfl rfl (n5 _)) (cA (b2 (x:=e) rfl rfl (n2 _)) rfl)))) (by simp)) (b2 (x:=.int back) rfl rfl (da (by decide))) (rz _)) rfl)) (by simp)
 refine aP (p:=v4) ?_ rfl ?_
 ·rw[hv4,T];exact qd K (LL:=LL) rfl rfl M4 l4
 refine aP (p:=v5) ?_ rfl ?_
 ·rw[Z,T];exact qd K (LL:=LL) rfl rfl M5 l5
 refine aP (p:=v1) ?_ rfl ?_
 ·rw[hv1,T];exact qd K (LL:=LL) rfl rfl M1 l1
 refine aP (p:=vB) ?_ rfl ?_
 ·rw[hvB,Z,T];exact b2 (x:=.lst [.lst [.str ""],.lst ((fk d.ks d.d5).map d0),.lst ((fk d.ks d.d5).map d0),.lst ((fk d.ks (.ow d.s2)).map d0)]) (lS (cA rfl (cA rfl (cA rfl (cA (qd K (LL:=LL) rfl rfl M2 l2) rfl)))) (by simp)) (b2 (x:=.int back) rfl rfl (da (by decide))) (hBK _)
 refine aP (p:=vS) ?_ rfl ?_
 ·rw[hvS,T];exact de (as:=[KL d.ks]) (cA rfl rfl) rfl (by simp[ai,noRef,sX]) aeo
 refine aP (p:=vN) ?_ rfl ?_
 ·rw[hvN,hvS];exact de (as:=[SL d.ks,.str (d.nm 0),.int (back/16%64)]) (cA rfl (cA (b2 (x:=e) rfl rfl (n0 _)) (cA (b2 (b2 (x:=.int back) rfl rfl (xW (by decide))) rfl (da (by decide))) rfl))) rfl (by simp[ai,noRef,E9 _ (mW K)]) aep
 refine aP (p:=md) ?_ rfl ?_
 ·rw[W9];unfold mdT caT;rw[<-hWW,<-T,<-hvS,<-hvN,<-hv4,<-Z,<-hv1,<-hvB];exact tU (cA rfl (cA rfl (cA rfl (cA rfl (cA (tU (cA (x:=.lst [d.fn 0,d.fn 1,d.fn 2]) (cE (p:=e) rfl rfl rfl (aem _)) (cA rfl (cA rfl (cA rfl (cA rfl (cA rfl rfl)))))) (by simp)) (cA rfl rfl)))))) (by simp)
 refine aP (p:=vC) ?_ rfl ?_
 ·rw[hvC,hx1];exact cE (p:=S) (h:=some (8+(f:Int))) rfl rfl (eB (b2 (x:=.int 8) (y:=.int (f:Int)) rfl rfl rfl) rfl) (aen _)
 refine aP (p:=(.lst u)) ?_ rfl ?_
 ·rw[Y,hvC];exact b2 (x:=.lst (L.map (bB d.fn))) (y:=.lst [E]) (cN' (sV rfl rfl) (by rw[aj];lia) hL1) (lS (cA rfl rfl) (by simp)) (aL (by simp only[aj,aN,vT];lia))
 refine aP (p:=w20) (b2 (x:=.lst [.ao [],.ao [.str (d.nm 0)],.ao [.str (d.nm 1)],.ao [.str (d.nm 0),.str (d.nm 1)]]) (lS (cA rfl (cA (tU (cA (b2 (x:=e) rfl rfl (n0 _)) rfl) (by simp)) (cA (tU (cA (b2 (x:=e) rfl rfl (n1 _)) rfl) (by simp)) (cA (tU (cA (b2 (x:=e) rfl rfl (n0 _)) (cA (b2 (x:=e) rfl rfl (n1 _)) rfl)) (by simp)) rfl)))) (by simp)) (b2 (b2 (x:=.int back) rfl rfl (xW (by decide))) rfl (da (by decide))) (v20 _)) rfl ?_
 refine aQ (q:=.ref 1) (h':=[⟨.lst,X⟩,⟨.lst,[bC (d.nm 0,d.d4),bC (d.nm 1,d.d5)]⟩]) (lC (ps:=[bC (d.nm 0,d.d4),bC (d.nm 1,d.d5)]) (cA (tU (cA (b2 (x:=e) rfl rfl (n0 _)) (cA (b2 (b2 (x:=LL) rfl rfl (l4 _)) rfl rfl) rfl)) (by simp)) (cA (tU (cA (b2 (x:=e) rfl rfl (n1 _)) (cA (b2 (b2 (x:=LL) rfl rfl (l5 _)) rfl rfl) rfl)) (by simp)) rfl)) (by simp)) rfl rfl rfl ?_
 refine xH (h':=[⟨.lst,X⟩,⟨.lst,d.hd.map bC⟩]) ?_ ?_
 ·obtain⟨j,hj,hj2⟩:∃j:Nat,d.pl/2=(j:Int)/\j<=2:=⟨(d.pl/2).toNat,by lia,by lia⟩
  unfold Md.hd;rw[hj];refine dS (p:=.bj) (yy (n:=1) (as:=[.int (j:Int),bC (d.nm 2,.ow d.s1)]) rfl rfl (cA (b2 (x:=.int d.pl) rfl rfl (by rw[<-hj];exact xW (by decide))) (cA (tU (cA (b2 (x:=e) rfl rfl (n2 _)) (cA (b2 (b2 (x:=LL) rfl rfl (l1 _)) rfl rfl) rfl)) (by simp)) rfl)) ?_)
  have:j=0\/j=1\/j=2:=by lia
  rcases this with rfl | rfl | rfl<;>rfl
 refine aP (p:=d.F2) (tU (cA (b2 (x:=e) rfl rfl (n12 _)) (cA (x:=.ao (d.hd.map bC)) (bV (as:=[.ref 1]) (cA rfl rfl) rfl) (cA (x:=.ao [.str (hw d.b4),enc d.t4,d.sT d.so2]) (b2 (x:=.ao [.str (hw d.b4),enc d.t4]) (y:=.ao [w20]) (b2 (x:=bC (d.nm 4,d.d4)) (b2 (x:=LL) rfl rfl (l4 _)) rfl rfl) (tU (cA rfl rfl) (by simp)) (by rw[h20];exact aT (by simp))) (cA rfl (cA (tU (cA (tU (cA rfl (cA (b2 (x:=e) rfl rfl (n0 _)) rfl)) (by simp)) rfl) (by simp)) rfl))))) (by simp)) rfl ?_
 refine aP (p:=(Bi (d.fn 1) d.res (.ao u) d.P d.LT)) ?_ rfl ?_
 ·unfold Bi;rw[<-Xa,<-h9];exact tU (cA (b2 (x:=e) rfl rfl (n11 _)) (cA (x:=.ao X) (bV (as:=[.ref 0]) (cA rfl rfl) rfl) (cA rfl (cA (x:=.ao (d.LT.map bC)) (bV (as:=[LL]) (cA rfl rfl) (by rw[I];rfl)) (cA (x:=.ao u) (bV (as:=[.lst u]) (cA rfl rfl) rfl) rfl))))) (by simp)
 exact xR (tU (ps:=[d.F0,Bi (d.fn 1) d.res (.ao u) d.P d.LT,d.F2]) (cA (tU (cA (b2 (x:=e) rfl rfl (n10 _)) (cA rfl (cA rfl (cA rfl (cA rfl rfl))))) (by simp)) (cA rfl (cA rfl rfl))) (by simp)) nrP rfl
def Md.A(m:Md):List (List bY):=m.L.map ni
def Md.as(m:Md):List (Nat×bY):=dY 0 m.A
noncomputable def DN(j:Nat):Ro->List Nat
 | .eA _=>[]
 | _=>[j+1]
def Md.nx(m:Md)(j:Nat):List Nat:=match m.L[j]? with
 | some r=>DN j r
 | none=>[]
def Md.Ig(m:Md):List (List Nat):=qb m.A m.nx
section
variable {m:Md} {most:Nat} (h:c7 m most)
theorem Ma(H:List ak):bR H m.prog (.int 1)=some m.F1:=rfl
theorem Fs(h:c7 m most):ai m.rows=true:=yf _ λp hp=>by
 obtain⟨r,a,rfl⟩:=az.mp hp;exact Fh mY r (h.ok r a)
theorem Wm:noRef m.res=true:=by
 unfold Md.res;split
 ·rfl
 ·split
  ·exact dw _
  ·simp[noRef,ai,dw,Md.sT,fW]
theorem Mb(h:c7 m most):noRef m.F1=true:=by simp[Md.F1,Bi,noRef,ai,mY,Wm,sX,Fs h]
theorem aal:noRef m.F0=true:=rfl
theorem aam:noRef m.F2=true:=by simp[Md.F2,noRef,ai,mY,dw,sX,Md.sT,fW]
theorem Ft(h:c7 m most):noRef m.prog=true:=by simp[Md.prog,noRef,ai,aal,Mb h,aam]
theorem aan(h:c7 m most):sF m.F1 m.ks:=Jl _ _ _ m.P m.LT (by have:=@ox m;unfold Md.ks at this;rw[aZ]at this;lia) (o9)
theorem Wn(h:c7 m most){r:Ro}(a:r∈m.L):pG m.ks m.L.length (bB m.fn r) (ni r):=Wa h.ks _ mY r (h.ok r a)
theorem AX(h:c7 m most):m.L.length<=most+1/\0<m.L.length:=by
 obtain⟨L,e,a,_⟩:=h.rows;rw[e];simp
 lia
theorem yg(h:c7 m most)(d:most<=31)(k:Nat)(hk:12<=k):Gives (run txt (k+1) "acts" [m.prog,.int 1] []) (.lst (m.as.map eN)):=by
 have e:m.rows=(m.L.map λr=>(bB m.fn r,ni r)).map (·.1):=by rw[c6];rfl
 have a:(m.L.map λr=>(bB m.fn r,ni r)).map (·.2)=m.A:=by rw[c6];rfl
 have f:=(AX h).1;have:=VV k Ma (by rw[<-e];rfl) (Mb h) (λq b=>by
  obtain⟨r,c,rfl⟩:=az.mp b;exact(Wn h c).made m.F1 k (aan h) (Mb h) hk) (by rw[aj];lia)
 rw[a,mI]at this;exact this
theorem aao(h:c7 m most):∀as∈m.A,as.length<=6:=λas a=>by
 obtain⟨r,b,rfl⟩:=az.mp a;exact(Wn h b).six
theorem AY:∀(L:List (List bY)) (i:Nat),(∀as∈L,as.length<=6)->(dY i L).length<=6*L.length
 | [],_,_=>by simp[dY]
 | as::L,i,h=>by
  have b:=h as aD;have d:=AY L (i+1) λa c=>h a (aG _ c)
  have:(cf as).length<=6:=by
   cases as with
   | nil=>simp[cf]
   | cons a r=>exact b
  rw[dY,aZ,aj,aN]
  lia
theorem kc(h:c7 m most):m.as.length<=6*(most+1):=by
 have a:=AY m.A 0 (aao h);have b:=(AX h).1;have c:m.A.length=m.L.length:=by unfold Md.A;rw[aj]
 unfold Md.as
 lia
def wdR:Ro->Str
 | .put a _ _=>if a then "fill" else "put"
 | .set _ _ _ _=>"set"
 | .mU _ _=>"copy"
 | .mV _ _=>"move"
 | .drop _=>"drop"
 | .iA _ b _=>lw b
 | .call _ _ _=>"call"
 | .AU _=>"say"
 | .eA _=>"give"
theorem aaq(fn:Nat->PV)(H:List ak)(r:Ro):bR H (bB fn r) (.int 0)=some (.str (wdR r)):=by cases r<;>rfl
def P9:Ro->Nat
 | .eA _=>0
 | _=>3
theorem QA(r:Ro):(wdR r==Str.ofString "give")=(P9 r==0):=by
 cases r with
 | put a _ _=>cases a<;>kernel_rfl
 | iA _ b _=>cases b<;>kernel_rfl
 | _=>kernel_rfl
theorem aar(r:Ro):(wdR r==Str.ofString "go")=(P9 r==1):=by
 cases r with
 | put a _ _=>cases a<;>kernel_rfl
 | iA _ b _=>cases b<;>kernel_rfl
 | _=>kernel_rfl
theorem aas(r:Ro):(wdR r==Str.ofString "if")=(P9 r==2):=by
 cases r with
 | put a _ _=>cases a<;>kernel_rfl
 | iA _ b _=>cases b<;>kernel_rfl
 | _=>kernel_rfl
theorem Mc{j:Nat}{r:Ro}(a:m.L[j]?=some r)(H:List ak):bR H (.ao m.rows) (.int (j:Int))=some (bB m.fn r):=atI_nat (by unfold Md.rows;rw[bG,a];rfl)
theorem Me(h:c7 m most){j:Nat}{r:Ro}(a:m.L[j]?=some r)(d:P9 r≠0):j+1<m.L.length:=by
 obtain⟨L,e,f,_⟩:=h.rows;have c:=(bu.mp a).1;by_cases b:j=L.length
 ·subst b;rw[e]at a;simp at a;subst a;exact absurd rfl d
 ·rw[e,aZ]at c ⊢;simp at c ⊢
  lia
theorem Mf(h:c7 m most){j:Nat}{r:Ro}(a:m.L[j]?=some r):(DN j r).length<=2/\∀n∈DN j r,n<m.L.length:=by
 have ok:=h.ok r (cZ a);have one:P9 r≠0->([j+1]:List Nat).length<=2/\∀n∈[j+1],n<m.L.length:=λb=>⟨by simp,λn c=>by rw[ax]at c;have:=Me h a b;lia⟩
 cases r with
 | eA z=>exact⟨by simp[DN],λ_ z=>nomatch z⟩
 | _=>exact one (by simp[P9])
theorem Wo(h:c7 m most)(u:most<=31)(k:Nat){j:Nat}{r:Ro}(b:m.L[j]?=some r):Gives (run txt (k+1) "row_nexts" [.ao m.rows,.int (j:Int)] []) (nT (DN j r)):=by
 have x:=(bu.mp b).1;have y:=(AX h).1;obtain⟨p,hp⟩:∃p,p=bB m.fn r:=⟨_,rfl⟩
 obtain⟨R,e⟩:∃R,R=PV.ao m.rows:=⟨_,rfl⟩
 rw[uf,<-e];have g:∀H,bR H R (.int (j:Int))=some p:=λH=>by rw[e,hp];exact Mc b H
 have f:Ev Qv (S0 [some R,some (.int (j:Int)),none]) .nx (S0 [some R,some (.int (j:Int)),some p]):=aS (b2 rfl rfl (g _)) rfl;have w:∀v:Str,Ek (toB (op2 iL (op2 bR (rd 2) (kI 0)) (aW (.str v)))) (S0 [some R,some (.int (j:Int)),some p]) (wdR r==v):=λv=>bT (b2 (b2 rfl rfl (by rw[hp];exact aaq _ _ r)) rfl (fA _ _ _))
 have a:=w "give";have c:=w "go";have d:=w "if"
 rw[QA]at a;rw[aar]at c;rw[aas]at d;have i:Ek (op2 eG (rd 1) (kI 1)) (S0 [some R,some (.int (j:Int)),some p]) (iN (j+1)):=b2 rfl rfl rfl;have nr:∀l,noRef (nT l)=true:=λl=>by simp[nT,noRef,mL]
 have one:(P9 r==0)=false->(P9 r==1)=false->(P9 r==2)=false->Gives (dO (oR (run txt k)) 3 [R,.int (j:Int)] []) (nT [j+1]):=λo q t=>by
  rw[o]at a;rw[q]at c;rw[t]at d;exact gV (sq f (sq (iF a rfl) (sq (iF c rfl) (sq (iF d rfl) (rS (tU (cA i rfl) (by simp))))))) (nr _)
 have ok:=h.ok r (cZ b);cases r with
 | eA z=>exact gV (sq f (yx (iT a (rS rfl)))) rfl
 | _=>exact one rfl rfl rfl
theorem QB(h:c7 m most)(c:most<=31)(k:Nat):xV (run txt (k+1)) (.ao m.rows) m.A.length m.nx:=λj b=>by
 have d:m.A.length=m.L.length:=by unfold Md.A;rw[aj]
 rw[d]at b ⊢;obtain⟨r,a⟩:∃r,m.L[j]?=some r:=⟨_,bQ b⟩
 have e:m.nx j=DN j r:=by unfold Md.nx;rw[a]
 rw[e];exact⟨Wo h c k a,(Mf h a).1,(Mf h a).2⟩
theorem sY(h:c7 m most)(i:most<=20)(k:Nat)(hk:12<=k):Gives (run txt (k+2) "nexts" [m.prog,.int 1] []) (.lst (m.Ig.map nT))/\ad9 m.Ig m.as.length:=by
 have b:=yg h (by lia) k hk
 unfold Md.as at b;rw[<-mI]at b;have d:=kc h;obtain⟨e,f,g⟩:=PF (k+1) rfl (by simp[noRef,Fs h]) b (QB h (by lia) k) (by unfold Md.as at d;lia)
 refine⟨e,f,g,?_,by lia⟩
 obtain⟨a,c⟩:=sM m.A 0 0 (aA _) (by unfold Md.A;rw[aj];have:=(AX h).2;lia)
 exact List.length_pos_of_mem c
end
section
variable {fa fb:Gx PV} {s s1 s2:cz} {x y:PV} {r:Option (Rs PV×cz)}
theorem tB{b:Bool}(h:Ev fa s (.bl b) s1):Ev (fX fa) s b s1:=tR h rfl
end
section
variable {m:Md} {most:Nat}
theorem AZ:∀(L:List (List bY)) (i:Nat) (q:Nat×bY),q∈dY i L->∃j as,q.1=i+j/\L[j]?=some as/\q.2∈cf as
 | [],_,_,h=>nomatch h
 | as::L,i,q,h=>by
  rw[dY,aX]at h;rcases h with h | h
  ·obtain⟨a,b,rfl⟩:=az.mp h;exact⟨0,as,rfl,rfl,b⟩
  ·obtain⟨j,bs,e,c,d⟩:=AZ L (i+1) q h;exact⟨j+1,bs,by lia,by simpa using c,d⟩
theorem Fu(h:c7 m most){q:Nat×bY}(b:q∈m.as):uv (AS m.ks) 3 q.2:=by
 obtain⟨j,as,e,a,c⟩:=AZ m.A 0 q b;unfold Md.A at a;rw[bG]at a;obtain⟨r,d,rfl⟩:=br a;exact HC (Wn h (cZ d)).ok q.2 c
theorem aat{n:Nat}{q:Nat×bY}(a:m.as[n]?=some q)(H:List ak):bR H (.lst (m.as.map eN)) (.int (n:Int))=some (eN q):=atI_nat (by rw[bG,a];rfl)
theorem QC(h:c7 m most)(a:most<=20):m.Ig.length=m.as.length:=(sY h a 12 (aA _)).2.len
theorem Wq(h:c7 m most)(a:most<=20){n:Nat}{l:List Nat}(b:m.Ig[n]?=some l):l.length<=2/\∀q∈l,q<m.as.length:=(sY h a 12 (aA _)).2.ok l (cZ b)
noncomputable def MV(a:bY):List Int:=(List.range a.m.toNat).map λi=>a.f+(i:Nat)*1
theorem HM(k:Nat){X:List Str}{Bd:Nat}(b:Bd<=500){q:Nat×bY}(ok:uv X Bd q.2):Gives (run txt (k+1) "touched" [eN q] []) (.lst ((MV q.2).map .int)):=by
 rw[Ap];have a:=ok.f0;have c:=ok.m0;have d:=ok.few;refine gV (rS (eB (cA (b2 rfl rfl rfl) (cA (b2 (b2 rfl rfl rfl) (b2 rfl rfl rfl) rfl) rfl)) (eB (s1:=S0 [some (eN q)]) ?_ rfl))) (xY _);show Option.map _ (if 0<=q.2.f/\q.2.f<=q.2.f+q.2.m/\q.2.f+q.2.m<=1000 then some (PyProof.Rows.rangeInts q.2.f 1 (q.2.f+q.2.m-q.2.f).toNat)else none)=_
 rw[if_pos ⟨a,by lia,by lia⟩,show q.2.f+q.2.m-q.2.f=q.2.m by lia]
 rfl
theorem QD{a:bY}{i:Int}(h:0<=a.m):i∈MV a↔a.f<=i/\i<a.f+a.m:=by
 unfold MV;rw[az];constructor
 ·rintro⟨n,b,rfl⟩
  have:=ez.mp b
  lia
 ·rintro⟨c,d⟩
  exact⟨(i-a.f).toNat,ez.mpr (by lia),by lia⟩
structure Fe where
 n:Nat
 x:Str
 l:Int
def kE(f:Fe):List bz:=[.inl (f.n:Int),.inr f.x,.inl f.l]
def tH(f:Fe):PV:=.ao [.int (f.n:Int),.str f.x,.int f.l]
theorem Se:∀l:List Fe,ai (l.map tH)=true
 | []=>rfl
 | f::l=>by simp[ai,noRef,tH,Se l]
theorem Fv{a:bY}{X:List Str}(ok:uv X 3 a):(MV a).length<=3:=by
 have b:=ok.f0;have c:=ok.m0;have d:=ok.few;rw[MV,aj,gD]
 lia
end
def MW(n:Nat):List PV:=(List.range n).map λi=>.ref i
def kU(A:List (List Nat)):List ak:=A.map (λl=>⟨.lst,l.map iN⟩)++[⟨.lst,MW A.length⟩]
def Sf(A:List (List Nat))(q n:Nat):List (List Nat):=A.set q ((A.getD q [])++[n])
structure yh (A:List (List Nat)) (N B:Nat):Prop where
 len:A.length=N
 few:∀l∈A,l.length<=B/\∀n∈l,n<N
def Of(A c:List (List Nat))(R:Nat->Nat->Prop):Prop:=∀(p:Nat) (l:List Nat),c[p]?=some l->∀a∈l,(∃b,A[p]?=some b/\a∈b)\/R a p
theorem Wr{A:List (List Nat)}{N B q n:Nat}(h:yh A N B)(g:q<N)(i:n<N):yh (Sf A q n) N (B+1)/\(∃l,(Sf A q n)[q]?=some l/\n∈l)/\(∀(p:Nat) (l:List Nat),A[p]?=some l->∃f,(Sf A q n)[p]?=some f/\(∀a∈l,a∈f))/\Of A (Sf A q n) (λa p=>a=n/\p=q):=by
 have c:q<A.length:=by rw[h.len];exact g
 have j:A.getD q []=A[q]:=by rw[Bm,bQ c];rfl
 have k:=h.few A[q] (vQ c);unfold Sf;rw[j];refine⟨⟨by rw[lA];exact h.len,λl d=>?_⟩,⟨_,gh c,by simp⟩,λp l hp=>?_,λp l hp a b=>?_⟩
 ·rcases List.mem_or_eq_of_mem_set d with z | rfl
  ·have:=h.few l z;exact⟨by lia,this.2⟩
  ·refine⟨by rw[aZ];simp;lia,λa b=>?_⟩
   rcases aX.mp b with b | b
   ·exact k.2 a b
   ·rw[ax.mp b];exact i
 ·by_cases e:q=p
  ·subst e;rw[bQ c]at hp;cases hp;exact⟨_,gh c,λa b=>dI _ b⟩
  ·exact⟨l,by rw[c9 e];exact hp,λa b=>b⟩
 ·by_cases e:q=p
  ·subst e;rw[gh c]at hp;cases hp;rcases aX.mp b with b | b
   ·exact .inl ⟨_,bQ c,b⟩
   ·exact .inr ⟨ax.mp b,rfl⟩
  ·rw[c9 e]at hp;exact .inl ⟨l,hp,b⟩
theorem QE(c:CT)(F:PV){A:List (List Nat)}{N B q n:Nat}(h:yh A N B)(m:B<=100000)(g:q<N)(d:PV):Ev (j6 c) ⟨[some F,some d,some (.ref N),some (iN n),some (iN q)],kU A⟩ .nx ⟨[some F,some d,some (.ref N),some (iN n),some (iN q)],kU (Sf A q n)⟩:=by
 have a:q<A.length:=by rw[h.len];exact g
 have i:A.getD q []=A[q]:=by rw[Bm,bQ a];rfl
 have o:=(h.few A[q] (vQ a)).1;have j:bR (kU A) (.ref N) (iN q)=some (.ref q):=by
  have l:cw (kU A) (.ref N)=some (.lst,MW A.length):=by
   show((kU A)[N]?).bind _=_;unfold kU;rw[iX (by rw[aj,h.len];exact aA _),aj,h.len,qB]
   rfl
  show(match cw (kU A) (.ref N)with
   | some (.ao,b)=>(kJ (iN q)).bind (L2.km b)
   | some (.lst,b)=>(kJ (iN q)).bind (L2.km b)
   | some (.fu t ks,b)=>(gM t (iN q)).bind λk=>eH k ks b
   | _=>none)=_
  rw[l];exact atI_nat (by unfold MW;rw[bG,lr a];rfl)
 have f:(kU A)[q]?=some ⟨.lst,A[q].map iN⟩:=by
  unfold kU;rw[cU (by rw[aj];exact a),bG,bQ a]
  rfl
 have e:(kU A).set q ⟨.lst,A[q].map iN++[iN n]⟩=kU (Sf A q n):=by
  unfold kU Sf;rw[List.set_append_left _ _ (by rw[aj];exact a),i,List.map_set,lA,cm]
  rfl
 refine dS (p:=.bj) (yy (b2 rfl rfl j) f (cA rfl rfl) ?_);rw[<-e];exact aC f (by rw[aj];lia)
def Mn(A c:List (List Nat)):Prop:=∀(p:Nat) (l:List Nat),A[p]?=some l->∃b,c[p]?=some b/\∀a∈l,a∈b
theorem Mn.trans{A B C:List (List Nat)}(h:Mn A B)(h':Mn B C):Mn A C:=λp l e=>by
 obtain⟨b,e1,c⟩:=h p l e;obtain⟨d,f,g⟩:=h' p b e1;exact⟨d,f,λa i=>g a (c a i)⟩
theorem Sg(c:CT)(F f:PV){N n:Nat}(w:n<N):∀(b:List Nat) (A:List (List Nat)) (B:Nat) (g:Option PV),yh A N B->(∀q∈b,q<N)->B+b.length<=100000 ->
  ∃d j,yh d N (B+b.length)/\(∀q∈b,∃l,d[q]?=some l/\n∈l)/\Mn A d/\Of A d (λa p=>a=n/\p∈b)/\dv (aV 4) (j6 c) (b.map iN) ⟨[some F,some f,some (.ref N),some (iN n),g],kU A⟩=some (.ok .nx,⟨[some F,some f,some (.ref N),some (iN n),j],kU d⟩)
 | [],A,B,g,h,_,_=>⟨A,g,h,λ_ z=>(nomatch z),λp l e=>⟨l,e,λ_ z=>z⟩,λp l e a k=>.inl ⟨l,e,k⟩,rfl⟩
 | q::b,A,B,g,h,m,y=>by
  rw[aN]at y ⊢;obtain⟨C,⟨l,D,o⟩,E,r⟩:=Wr h (m q aD) w;obtain⟨d,j,H,I,x,t,J⟩:=Sg c F f w b _ (B+1) (some (iN q)) C (λp hp=>m p (aG _ hp)) (by lia)
  refine⟨d,j,by rw[show B+(b.length+1)=B+1+b.length by lia];exact H,λp hp=>?_,Mn.trans E x,λp l e a k=>?_,fC rfl (QE c F h (by lia) (m q aD) f) J⟩
  rcases aF.mp hp with rfl | hp
  ·obtain⟨u,e,i⟩:=x p l D;exact⟨u,e,i n o⟩
  ·exact I p hp
  ·rcases t p l e a k with⟨u,L,M⟩ | ⟨e1,v⟩
   ·rcases r p u L a M with z | ⟨e1,v⟩
    ·exact .inl z
    ·exact .inr ⟨e1,v▸aD⟩
   ·exact .inr ⟨e1,aG _ v⟩
theorem Fw(c:CT)(F:PV){N:Nat}:∀(d:List (List Nat)) (i:Nat) (A:List (List Nat)) (B:Nat) (o r j:Option PV),yh A N B->i+d.length<=N->(∀b∈d,b.length<=2/\∀q∈b,q<N)->B+2*d.length<=100000 ->
  ∃f u v w,yh f N (B+2*d.length)/\(∀(k:Nat) (b:List Nat),d[k]?=some b->∀q∈b,∃l,f[q]?=some l/\i+k∈l)/\Mn A f/\Of A f (λa p=>∃k b,d[k]?=some b/\a=i+k/\p∈b)/\dv (gj 2 (cR (aV 3) (cR (aV 1) lK))) (se c) (dZ i (d.map nT)) ⟨[some F,o,some (.ref N),r,j],kU A⟩=some (.ok .nx,⟨[some F,u,some (.ref N),v,w],kU f⟩)
 | [],i,A,B,o,r,j,h,_,_,_=>⟨A,o,r,j,h,λ_ _ z=>(nomatch z),λp l e=>⟨l,e,λ_ z=>z⟩,λp l e a x=>.inl ⟨l,e,x⟩,rfl⟩
 | b::d,i,A,B,o,r,j,h,L,E,M=>by
  rw[aN]at L M ⊢;obtain⟨l1,Q⟩:=E b aD;obtain⟨R,T,y,X,Y,C,Z⟩:=Sg c F (nT b) (show i<N by lia) b A B j h Q (by lia)
  obtain⟨f,u,v,w,k5,k6,H,D,k8⟩:=Fw c F d (i+1) R (B+2) (some (nT b)) (some (iN i)) T ⟨y.len,λl t=>⟨by have:=(y.few l t).1;lia,(y.few l t).2⟩⟩ (by lia) (λl t=>E l (aG _ t)) (by lia)
  refine⟨f,u,v,w,by rw[show B+2*(d.length+1)=B+2+2*d.length by lia];exact k5,λk l hk q I=>?_,Mn.trans Y H,λp l e a x=>?_,?_⟩
  ·cases k with
   | zero =>
    cases hk;obtain⟨l,e,hn⟩:=X q I;obtain⟨g,m,i'⟩:=H q l e;exact⟨g,m,i' _ hn⟩
   | succ k =>
    obtain⟨g,m,h'⟩:=k6 k l hk q I;exact⟨g,m,by rw[show i+(k+1)=i+1+k by lia];exact h'⟩
  ·rcases D p l e a x with⟨g,m,Oi⟩ | ⟨k,g,e1,J,e3⟩
   ·rcases C p g m a Oi with z | ⟨e1,J⟩
    ·exact .inl z
    ·exact .inr ⟨0,b,rfl,e1,J⟩
   ·exact .inr ⟨k+1,g,e1,by lia,e3⟩
  ·exact fC (s1:=⟨[some F,some (nT b),some (.ref N),some (iN i),j],kU A⟩) rfl (fS (sV rfl rfl) Z) k8
theorem Fx(ρ:List (Option PV)):∀(ps:List PV) (h:List ak),dJ (lM (aV 1) Qh (bM [none,none] ρ)) ps h=some ((List.range ps.length).map (λi=>PV.ref (h.length+i)),h++List.replicate ps.length ⟨.lst,[]⟩)
 | [],h=>by simp[dJ]
 | p::ps,h=>by
  have e:=Fx ρ ps (h++[⟨.lst,[]⟩]);show(dJ _ ps (h++[⟨.lst,[]⟩])).map _=_;rw[e];show some (PV.ref h.length::_,_)=_;rw[aN,Bu,aI,c6,List.replicate_succ,dA]
  congr 2
  congr 1
  apply BG;intro i _;simp
  lia
def ahP(A:List (List Nat)):PV:=.lst (A.map λl=>.lst (l.map iN))
theorem Ws(A:List (List Nat)):kL (kU A) (.ref A.length)=some (ahP A):=by
 have b:(kU A).isEmpty=false:=by unfold kU;cases A<;>rfl
 have one:∀(i:Nat) (l:List Nat),A[i]?=some l->oJ (kU A) 3 (.ref i)=some (.lst (l.map iN)):=λi l e=>by
  have c:=(bu.mp e).1;unfold oJ;rw[if_neg (by simp[noRef])]
  show((kU A)[i]?).bind _=_;rw[show(kU A)[i]?=some ⟨.lst,l.map iN⟩from by unfold kU;rw[cU (by rw[aj];exact c),bG,e];rfl,cH]
  show(if live ⟨.lst,l.map iN⟩=true then(cb (oJ (kU A) 2) (l.map iN)).map (PV.nd .lst)else none)=_
  rw[if_pos (show live ⟨.lst,l.map iN⟩=true from rfl),AE _ (mL l)]
  rfl
 have all:∀(a:List (List Nat)) (k:Nat),(∀i l,a[i]?=some l->A[k+i]?=some l)->cb (oJ (kU A) 3) ((List.range' k a.length).map λi=>PV.ref i)=some (a.map λl=>.lst (l.map iN)):=λa=>by
  induction a with
  | nil=>intro k _;rfl
  | cons l a ih =>
   intro k hk;rw[aN,List.range'_succ,aI,cb,one k l (hk 0 l rfl),ih (k+1) λi d e=>by rw[show k+1+i=k+(i+1) by lia];exact hk (i+1) d e]
   rfl
 have f:=all A 0 λi l e=>by rw[eS];exact e
 unfold kL;rw[b,if_neg c5];unfold oJ;rw[if_neg (by simp[noRef])]
 show((kU A)[A.length]?).bind _=_;rw[show(kU A)[A.length]?=some ⟨.lst,MW A.length⟩from by unfold kU;rw[iX (by rw[aj];exact aA _),aj,qB];rfl,cH]
 show(if live ⟨.lst,MW A.length⟩=true then(cb (oJ (kU A) 3) (MW A.length)).map (PV.nd .lst)else none)=_
 rw[if_pos (show live ⟨.lst,MW A.length⟩=true from rfl),show MW A.length=(List.range' 0 A.length).map λi=>PV.ref i by unfold MW;rw[List.range_eq_range'],f]
 rfl
section
variable {m:Md} {most:Nat}
abbrev RW(m:Md):PV:=.lst (m.as.map eN)
abbrev AF(m:Md):PV:=.lst (m.Ig.map nT)
structure Ahd (m:Md) (A:List (List Nat)):Prop where
 ok:yh A m.as.length 400
 all:∀(n:Nat) (ls:List Nat),m.Ig[n]?=some ls->∀q∈ls,∃l,A[q]?=some l/\n∈l
 only : ∀(q:Nat) (l:List Nat),A[q]?=some l->∀n∈l,∃ls,m.Ig[n]?=some ls/\q∈ls
theorem QF(k:Nat)(h:c7 m most)(o:most<=20):∃A,Ahd m A/\Gives (run txt (k+1) "acts_ahead" [AF m] []) (ahP A):=by
 have a:=kc h;have p:=QC h o;have f:∀N,yh (List.replicate N []) N 0:=λN=>⟨by simp,λl a=>by rw[(List.mem_replicate.mp a).2];exact⟨aA _,λ_ z=>nomatch z⟩⟩
 obtain⟨A,C,D,E,b,t,_,u,v⟩:=Fw (run txt k) (AF m) m.Ig 0 (List.replicate m.as.length []) 0 none none none (f _) (by rw[p];lia) (λc g=>by
   obtain⟨n,j,rfl⟩:=qj g;exact Wq h o (bQ j)) (by lia)
 refine⟨A,⟨⟨b.len,λl a=>⟨by have:=(b.few l a).1;lia,(b.few l a).2⟩⟩,λn c e q w=>by obtain⟨l,e1,d⟩:=t n c e q w;exact⟨l,e1,by rw[eS]at d;exact d⟩,λq l e n j=>by
  rcases u q l e n j with⟨H,x,r⟩ | ⟨k,c,e1,d,y⟩
  ·rw[(List.mem_replicate.mp (cZ x)).2]at r;cases r
  ·exact⟨c,by rw[d,eS];exact e1,y⟩⟩,?_⟩
 rw[sg];have B:Ev (di true [none,none] (jF (rd 0)) (lM (aV 1) Qh)) ⟨[some (AF m),none,none,none,none],[]⟩ (.ref m.as.length) ⟨[some (AF m),none,none,none,none],kU (List.replicate m.as.length [])⟩:=by
  refine eB (sV rfl rfl) ?_;show((if(m.Ig.map nT).length<=fD then dJ _ (m.Ig.map nT) []else none).bind _)=_
  rw[if_pos (show(m.Ig.map nT).length<=fD by rw[aj];have:fD=4000000:=rfl;lia),Fx,aj,p]
  show kG ⟨.lst,_⟩ ⟨_,[]++List.replicate m.as.length ⟨.lst,[]⟩⟩=_;have e1:kU (List.replicate m.as.length [])=List.replicate m.as.length ⟨.lst,[]⟩++[⟨.lst,(List.range m.as.length).map λi=>PV.ref (([]:List ak).length+i)⟩]:=by
   unfold kU MW;rw[List.map_replicate,Bw]
   congr 3
   simp
  rw[e1];show some (Rs.ok (PV.ref ([]++List.replicate m.as.length (⟨.lst,[]⟩:ak)).length),_)=_;rw[fK,Bw]
 have e:=Ws A;rw[b.len]at e;exact⟨.ref m.as.length,_,j4 (sq (aS B rfl) (sq (fS (sG (eV rfl rfl)) v) (rS rfl))),e⟩
end
abbrev pL(q:Str×Int):PV:=.ao [.str q.1,.int q.2]
def lnd(a:bY):Bool:=(Str.ofString "lend"==a.w) || ((Str.ofString "sole"==a.w) || false)
def HN(r:Nat)(q:Nat×bY):List (Str×Int):=if((q.1==r)&&lnd q.2)=true then(List.range q.2.m.toNat).map fun(i:Nat)=>(q.2.k,(i:Int))else []
def Ih(as:List (Nat×bY))(r:Nat):List (Str×Int):=as.flatMap (HN r)
theorem aaw(l:Nat):nh l=iN l:=by unfold nh iN;rw[jP]
theorem yi(k:Nat)(q:Nat×bY):Gives (run txt (k+1) "is_lending" [eN q] []) (.bl (lnd q.2)):=by
 rw[r9];exact gV (rS (b2 (b2 rfl rfl rfl) rfl rfl)) rfl
section
variable {m:Md} {most:Nat}
theorem Mg{X:List Str}(r:Nat){q:Nat×bY}(ok:uv X 3 q.2):(HN r q).length<=3:=by
 unfold HN;split
 ·rw[aj,gD];have:=ok.f0;have:=ok.few;have:=ok.m0;lia
 ·simp
theorem Fy(k:Nat){X:List Str}(R:Option PV)(r:Nat):∀(as:List (Nat×bY)) (acc:List (Str×Int)) (a:Option PV),(∀q∈as,uv X 3 q.2)->acc.length+3*as.length<=100000 ->
  ∃c,dv (aV 3) (Dk (run txt (k+1))) (as.map eN) ⟨[R,some (iN r),some (.ref 0),a],[⟨.lst,acc.map pL⟩]⟩=some (.ok .nx,⟨[R,some (iN r),some (.ref 0),c],[⟨.lst,(acc++Ih as r).map pL⟩]⟩)
 | [],acc,a,_,_=>⟨a,by simp[Ih];rfl⟩
 | q::as,acc,a,ok,d=>by
  rw[aN]at d;have o:=ok q aD;have h:=Mg r o;obtain⟨c,e⟩:=Fy k R r as (acc++HN r q) (some (eN q)) (λp hp=>ok p (aG _ hp)) (by rw[aZ];lia)
  refine⟨c,?_⟩;rw[show Ih (q::as) r=HN r q++Ih as r from dQ ..,<-dA]
  refine fC (s1:=⟨[R,some (iN r),some (.ref 0),some (eN q)],[⟨.lst,acc.map pL⟩]⟩) rfl ?_ e;have t:Ek (dN Qr (fX (bnd Qe (cC 0 1 (run txt (k+1) "is_lending")))) (aW false)) ⟨[R,some (iN r),some (.ref 0),some (eN q)],[⟨.lst,acc.map pL⟩]⟩ ((q.1==r)&&lnd q.2):=by
   have e1:iL [⟨.lst,acc.map pL⟩] (.int (q.1:Int)) (iN r)=some (.bl (q.1==r)):=by
    show some (PV.bl ((q.1:Int)==(r:Int)))=_
    congr 2
    rw[Bool.eq_iff_iff,qE,qE]
    lia
   have b:=(bT (b2 (b2 rfl rfl rfl) rfl e1):Ev Qr ⟨[R,some (iN r),some (.ref 0),some (eN q)],[⟨.lst,acc.map pL⟩]⟩ (q.1==r) _);cases z:(q.1==r)with
   | false=>rw[z]at b;exact iF b rfl
   | true=>rw[z]at b;exact iT b (tB (de (as:=[eN q]) (cA rfl rfl) rfl (by simp[ai,noRef,eN,jq]) (yi k q)))
  cases z:((q.1==r)&&lnd q.2)with
  | false =>
   rw[z]at t;have:HN r q=[]:=by unfold HN;rw[z];rfl
   rw[this,dB];exact iF t rfl
  | true =>
   rw[z]at t;have f:HN r q=(List.range q.2.m.toNat).map fun(i:Nat)=>(q.2.k,(i:Int)):=by unfold HN;rw[z];rfl
   refine iT t (dS (p:=.bj) (yy (s2:=⟨[R,some (iN r),some (.ref 0),some (eN q)],[⟨.lst,acc.map pL⟩]⟩) rfl rfl (cA (x:=.lst ((HN r q).map pL)) ?_ rfl) ?_))
   ·rw[f,c6];have g:PV.int q.2.m=iN q.2.m.toNat:=by show PV.int q.2.m=PV.int ((q.2.m.toNat:Nat):Int);rw[lq o.m0]
    have:=o.few;have:=o.f0;refine cM (l:=List.range q.2.m.toNat) (e:=nh) (mN (j:=q.2.m.toNat) (cA (b2 rfl rfl (by rw[<-g];rfl)) rfl) (by lia)) (by rw[gD];lia) λi _=>?_
    rw[aaw];exact e1 (rp:=[none,some (iN i),some (eN q)]) (h1:=[⟨.lst,acc.map pL⟩]) rfl (tU (ps:=[.str q.2.k,iN i]) (cA (b2 rfl rfl rfl) (cA rfl rfl)) (by simp))
   ·rw[cm];exact xC (n:=0) rfl rfl (by rw[aj,aj];lia)
theorem FA:∀l:List (Str×Int),ai (l.map pL)=true
 | []=>rfl
 | _::l=>by rw[aI,ai,FA l];rfl
theorem Mh(k:Nat)(h:c7 m most)(b:most<=20)(r:Nat):Gives (run txt (k+2) "handed" [RW m,iN r] []) (.lst ((Ih m.as r).map pL)):=by
 rw[Dl];have c:=kc h;obtain⟨d,e⟩:=Fy k (some (RW m)) r m.as [] none (λq a=>Fu h a) (by simp;lia)
 rw[fK]at e;exact⟨.ref 0,_,j4 (sq rfl (sq (fS (sV rfl rfl) e) (rS rfl))),DE rfl (FA _)⟩
def HP(m:Md)(q:Nat×bY):List (Str×Int):=if(q.2.w==Str.ofString "hand")=true then Ih m.as q.1 else if q.2.t=true then(MV q.2).map λi=>(q.2.n,i)else []
theorem A0:∀l:List (Nat×bY),ai (l.map eN)=true
 | []=>rfl
 | q::l=>by rw[aI,ai,A0 l];rfl
theorem A2(k:Nat)(h:c7 m most)(c:most<=20){q:Nat×bY}(d:q∈m.as):Gives (run txt (k+3) "needed_by" [RW m,eN q] []) (.lst ((HP m q).map pL)):=by
 rw[uo];have o:=Fu h d;have f:=Mh k h c q.1;have ht:=HM (k+1) (by decide) o
 have a:Ek (toB (op2 iL Q2 (kS "hand"))) (S0 [some (RW m),some (eN q)]) (q.2.w==Str.ofString "hand"):=bT (b2 (b2 rfl rfl rfl) rfl (fA _ _ _));unfold HP;cases z:(q.2.w==Str.ofString "hand")with
 | true =>
  rw[z]at a;exact gV (yx (iT a (rS (de (as:=[RW m,iN q.1]) (cA rfl (cA (b2 rfl rfl rfl) rfl)) rfl (by simp[ai,noRef,A0,iN]) f)))) (FA _)
 | false =>
  rw[z]at a;have b:Ek (zd (fX (op2 bR (rd 1) (kI 3)))) (S0 [some (RW m),some (eN q)]) (!q.2.t):=nB (tB (b2 rfl rfl rfl));cases y:q.2.t with
  | false=>rw[y]at b;exact gV (sq (iF a rfl) (yx (iT b (rS (p:=.lst []) rfl)))) rfl
  | true =>
   rw[y]at b;refine gV (G8:=[some (RW m),some (eN q)]) (h':=[]) (sq (iF a rfl) (sq (iF b rfl) (rS (p:=.lst (((MV q.2).map λi=>(q.2.n,i)).map pL)) ?_))) (FA _)
   rw[c6];exact cM (l:=MV q.2) (e:=PV.int) (sV (de (as:=[eN q]) (cA rfl rfl) rfl (by simp[ai,noRef,eN,jq]) ht) rfl) (by have:=Fv o;lia) λi _=>e1 (rp:=[none,some (.int i),some (eN q)]) (h1:=[]) rfl (tU (ps:=[.str q.2.n,.int i]) (cA (b2 rfl rfl rfl) (cA rfl rfl)) (by simp))
end
noncomputable def Wt:List bz->Option Fe
 | [.inl n,.inr x,.inl l]=>if 0<=n then some ⟨n.toNat,x,l⟩else none
 | _=>none
theorem mZ(f:Fe):Wt (kE f)=some f:=by
 show(if 0<=(f.n:Int)then some (Fe.mk (f.n:Int).toNat f.x f.l)else none)=_
 rw[if_pos (by lia),gB]
theorem m4{k:List bz}{f:Fe}(h:Wt k=some f):k=kE f:=by
 rcases k with _ | ⟨n | _,_ | ⟨_ | x,_ | ⟨l | _,_ | _⟩⟩⟩<;>first | (cases h;done) | skip
 obtain⟨a,h⟩:=bP h;cases h;unfold kE;rw[show((Int.toNat _:Nat):Int)=_ from lq a]
section
variable {m:Md} {most:Nat} {A:List (List Nat)}
def yj(m:Md)(x:Str)(n:Nat):Bool:=match m.as[n]? with | some q=>!(q.2.k==x) | none=>false
def MX(m:Md)(l:List Nat)(f:Fe):List Fe:=(l.filter (yj m f.x)).map λn=>⟨n,f.x,f.l⟩
def sZ(m:Md)(A:List (List Nat))(k:List bz):Option (List (List bz)):=(Wt k).bind λf=>(A[f.n]?).map λl=>(MX m l f).map kE
def naP(m:Md)(f:Fe):PV->Option PV
 | .int i=>if yj m f.x i.toNat=true then some (tH ⟨i.toNat,f.x,f.l⟩)else none
 | _=>none
theorem Si(m:Md)(f:Fe)(n:Nat):naP m f (iN n)=if yj m f.x n=true then some (tH ⟨n,f.x,f.l⟩)else none:=by
 show(if yj m f.x ((n:Int).toNat)=true then some (tH ⟨(n:Int).toNat,f.x,f.l⟩)else none)=_
 rw[gB]
theorem Mi(m:Md)(f:Fe):∀l:List Nat,(l.map iN).filterMap (naP m f)=(MX m l f).map tH
 | []=>rfl
 | n::l=>by
  rw[aI,jL,Mi m f l,Si];unfold MX;rw[vO];cases yj m f.x n<;>rfl
theorem td(k:Nat){l:List Nat}(g:l.length<=1000)(b:∀n∈l,n<m.as.length)(f:Fe):Gives (run txt (k+1) "needed_ahead" [RW m,.lst (l.map iN),tH f] []) (.lst ((MX m l f).map tH)):=by
 rw[oi,<-Mi];have nr:=Se (MX m l f);rw[<-Mi]at nr;refine gV (G8:=[some (RW m),some (.lst (l.map iN)),some (tH f)]) (h':=[]) (rS (cQ (s1:=S0 [some (RW m),some (.lst (l.map iN)),some (tH f)]) (sV rfl rfl) (by rw[aj];lia) λp hp=>?_)) nr
 obtain⟨n,c,rfl⟩:=az.mp hp;obtain⟨q,a⟩:∃q,m.as[n]?=some q:=⟨_,bQ (b n c)⟩
 have d:∀H,bR H (RW m) (iN n)=some (eN q):=λH=>aat a H
 have e:yj m f.x n = !(q.2.k==f.x):=by unfold yj;rw[a]
 have t:Ek (toB (op2 JF (op2 bR (op2 bR (rd 3) (rd 1)) (kI 6)) Qs)) ⟨[none,some (iN n),some (tH f),some (RW m)],[]⟩ (!(q.2.k==f.x)):=bT (b2 (b2 (b2 rfl rfl (d _)) rfl rfl) (b2 rfl rfl rfl) rfl);rw[Si,e];cases z:(q.2.k==f.x)with
 | true=>rw[z]at t;exact G9 (rp:=[none,some (iN n),some (tH f),some (RW m)]) rfl t
 | false=>rw[z]at t;exact MS (rp:=[none,some (iN n),some (tH f),some (RW m)]) rfl t (tU (ps:=[iN n,.str f.x,.int f.l]) (cA rfl (cA (b2 rfl rfl rfl) (cA (b2 rfl rfl rfl) rfl))) (by simp))
def Wu(m:Md)(n:Nat)(q:Nat×bY):List Fe:=(HP m q).map λy=>⟨n,y.1,y.2⟩
def A3(m:Md):Nat->List (Nat×bY)->List Fe
 | _,[]=>[]
 | i,q::as=>Wu m i q++A3 m (i+1) as
theorem Mj(h:c7 m most)(r:Nat):∀l:List (Nat×bY),(∀q∈l,q∈m.as)->(Ih l r).length<=3*l.length/\∀y∈Ih l r,(∃q∈m.as,y.1=q.2.k)/\0<=y.2/\y.2<3
 | [],_=>⟨by simp[Ih],λ_ z=>nomatch z⟩
 | q::l,b=>by
  obtain⟨f,d⟩:=Mj h r l λp hp=>b p (aG _ hp)
  have c:=b q aD;have o:=Fu h c;have g:=Mg r o;rw[show Ih (q::l) r=HN r q++Ih l r from dQ ..]
  refine⟨by rw[aZ,aN];lia,λy a=>?_⟩
  rcases aX.mp a with a | a
  ·unfold HN at a;split at a
   ·obtain⟨i,e,rfl⟩:=az.mp a;rw[ez]at e;have:=o.few;have:=o.f0;exact⟨⟨q,c,rfl⟩,by show(0:Int)<=(i:Int);lia,by show(i:Int)<3;lia⟩
   ·cases a
  ·exact d y a
theorem Sj(h:c7 m most){q:Nat×bY}(c:q∈m.as):(HP m q).length<=3*m.as.length+3/\∀y∈HP m q,(∃p∈m.as,y.1=p.2.n\/y.1=p.2.k)/\0<=y.2/\y.2<3:=by
 have o:=Fu h c;obtain⟨g,d⟩:=Mj h q.1 m.as λ_ z=>z
 unfold HP;split
 ·exact⟨by lia,λy a=>by obtain⟨⟨p,hp,e⟩,b⟩:=d y a;exact⟨⟨p,hp,.inr e⟩,b⟩⟩
 ·split
  ·refine⟨by rw[aj];have:=Fv o;lia,λy a=>?_⟩
   obtain⟨i,f,rfl⟩:=az.mp a;have:=(QD o.m0).mp f;have:=o.few;have:=o.f0;exact⟨⟨q,c,.inl rfl⟩,by show(0:Int)<=i;lia,by show i<3;lia⟩
  ·exact⟨by simp,λ_ z=>nomatch z⟩
end
section
variable {m:Md} {most:Nat} {A:List (List Nat)}
theorem yk{d e:Type}{c:Nat}{f:d->List e}:∀l:List d,(∀a∈l,(f a).length=c)->(l.flatMap f).length=l.length*c
 | [],_=>by simp
 | a::l,h=>by
  rw[dQ,aZ,h a aD,yk l λb g=>h b (aG _ g),aN,Nat.add_mul]
  lia
def XN(m:Md):List Str:=m.as.map (·.2.n)++m.as.map (·.2.k)
def UN(m:Md):List (List bz):=(List.range m.as.length).flatMap λn=>(XN m).flatMap λx=>(List.range 3).map fun(l:Nat)=>kE ⟨n,x,(l:Int)⟩
structure Xb (m:Md) (f:Fe):Prop where
 n:f.n<m.as.length
 x:f.x∈XN m
 l:0<=f.l/\f.l<3
theorem Ml(h:c7 m most)(b:most<=20):(UN m).length<=126*(252*3):=by
 have c:=kc h;have e:(UN m).length=m.as.length*((XN m).length*3):=by
  refine(yk _ λn _=>?_).trans (by rw[gD])
  exact yk _ λx _=>by simp
 have a:(XN m).length=2*m.as.length:=by unfold XN;rw[aZ,aj,aj];lia
 rw[e,a];exact Nat.mul_le_mul (by lia) (by lia)
theorem DO{f:Fe}(h:Xb m f):kE f∈UN m:=by
 obtain⟨a,b,c⟩:=h;refine dR.mpr ⟨f.n,ez.mpr a,dR.mpr ⟨f.x,b,az.mpr ⟨f.l.toNat,ez.mpr (by lia),?_⟩⟩⟩
 rw[lq c.1]
theorem Sk{k:List bz}(h:k∈UN m):∃f,k=kE f/\Xb m f:=by
 obtain⟨n,a,h⟩:=dR.mp h;obtain⟨x,b,h⟩:=dR.mp h;obtain⟨l,c,rfl⟩:=az.mp h;rw[ez]at c a;exact⟨_,rfl,a,b,by show(0:Int)<=(l:Int);lia,by show(l:Int)<3;lia⟩
theorem FC(m:Md):∀(as:List (Nat×bY)) (i:Nat) (f:Fe),f∈A3 m i as↔∃k q,as[k]?=some q/\f∈Wu m (i+k) q
 | [],i,f=>⟨λz=>(nomatch z),λ⟨_,_,e,_⟩=>by simp at e⟩
 | q::as,i,f=>by
  rw[A3,aX,FC m as (i+1) f];constructor
  ·rintro(h | ⟨k,p,e,h⟩)
   ·exact⟨0,q,rfl,h⟩
   ·exact⟨k+1,p,e,by rw[show i+(k+1)=i+1+k by lia];exact h⟩
  ·rintro⟨k,p,e,h⟩
   cases k with
   | zero=>cases e;exact .inl h
   | succ k=>exact .inr ⟨k,p,e,by rw[show i+(k+1)=i+1+k by lia]at h;exact h⟩
theorem aax(h:c7 m most){f:Fe}(a:f∈A3 m 0 m.as):Xb m f:=by
 obtain⟨k,q,e,a⟩:=(FC m m.as 0 f).mp a;obtain⟨y,c,rfl⟩:=az.mp a;obtain⟨⟨p,hp,z⟩,b⟩:=(Sj h (cZ e)).2 y c;refine⟨by show 0+k<_;rw[eS];exact(bu.mp e).1,?_,b⟩
 rcases z with z | z
 ·exact dI _ (az.mpr ⟨p,hp,z.symm⟩)
 ·exact bW _ (az.mpr ⟨p,hp,z.symm⟩)
theorem FD(k:Nat)(h:c7 m most)(j:most<=20)(P I a:Option PV):∀(as:List (Nat×bY)) (i:Nat) (acc:List Fe) (c d:Option PV),(∀q∈as,q∈m.as)->acc.length+400*as.length<=1000000 ->
  ∃f g,dv Qo (vi (run txt (k+3))) (dZ i (as.map eN)) ⟨[P,I,some (.ref 0),c,d,a,some (RW m)],[⟨.lst,acc.map tH⟩]⟩=some (.ok .nx,⟨[P,I,some (.ref 0),f,g,a,some (RW m)],[⟨.lst,(acc++A3 m i as).map tH⟩]⟩)/\(A3 m i as).length<=400*as.length
 | [],i,acc,c,d,_,_=>⟨c,d,by rw[A3,dB];rfl,by simp[A3]⟩
 | q::as,i,acc,c,d,o,t=>by
  rw[aN]at t ⊢;have b:=o q aD;have w:=kc h;have u:=(Sj h b).1;have v:(Wu m i q).length<=400:=by unfold Wu;rw[aj];lia
  obtain⟨f,g,e,B⟩:=FD k h j P I a as (i+1) (acc++Wu m i q) (some (iN i)) (some (eN q)) (λp hp=>o p (aG _ hp)) (by rw[aZ];lia)
  refine⟨f,g,?_,by rw[A3,aZ];lia⟩
  rw[A3,<-dA];have r:=A2 k h j b;refine fC (s1:=⟨[P,I,some (.ref 0),some (iN i),some (eN q),a,some (RW m)],[⟨.lst,acc.map tH⟩]⟩) rfl (dS (p:=.bj) (yy (s2:=⟨[P,I,some (.ref 0),some (iN i),some (eN q),a,some (RW m)],[⟨.lst,acc.map tH⟩]⟩) rfl rfl (cA (x:=.lst ((Wu m i q).map tH)) ?_ rfl) ?_)) e
  ·unfold Wu;rw[c6];exact cM (l:=HP m q) (e:=pL) (sV (de (as:=[RW m,eN q]) (cA rfl (cA rfl rfl)) rfl (by simp[ai,noRef,A0,eN,jq]) r) rfl) (by lia) λy _=>e1 (rp:=[none,some (.str y.1),some (.int y.2),some (iN i)]) (h1:=[⟨.lst,acc.map tH⟩]) rfl (tU (ps:=[iN i,.str y.1,.int y.2]) (cA rfl (cA rfl (cA rfl rfl))) (by simp))
  ·rw[cm];exact xC (n:=0) rfl rfl (by rw[aj,aj];lia)
end
section
variable {m:Md} {most:Nat}
structure HQ (m:Md) (A:List (List Nat)) (ag:dz):Prop where
 ah:Ahd m A
 ok:∀t∈ag,∃f,t.1=kE f/\Xb m f
 nd:(ag.map (·.1)).Nodup
 done:Hb (sZ m A) ag ag.length
 why:VJ (sZ m A) ((A3 m 0 m.as).map kE) ag
 fst:∀f∈A3 m 0 m.as,kE f∈ag.map (·.1)
theorem aay{A:List (List Nat)}(T:Ahd m A){f:Fe}(a:Xb m f):∃l,A[f.n]?=some l/\sZ m A (kE f)=some ((MX m l f).map kE)/\(MX m l f).length<=400/\l.length<=400/\(∀n∈l,n<m.as.length)/\∀g∈MX m l f,Xb m g:=by
 have b:f.n<A.length:=by rw[T.ok.len];exact a.n
 have he:=bQ b;obtain⟨c,d⟩:=T.ok.few A[f.n] (vQ b);refine⟨A[f.n],he,?_,?_,c,d,λg e=>?_⟩
 ·unfold sZ;rw[mZ,cH,he];rfl
 ·unfold MX;rw[aj];exact bK (By ..) c
 ·obtain⟨n,h,rfl⟩:=az.mp e;exact⟨d n (b7.mp h).1,a.x,a.l⟩
theorem QG(k:Nat)(hk:14<=k)(h:c7 m most)(i:most<=20):∃A d,Gives (run txt (k+4) "needs" [m.prog,.int 1] []) (.lst (d.map toldP))/\HQ m A d:=by
 obtain⟨A,j,o⟩:=QF (k+2) h i;have hU:=Ml h i;have hl:=kc h;obtain⟨D,E,e,N⟩:=FD k h i (some m.prog) (some (.int 1)) (some (ahP A)) m.as 0 [] none none (λ_ z=>z) (by simp;lia)
 rw[fK]at e;obtain⟨d,Q,T,X,Y,Z,t6⟩:=Di (sZ m A) ((A3 m 0 m.as).map kE) (UN m) 400 (by show _<4000000;lia) (by show _<3000000;lia) (λg a=>by
  obtain⟨f,rfl,b⟩:=Sk a;obtain⟨l,h1,h2,h3,_,_,h4⟩:=aay j b;refine⟨_,h2,λk' u=>?_,by rw[aj];exact h3⟩
  obtain⟨v,c,rfl⟩:=az.mp u;exact DO (h4 v c)) (λk' u=>by
  obtain⟨f,b,rfl⟩:=az.mp u;exact DO (aax h b))
 refine⟨A,d,?_,⟨j,λt ht=>Sk (X t ht),T,Z,Y,λf b=>t6 _ (az.mpr ⟨f,b,rfl⟩)⟩⟩
 rw[Hj];have w:Gives (run txt (k+3) "acts" [m.prog,.int 1] []) (RW m):=yg h (by lia) (k+2) (by lia)
 have x:Gives (run txt (k+3) "nexts" [m.prog,.int 1] []) (AF m):=(sY h i (k+1) (by lia)).1
 have I:∀g (fs:List (List bz)),sZ m A g=some fs->∃(q:Nat) (l:List Nat),(∀H,bR H (dP g) (.int 0)=some (.int (q:Int)))/\A[q]?=some l/\l.length<=400/\Gives (run txt (k+3) "needed_ahead" [RW m,.lst (l.map iN),dP g] []) (.lst (fs.map dP)):=λg fs a=>by
  unfold sZ at a;obtain⟨f,J,y⟩:=aR a;obtain⟨l,B,rfl⟩:=br y;cases m4 J;obtain⟨f1,f2⟩:=j.ok.few l (cZ B);refine⟨f.n,l,λ_=>rfl,B,f1,?_⟩
  have:=td (k+2) (by lia) f2 f
  rw[c6];exact this
 have L:∀{n:Nat} {l:List Nat},A[n]?=some l->∀H,bR H (ahP A) (.int (n:Int))=some (.lst (l.map iN)):=λe H=>atI_nat (by rw[bG,e];rfl)
 have nP:=Ft h;have M:noRef (RW m)=true:=by simp[noRef,A0]
 have fR:tZ (RW m)=some (m.as.map eN):=rfl;obtain⟨P,hP⟩:=nw m.prog;rw[<-hP]at w x nP e ⊢
 generalize RW m=R at w e I M fR
 generalize AF m=F at x o
 generalize hAP:ahP A=AP at o e L
 have r:=VW (fe:=rd 2) (fb:=bnd Qd (cC 0 3 (run txt (k+3) "needed_ahead"))) (link:=[some 5,some 6]) (s:=⟨[some P,some (.int 1),some (.ref 0),D,E,some AP,some R],[⟨.lst,(A3 m 0 m.as).map tH⟩]⟩) (s1:=⟨[some P,some (.int 1),some (.ref 0),D,E,some AP,some R],[⟨.lst,(A3 m 0 m.as).map tH⟩]⟩) (p:=.ref 0) (fk:=(A3 m 0 m.as).map kE) (res:=d) rfl (.inr ⟨0,rfl,by rw[c6];rfl⟩) (PD (k+2)) (VX (k+3)) (λf b=>by
  obtain⟨v,_,rfl⟩:=az.mp b;show 3<1000;decide) (by
  rw[aj]
  lia) Q (λg fs a=>by
  obtain⟨n,l,g0,g1,gl,g3⟩:=I g fs a;refine⟨λv c=>?_,λC=>⟨some (dP g)::[some AP,some R],?_⟩⟩
  ·unfold sZ at a;obtain⟨f,J,y⟩:=aR a;obtain⟨l',B,rfl⟩:=br y;obtain⟨f'',_,rfl⟩:=az.mp c;show 3<1000;decide
  ·exact de (as:=[R,.lst (l.map iN),dP g]) (cA rfl (cA (b2 rfl (b2 rfl rfl (g0 _)) (L g1 _)) (cA rfl rfl))) rfl (by simp[ai,noRef,M,mL,Pp]) g3)
 refine⟨.ref 2,_,j4 (sq (aS (de (as:=[P,.int 1]) (cA rfl (cA rfl rfl)) rfl rfl w) rfl) (sq (aS (de (as:=[F]) (cA (de (as:=[P,.int 1]) (cA rfl (cA rfl rfl)) rfl rfl x) rfl) rfl rfl o) rfl) (sq rfl (sq (fS (sG (eV rfl fR)) e) (rS r))))),?_⟩;exact DE (n:=2) (ZV (hd:=[⟨.lst,(A3 m 0 m.as).map tH⟩,mx])) (E4 d)
end
theorem A4:∀(A B:List (List bY)) (i:Nat),dY i (A++B)=dY i A++dY (i+A.length) B
 | [],_,_=>rfl
 | a::A,B,i=>by rw[qu,dY,dY,A4 A B (i+1),dA,aN,Nat.add_right_comm,vZ]
theorem yl(as:List bY):∃a l,cf as=a::l:=by cases as with | nil=>exact⟨_,_,rfl⟩ | cons a l=>exact⟨_,_,rfl⟩
theorem oy:∀(as:List (Nat×bY)) (i:Nat) (kvs:List (bz×PV)) (k:bz) (p:PV),bF kvs k=some p->bF (iB as i kvs) k=some p
 | [],_,_,_,_,h=>h
 | (j,_)::as,i,kvs,k,p,h=>by
  rw[iB];split
  ·exact oy as _ _ _ _ h
  ·refine oy as _ _ _ _ ?_;unfold bF at h ⊢;rw[vK];cases z:kvs.find? λa=>decide (a.1=k)with
   | none=>rw[z]at h;cases h
   | some q=>rw[z]at h;exact h
theorem tf(j:Nat)(a:bY)(c:List (Nat×bY)):∀(b:List (Nat×bY)) (i:Nat) (kvs:List (bz×PV)),(∀q∈b,q.1≠j)->bF kvs (.inl (j:Int))=none->bF (iB (b++(j,a)::c) i kvs) (.inl (j:Int))=some (.int ((i+b.length:Nat):Int))
 | [],i,kvs,_,h=>by
  show bF (iB ((j,a)::c) i kvs) _=_;rw[iB,h];refine oy _ _ _ _ _ ?_;unfold bF at h ⊢;rw[vK,vI.mp h];simp
 | (n,x)::b,i,kvs,d,h=>by
  have g:n≠j:=d _ aD;have e:i+((n,x)::b).length=i+1+b.length:=by rw[aN];lia
  rw[e,qu,iB];split
  ·exact tf j a c b (i+1) kvs (λq f=>d q (aG _ f)) h
  ·refine tf j a c b (i+1) _ (λq f=>d q (aG _ f)) ?_
   unfold bF at h ⊢;rw[vK,vI.mp h];simp
   lia
section
variable {m:Md} {most:Nat} {cs:List Nat} {ag:dz}
def FE(m:Md)(j:Nat):Nat:=mK (iB m.as 0 []) j
structure aaz (m:Md) (j:Nat) (r:Ro) (b:List (Nat×bY)) (c:List (Nat×bY)):Prop where
 eq:m.as=b++(cf (ni r)).map (λa=>(j,a))++c
 fb:∀q∈b,q.1≠j
 c:∀q∈c,q.1≠j
 st:bF (iB m.as 0 []) (.inl (j:Int))=some (.int (b.length:Int))
theorem FF{j:Nat}{r:Ro}(f:m.L[j]?=some r):∃b c,aaz m j r b c/\FE m j=b.length:=by
 obtain⟨t,u⟩:=bu.mp f;have e:m.A=m.A.take j++ni r::m.A.drop (j+1):=by
  have k:m.A[j]?=some (ni r):=by unfold Md.A;rw[bG,f];rfl
  obtain⟨v,o⟩:=bu.mp k;rw[<-o,<-nu,BA]
 have p:(m.A.take j).length=j:=by unfold Md.A;simp;lia
 have g:m.as=dY 0 (m.A.take j)++(cf (ni r)).map (λa=>(j,a))++dY (j+1) (m.A.drop (j+1)):=by
  unfold Md.as;rw[cV (dY 0) e,A4,dY,p,eS,dA]
 have h:∀q∈dY 0 (m.A.take j),q.1≠j:=λq d=>by have:=(mJ _ _ q d).2;lia
 have i:bF (iB m.as 0 []) (.inl (j:Int))=some (.int ((dY 0 (m.A.take j)).length:Int)):=by
  obtain⟨a,l,ho⟩:=yl (ni r);rw[g,ho,aI,dA,qu,tf j a _ _ 0 [] h rfl,eS]
 refine⟨_,_,⟨g,h,λq d=>by have:=(mJ _ _ q d).1;lia,i⟩,?_⟩
 unfold FE mK;rw[i];rfl
theorem Mm(as:List (Nat×bY))(kvs:List (bz×PV))(nx:Nat->List Nat):∀(bs:List (Nat×bY)) (i n:Nat),(Ib as kvs nx i bs)[n]?=(bs[n]?).map λq=>j9 as kvs nx (i+n) q
 | [],_,_=>rfl
 | q::bs,i,0=>rfl
 | q::bs,i,n+1=>by
  rw[Ib,vD,vD,Mm as kvs nx bs (i+1) n,Nat.add_right_comm,vZ]
theorem Mo{n:Nat}{q:Nat×bY}(h:m.as[n]?=some q):m.Ig[n]?=some (j9 m.as (iB m.as 0 []) m.nx n q):=by
 have:=Mm m.as (iB m.as 0 []) m.nx m.as 0 n;rw[h,eS]at this;exact this
structure kf (m:Md) (j n:Nat) (bs:List bY):Prop where
 here:∀i a,bs[i]?=some a->m.as[n+i]?=some (j,a)
 over:(m.as[n+bs.length]?).map (·.1)≠some j
theorem qe{j n:Nat}{a:bY}{bs:List bY}(R:kf m j n (a::bs)):m.as[n]?=some (j,a)/\(bs=[]->j9 m.as (iB m.as 0 []) m.nx n (j,a)=(m.nx j).map (FE m))/\(bs≠[]->j9 m.as (iB m.as 0 []) m.nx n (j,a)=[n+1]/\kf m j (n+1) bs):=by
 refine⟨R.here 0 a rfl,λe=>?_,λe=>⟨?_,λi b c=>?_,?_⟩⟩
 ·subst e;exact if_neg R.over
 ·cases bs with
  | nil=>exact absurd rfl e
  | cons b bs=>exact if_pos (by rw[R.here 1 b rfl];rfl)
 ·rw[vZ,Nat.add_comm 1 i];exact R.here (i+1) b (by rw[vD];exact c)
 ·rw[vZ,Nat.add_comm 1];exact R.over
theorem kh{j:Nat}{r:Ro}(f:m.L[j]?=some r):kf m j (FE m j) (cf (ni r))/\bF (iB m.as 0 []) (.inl (j:Int))=some (.int (FE m j:Int)):=by
 obtain⟨b,c,h,e⟩:=FF f;refine⟨⟨λi a d=>?_,?_⟩,by rw[e];exact h.st⟩
 ·rw[e,h.eq,dA,iX (qr _ _),Nat.add_sub_cancel_left,cU (by rw[aj];exact(bu.mp d).1),bG,d]
  rfl
 ·rw[e,h.eq,iX (by simp)]
  intro z;obtain⟨q,g,z⟩:=il.mp z;exact h.c q (cZ g) z
def MY(ag:dz)(n:Nat)(x:Str)(l:Int):Prop:=kE ⟨n,x,l⟩∈ag.map (·.1)
variable {A:List (List Nat)}
theorem DP(T:HQ m A ag){n b:Nat}{q:Nat×bY}{x:Str}{l:Int}(c:m.as[n]?=some q)(g:b∈j9 m.as (iB m.as 0 []) m.nx n q)(hk:MY ag b x l)(he:q.2.k≠x):MY ag n x l:=by
 obtain⟨h,e1,j⟩:=T.ah.all n _ (Mo c) b g;obtain⟨t,ht,e⟩:=az.mp hk;obtain⟨i,d,a⟩:=qj ht;obtain⟨fs,f,o⟩:=T.done i t.1 t.2 d (by rw[bQ d,a])
 have p:sZ m A t.1=some ((MX m h ⟨b,x,l⟩).map kE):=by
  rw[e];unfold sZ;rw[mZ,cH,e1];rfl
 rw[p]at f;cases f;refine o _ (az.mpr ⟨⟨n,x,l⟩,az.mpr ⟨n,b7.mpr ⟨j,?_⟩,rfl⟩,rfl⟩);unfold yj;rw[c];show(!(q.2.k==x))=true;rw[eR.mpr he];rfl
def A5(a:bY)(x:Str)(l:Int):Prop:=a.w≠Str.ofString "hand"/\a.t=true/\a.n=x/\l∈MV a
theorem Wv(T:HQ m A ag){n:Nat}{q:Nat×bY}{x:Str}{l:Int}(a:m.as[n]?=some q)(he:A5 q.2 x l):MY ag n x l:=by
 obtain⟨b,c,rfl,d⟩:=he;refine T.fst _ ((FC m m.as 0 _).mpr ⟨n,q,a,?_⟩);rw[eS];refine az.mpr ⟨(q.2.n,l),?_,rfl⟩;unfold HP;rw[if_neg (by rw[eR.mpr b];exact c5),if_pos c]
 exact az.mpr ⟨l,d,rfl⟩
theorem back(T:HQ m A ag){j b:Nat}{x:Str}{l:Int}(c:b∈(m.nx j).map (FE m))(hk:MY ag b x l):∀(bs:List bY) (n:Nat),bs≠[]->kf m j n bs->(∀a∈bs,a.k≠x)->MY ag n x l
 | [],_,h,_,_=>absurd rfl h
 | a::bs,n,_,R,he=>by
  obtain⟨d,f,g⟩:=qe R;by_cases e:bs=[]
  ·exact DP T d (by rw[f e];exact c) hk (he a aD)
  ·obtain⟨i,o⟩:=g e;exact DP T d (by rw[i];exact aD) (back T c hk bs (n+1) e o λa p=>he a (aG _ p)) (he a aD)
theorem aaA(T:HQ m A ag){j:Nat}{x:Str}{l:Int}{a:bY}{b2:List bY}(ht:A5 a x l):∀(b:List bY) (n:Nat),kf m j n (b++a::b2)->(∀c∈b,c.k≠x)->MY ag n x l
 | [],n,R,_=>Wv T (qe R).1 ht
 | c::b,n,R,he=>by
  obtain⟨d,i,e⟩:=qe (show kf m j n (c::(b++a::b2))from R)
  obtain⟨f,g⟩:=e (by simp)
  exact DP T d (by rw[f];exact aD) (aaA T ht b (n+1) g λa h=>he a (aG _ h)) (he c aD)
end
theorem Ww(C:Int)(q i:Nat)(e:i<4):gS C q≠sI i:=by
 intro h;have c:(gS C q).cps.toList=(List.range (Ic C).length).map (MT (Ic C) (LF C) q):=by simp[gS,DJ,eQ]
 rw[h,mO]at c;obtain⟨n,f⟩:∃n,xX C=n+1:=⟨xX C-1,by have:=sQ C;lia⟩
 rw[f,Bu,aI]at c;have g:=cV (λl=>l.head?) c
 have j:∀a:Nat,a<97->some a=some (MT (Ic C) (LF C) q 0)->False:=λa d z=>by
  have:=cj z;unfold MT cp at this
  lia
 have b:∀a:Nat,a<97->(sI i).cps.toList.head?=some a->False:=λa d z=>j a d (z.symm.trans g)
 match i,e,b with
 | 0,_,b=>exact b 48 (by decide) (by kernel_rfl)
 | 1,_,b=>exact b 49 (by decide) (by kernel_rfl)
 | 2,_,b=>exact b 50 (by decide) (by kernel_rfl)
 | 3,_,b=>exact b 51 (by decide) (by kernel_rfl)
noncomputable def Xc(x:Str)(f:Int)(n:Int):List (Str×Int):=(List.range n.toNat).map λi=>(x,f+(i:Nat)*1)
def Xd(s:Sp):List (Str×Int):=Xc s.x s.r.2.1 s.r.2.2.1
def iW(s:Sp):List (Str×Int):=if dy s.d=true then Xd s else []
def nj:Op->List Sp
 | .n _=>[]
 | .s s=>[s]
def MZ:Ro->List Sp
 | .put _ s o=>s::nj o
 | .set s _ a b=>s::(nj a++nj b)
 | .mU t s=>[t,s]
 | .mV t s=>[t,s]
 | .drop s=>[s]
 | .iA _ _ s=>[s]
 | .AU a=>nj a
 | _=>[]
def DQ(q:Rk):List (Str×Int):=if dy q.2=true then Xc q.1 0 (sz (bE q.2))else []
def HR:Ro->List (Str×Int)
 | .call _ _ a=>a.flatMap DQ
 | .eA (some q)=>DQ q
 | r=>(MZ r).flatMap iW
def QH:Ro->Str
 | .iA x _ _=>x
 | .call a _ _=>AD a
 | _=>Str.ofString ""
section
variable {m:Md} {most:Nat} {x:Str} {l:Int} {A:List (List Nat)} {ag:dz}
def Nm(m:Md)(x:Str):Prop:=∃d,(x,d)∈m.ks
def Qt(a:bY):Prop:=a.k=Str.ofString ""\/∃i,i<4/\a.k=sI i
theorem qt{a:bY}(g:Nm m x)(h:Qt a):a.k≠x:=by
 obtain⟨d,g⟩:=g;obtain⟨i,_,e⟩:=L8 g;have e:x=gS m.C i:=e;subst e;rcases h with b | ⟨j,c,b⟩
 ·rw[b];exact λz=>absurd z.symm (eR.mp (DK m.C i))
 ·rw[b];exact λz=>Ww m.C i j c z.symm
theorem aaB(a:PV):∀b∈E2 a,Qt b:=by
 unfold E2;split
 ·intro b c;cases ax.mp c;exact .inl rfl
 ·intro b c;cases c
theorem A6(o:Op):∀b∈p8 o,Qt b:=by
 cases o with
 | n i=>intro b a;cases a
 | s s =>
  intro b a;rcases aX.mp a with a | a
  ·exact aaB _ b a
  ·cases ax.mp a;exact .inl rfl
theorem QI(s:Sp):∀b∈uu s,Qt b:=by
 unfold uu;split
 ·intro b a;cases ax.mp a;exact .inl rfl
 ·intro b a;rcases aX.mp a with a | a
  ·exact aaB _ b a
  ·cases ax.mp a;exact .inl rfl
theorem Mp:∀(b:List Rk) (i:Nat),i+b.length<=4->∀a∈gQ i b,Qt a
 | [],_,_,_,h=>nomatch h
 | r::l,i,c,a,h=>by
  rw[aN]at c;rcases aF.mp h with rfl | h
  ·unfold PC;split
   ·exact .inl rfl
   ·exact .inr ⟨i,by lia,rfl⟩
  ·exact Mp l (i+1) (by lia) a h
theorem Wx{r:Ro}{C:Cs}{M:Nat}(ok:ou C m.ks M r):∀a∈ni r,Qt a\/a.k=QH r:=by
 intro a c;cases r with
 | put g s o=>exact .inl ((aX.mp c).elim (A6 o a) (QI s a))
 | set s w a1 i=>exact .inl ((aX.mp c).elim (λh=>(aX.mp h).elim (A6 _ a) (A6 _ a)) (QI s a))
 | mU t s =>
  rcases aF.mp c with rfl | c
  ·exact .inl (.inl rfl)
  ·cases ax.mp c;exact .inl (.inl rfl)
 | mV t s =>
  rcases aF.mp c with rfl | c
  ·exact .inl (.inl rfl)
  ·cases ax.mp c;exact .inl (.inl rfl)
 | drop s=>cases ax.mp c;exact .inl (.inl rfl)
 | iA y b s=>cases ax.mp c;exact .inr rfl
 | call e j f =>
  rcases aX.mp c with c | c
  ·exact .inl (Mp f 0 (by have:=ok.2.2.2.2.1;lia) a c)
  ·rcases aF.mp c with rfl | c
   ·exact .inl (.inl rfl)
   ·cases e with
    | none=>cases c
    | some q =>
     obtain⟨y,d⟩:=q;cases d with
     | ow s=>cases ax.mp c;exact .inl (.inl rfl)
     | ho b s=>cases ax.mp c;exact .inr rfl
 | AU o=>exact .inl (A6 o a c)
 | eA z =>
  cases z with
  | none=>cases c
  | some q =>
   cases ax.mp c;unfold RT;split<;>exact .inl (.inl rfl)
theorem FG{q:Rk}:∀(a:List Rk) (i:Nat),q∈a->∃j,PC q.1 q.2 (sI j)∈gQ i a
 | [],_,h=>nomatch h
 | r::l,i,h=>by
  rcases aF.mp h with rfl | h
  ·exact⟨i,aD⟩
  ·obtain⟨j,b⟩:=FG l (i+1) h;exact⟨j,aG _ b⟩
theorem Mq{y:Str}{f n:Int}(h:(x,l)∈Xc y f n):y=x/\l∈(List.range n.toNat).map λi=>f+(i:Nat)*1:=by
 obtain⟨i,a,e⟩:=az.mp h;cases e;exact⟨rfl,az.mpr ⟨i,a,rfl⟩⟩
theorem m6{s:Sp}(w t:Str)(hw:w≠Str.ofString "hand")(h:(x,l)∈iW s):A5 (ng w s t) x l:=by
 unfold iW at h;split at h
 ·rename_i a;obtain⟨b,c⟩:=Mq h;exact⟨hw,a,b,c⟩
 ·cases h
theorem FH{o:Op}(h:(x,l)∈(nj o).flatMap iW):∃a∈p8 o,A5 a x l:=by
 cases o with
 | n i=>cases h
 | s s =>
  obtain⟨c,b,h⟩:=dR.mp h;cases ax.mp b;exact⟨_,bW _ (ax.mpr rfl),m6 (Str.ofString "read") (Str.ofString "") (by decide +kernel) h⟩
theorem Sl{s:Sp}(h:(x,l)∈iW s):∃a∈uu s,A5 a x l:=by
 unfold uu;split
 ·exact⟨_,ax.mpr rfl,m6 (Str.ofString "fill") (Str.ofString "") (by decide +kernel) h⟩
 ·exact⟨_,bW _ (ax.mpr rfl),m6 (Str.ofString "turn") (Str.ofString "") (by decide +kernel) h⟩
theorem Mr{s t:Sp}(h:(x,l)∈[s,t].flatMap iW):(x,l)∈iW s\/(x,l)∈iW t:=by
 rw[dQ,dQ,List.flatMap_nil,dB]at h;exact aX.mp h
theorem Ms{s:Sp}(h:(x,l)∈[s].flatMap iW):(x,l)∈iW s:=by
 rw[dQ,List.flatMap_nil,dB]at h;exact h
end
section
variable {m:Md} {most:Nat} {x:Str} {l:Int} {A:List (List Nat)} {ag:dz}
theorem aaC{q:Rk}(h:(x,l)∈DQ q):dy q.2=true/\q.1=x/\l∈(List.range (sz (bE q.2)).toNat).map fun(i:Nat)=>(0:Int)+(i:Nat)*1:=by
 unfold DQ at h;split at h
 ·rename_i a;obtain⟨b,c⟩:=Mq h;exact⟨a,b,c⟩
 ·cases h
theorem Wy{r:Ro}{C:Cs}{M:Nat}(ok:ou C m.ks M r)(g:Nm m x)(h:(x,l)∈HR r):∃f a b2,ni r=f++a::b2/\A5 a x l/\∀c∈f,c.k≠x:=by
 have all:∀L:List bY,(∀c∈L,Qt c)->(∃a∈L,A5 a x l)->∃f a b2,L=f++a::b2/\A5 a x l/\∀c∈f,c.k≠x:=by
  rintro L v ⟨a,p,e⟩
  obtain⟨f,b2,rfl⟩:=List.append_of_mem p;exact⟨f,a,b2,rfl,e,λc hc=>qt g (v c (dI _ hc))⟩
 cases r with
 | put J s o =>
  refine all _ (λc hc=>(aX.mp hc).elim (A6 o c) (QI s c)) ?_
  have h:(x,l)∈iW s++(nj o).flatMap iW:=h;rcases aX.mp h with h | h
  ·obtain⟨a,p,e⟩:=Sl h;exact⟨a,bW _ p,e⟩
  ·obtain⟨a,p,e⟩:=FH h;exact⟨a,dI _ p,e⟩
 | set s w a1 f =>
  refine all _ (λc hc=>(aX.mp hc).elim (λh=>(aX.mp h).elim (A6 _ c) (A6 _ c)) (QI s c)) ?_
  have h:(x,l)∈iW s++(nj a1++nj f).flatMap iW:=h;rw[List.flatMap_append]at h;rcases aX.mp h with h | h
  ·obtain⟨a,p,e⟩:=Sl h;exact⟨a,bW _ p,e⟩
  ·rcases aX.mp h with h | h
   ·obtain⟨a,p,e⟩:=FH h;exact⟨a,dI _ (dI _ p),e⟩
   ·obtain⟨a,p,e⟩:=FH h;exact⟨a,dI _ (bW _ p),e⟩
 | mU t s =>
  refine all _ (λc hc=>?_) ?_
  ·rcases aF.mp hc with rfl | hc
   ·exact .inl rfl
   ·cases ax.mp hc;exact .inl rfl
  ·rcases Mr h with h | h
   ·exact⟨_,aG _ aD,m6 (Str.ofString "fill") (Str.ofString "") (by decide +kernel) h⟩
   ·exact⟨_,aD,m6 (Str.ofString "read") (Str.ofString "") (by decide +kernel) h⟩
 | mV t s =>
  refine all _ (λc hc=>?_) ?_
  ·rcases aF.mp hc with rfl | hc
   ·exact .inl rfl
   ·cases ax.mp hc;exact .inl rfl
  ·rcases Mr h with h | h
   ·exact⟨_,aG _ aD,m6 (Str.ofString "fill") (Str.ofString "") (by decide +kernel) h⟩
   ·exact⟨_,aD,m6 (Str.ofString "empty") (Str.ofString "") (by decide +kernel) h⟩
 | drop s=>exact all _ (λc hc=>by cases ax.mp hc;exact .inl rfl) ⟨_,aD,m6 (Str.ofString "empty") (Str.ofString "") (by decide +kernel) (Ms h)⟩
 | iA y b s=>exact⟨[],_,[],rfl,m6 (lw b) y (by cases b<;>decide +kernel) (Ms h),λ_ z=>nomatch z⟩
 | call H j u =>
  obtain⟨q,v,h⟩:=dR.mp h;obtain⟨B,D,E⟩:=aaC h;obtain⟨i,I⟩:=FG u 0 v;obtain⟨f,a,b2,e,t,hc⟩:=all (gQ 0 u) (Mp u 0 (by have:=ok.2.2.2.2.1;lia)) ⟨_,I,by
   obtain⟨y,d⟩:=q;cases d with
   | ow s=>cases B
   | ho b s=>exact⟨by show(if b=true then Str.ofString "sole" else Str.ofString "lend")≠_;cases b<;>decide +kernel,rfl,D,E⟩⟩
  exact⟨f,a,b2++j8::lQ H,by show gQ 0 u++j8::lQ H=_;rw[e];simp,t,hc⟩
 | AU o=>exact all _ (A6 o) (FH h)
 | eA z =>
  cases z with
  | none=>cases h
  | some q =>
   obtain⟨B,D,E⟩:=aaC h;obtain⟨y,d⟩:=q;cases d with
   | ow s=>cases B
   | ho b s=>exact⟨[],_,[],rfl,⟨by show Str.ofString "give"≠_;decide +kernel,rfl,D,E⟩,λ_ z=>nomatch z⟩
def Pj(m:Md)(ag:dz)(j:Nat)(x:Str)(l:Int):Prop:=Nm m x/\MY ag (FE m j) x l
theorem Mt(h:c7 m most)(T:HQ m A ag){j:Nat}{r:Ro}(c:m.L[j]?=some r)(g:Nm m x)(d:(x,l)∈HR r):Pj m ag j x l:=by
 obtain⟨b,a,b2,e,t,hc⟩:=Wy (h.ok r (cZ c)) g d;obtain⟨R,_⟩:=kh c;have:cf (ni r)=b++a::b2:=by rw[e];cases b<;>rfl
 rw[this]at R;exact⟨g,aaA T t b _ R hc⟩
theorem Mu(h:c7 m most)(T:HQ m A ag){j j':Nat}{r:Ro}(e:m.L[j]?=some r)(f:j'∈m.nx j)(hp:Pj m ag j' x l)(g:x≠QH r):Pj m ag j x l:=by
 obtain⟨R,_⟩:=kh e;obtain⟨i,k,ne⟩:=yl (ni r);have ne:cf (ni r)≠[]:=by rw[ne];exact BR _ _
 refine⟨hp.1,back T (az.mpr ⟨j',f,rfl⟩) hp.2 _ _ ne R λa d=>?_⟩
 have:a=Av\/a∈ni r:=by
  revert d
  unfold cf;cases ni r with
  | nil=>exact λd=>.inl (ax.mp d)
  | cons b c=>exact .inr
 rcases this with rfl | d
 ·exact qt hp.1 (.inl rfl)
 ·rcases Wx (h.ok r (cZ e)) a d with q | q
  ·exact qt hp.1 q
  ·rw[q];exact λz=>g z.symm
end
theorem Sm{c:CT}(A P K:Option PV):∀(ps:List Sh) (a:Int) (b:Option PV),(∀s∈ps,Gives (c "_law_leaves" [enc s] []) (.lst (bX (lv s))))->∃d,dv (aV 4) (Du c) (ps.map enc) (S0 [A,P,some (.int a),K,b])=some (.ok .nx,S0 [A,P,some (.int (a+((fY ps).length:Int))),K,d])
 | [],a,b,_=>⟨b,by simp[fY];rfl⟩
 | s::ps,a,b,h=>by
  obtain⟨d,e⟩:=Sm A P K ps (a+((lv s).length:Int)) (some (enc s)) λt ht=>h t (aG _ ht)
  refine⟨d,?_⟩;rw[show a+((fY (s::ps)).length:Int)=a+((lv s).length:Int)+((fY ps).length:Int) by simp only[fY,aZ];lia]
  refine fC rfl (aS (b2 rfl (bV (cA (de (cA rfl rfl) rfl rfl (h s aD)) rfl) (z:=.int ((lv s).length:Int)) ?_) rfl) rfl) e;show some (PV.int ((bX (lv s)).length:Int))=_;rw[fz]
theorem FI(k:Nat)(P:Option PV):∀(p:List Int) (s:Sh) (a:Int) (g f:Option PV) (d:Sh) (e:Int),(tab s).length<=500->dp s<=k->walk s a p=some (d,e)->∃j l,dv (aV 3) (Dv (run txt (k+1))) (p.map .int) (S0 [some (enc s),P,some (.int a),g,f])=some (.ok .nx,S0 [some (enc d),P,some (.int e),j,l])
 | [],s,a,g,f,d,e,_,_,h=>by
  simp[walk]at h;obtain⟨rfl,rfl⟩:=h;exact⟨g,f,rfl⟩
 | i::p,s,a,g,f,d,e,ht,hd,h=>by
  obtain⟨x,u,hw⟩:=lg.mp (show(Ia s i).bind (λx=>walk x.1 (a+x.2) p)=some (d,e)from h)
  obtain⟨b,rfl,m,o,v⟩:=j7 u;have t:x.1∈b:=cZ o;have M:=vc t;have w:(tab (.bA b)).length=gY b+1:=by simp only[tab,aN,fZ]
  have y:=xp b;have B:=rP b;have C:=Lp t;have D:oM b+1<=k:=by simpa only[dp]using hd
  obtain⟨l,q⟩:=Sm (c:=run txt (k+1)) (some (enc (.bA b))) P (some (.int i)) (b.take i.toNat) a f λs E=>gR b k (by lia) (by lia) s (List.mem_of_mem_take E)
  obtain⟨H,I,r⟩:=FI k P p x.1 (a+x.2) (some (.int i)) l d e (by lia) (by lia) hw
  rw[<-v]at q;have J:=p0 m o;have L:Gn [] none (some i) (.ao (bX b))=some (.ao ((b.take i.toNat).map enc)):=by
   show some (PV.ao (jU (bX b) none (some i)))=_;rw[<-lq m,Lq,iU,List.map_take,gB]
  exact⟨H,I,fC rfl (sq (fS (sV (cE (b2 rfl rfl rfl) rfl rfl L) rfl) q) (aS (b2 (b2 rfl rfl rfl) rfl J) rfl)) r⟩
theorem Mv(k:Nat)(s:Sh)(p:List Int)(x:Sh×Int)(ht:(tab s).length<=500)(hd:dp s<=k)(h:walk s 0 p=some x):Gives (run txt (k+2) "_law_first" [enc s,.ao (p.map .int)] []) (.int x.2):=by
 rw[Dw];obtain⟨a,b,q⟩:=FI k (some (.ao (p.map .int))) p s 0 none none x.1 x.2 ht hd h;exact gV (sq (aS rfl rfl) (sq (fS rfl q) (rS rfl))) rfl
theorem A7:∀(kvs acc:List (bz×PV)),((acc++kvs).map (·.1)).Nodup->uX kvs ⟨.fu false (acc.map λq=>[q.1]),acc.map (·.2)⟩=⟨.fu false ((acc++kvs).map λq=>[q.1]),(acc++kvs).map (·.2)⟩
 | [],acc,_=>by rw[dB];rfl
 | (k,p)::kvs,acc,h=>by
  have a:jC [k] (acc.map λq=>[q.1])=false:=by
   unfold jC;rw[List.any_eq_false];intro x b;obtain⟨q,c,rfl⟩:=az.mp b;rw[cm,qm]at h;simp only[i9];intro e;injection e with e _
   exact h.2.2 q.1 (az.mpr ⟨q,c,rfl⟩) k (by simp) e
  have ih:=A7 kvs (acc++[(k,p)]) (by grind)
  show uX kvs (mr false [k] p (acc.map λq=>[q.1]) (acc.map (·.2)))=_
  unfold mr;rw[a,if_neg c5];rw[dA,cm,cm]at ih;exact ih
def QJ{ks:List Rk}(b:(ks.map (·.1)).Nodup)(a:ks.length<=1000):GV (ks.map bC)=some ⟨.fu false (ks.map λq=>[.inr q.1]),ks.map λq=>encK q.2⟩:=by
 have e:∀ks:List Rk,cb EG (ks.map bC)=some (ks.map λq=>((.inr q.1:bz),encK q.2)):=λks=>by
  induction ks with
  | nil=>rfl
  | cons q ks ih=>rw[aI,cb,ih];rfl
 unfold GV;rw[aj,if_pos a,e,gF];have:=A7 (ks.map λq=>((.inr q.1:bz),encK q.2)) [] (by
  grind)
 rw[fK,c6,c6]at this;exact cV some this
theorem A8(x:Str):∀ks:List Rk,eH [.inr x] (ks.map λq=>[.inr q.1]) (ks.map λq=>encK q.2)=(jB ks x).map encK
 | []=>rfl
 | q::ks=>by
  rw[aI,aI,eH,jB];by_cases e:q.1=x
  ·grind
  ·rw[if_neg (by grind),if_neg e]
   exact A8 x ks
def HS(m:Md):ak:=⟨.fu false (m.ks.map λq=>[.inr q.1]),m.ks.map λq=>encK q.2⟩
section
variable {m:Md} {most:Nat} {H:List ak}
theorem Mw(b:H[0]?=some (HS m)){x:Str}{d:Kn}(c:(x,d)∈m.ks):bR H (.ref 0) (.str x)=some (encK d):=by
 have e:cw H (.ref 0)=some (.fu false (m.ks.map λq=>[.inr q.1]),m.ks.map λq=>encK q.2):=by
  show(H[0]?).bind _=_;rw[b];rfl
 show(match cw H (.ref 0)with
  | some (.ao,a)=>(kJ (.str x)).bind (L2.km a)
  | some (.lst,a)=>(kJ (.str x)).bind (L2.km a)
  | some (.fu t ks,a)=>(gM t (.str x)).bind λk=>eH k ks a
  | _=>none)=_
 rw[e];show eH [.inr x] _ _=_;rw[A8,fU m.ks (x,d) o9 c];rfl
theorem aaD:∀l:List Int,ai (l.map PV.int)=true
 | []=>rfl
 | _::l=>aaD l
theorem FJ(c:CT)(A P L:Option PV):∀(p:List Int) (s:Sh) (a:Int) (e:Option PV) (b:Sh) (d:Int),walk s a p=some (b,d)->∃f,dv (aV 4) (xG c) (p.map .int) ⟨[A,P,some (enc s),L,e],H⟩=some (.ok .nx,⟨[A,P,some (enc b),L,f],H⟩)
 | [],s,a,e,b,d,h=>by
  simp[walk]at h;obtain⟨rfl,rfl⟩:=h;exact⟨e,rfl⟩
 | i::p,s,a,e,b,d,h=>by
  obtain⟨x,g,hw⟩:=lg.mp (show(Ia s i).bind (λx=>walk x.1 (a+x.2) p)=some (b,d)from h)
  obtain⟨l,rfl,j,k,_⟩:=j7 g;obtain⟨f,q⟩:=FJ c A P L p x.1 (a+x.2) (some (.int i)) b d hw;exact⟨f,fC rfl (aS (b2 (b2 rfl rfl rfl) rfl (p0 j k)) rfl) q⟩
theorem DR(k:Nat)(hk:4<=k)(f:H[0]?=some (HS m)){s:Sp}(c:cG m.ks s)(v:noRef s.a=true):run txt (k+3) "_law_touched" [.ref 0,aU s] H=some (.ok (.lst ((Xd s).map pL)),H):=by
 obtain⟨x,d,r,a⟩:=s;have hw:=rQ (bE d) r c.row 0;have g:=xO (bE d) r c.row;have hd:=oj (bE d) r c.row;have h1:(tab (bE d)).length<=100:=c.ok.1;have w:dp (bE d)<=3:=c.ok.2;have y:=Af (bE d);rw[jP]at hw;have h:=Mv k (bE d) r.1 _ (by lia) (by lia) hw
 have o:=oq r.2.2.2 (k+1) (by lia) (by lia)
 obtain⟨p,q⟩:=FJ (run txt (k+2)) (some (.ref 0)) (some (Lw x (dy d) r.1 a)) (some (.int r.2.1)) r.1 (bE d) 0 none _ _ hw (H:=H);rw[xJ];have t:Ek (op2 bR (rd 0) (op2 bR (rd 1) (kI 0))) ⟨[some (.ref 0),some (Lw x (dy d) r.1 a),none,none,none],H⟩ (encK d):=b2 rfl (b2 rfl rfl rfl) (Mw f c.mem);have u:Ev (dN (fX Q2) (dh Qs (aV 2)) (aW .nx)) ⟨[some (.ref 0),some (Lw x (dy d) r.1 a),some (encK d),none,none],H⟩ .nx ⟨[some (.ref 0),some (Lw x (dy d) r.1 a),some (enc (bE d)),none,none],H⟩:=by
  cases d with
  | ow s=>exact iF (tB (b:=false) (b2 rfl rfl rfl)) rfl
  | ho b s=>exact iT (tB (b:=true) (b2 rfl rfl rfl)) (aS (b2 rfl rfl rfl) rfl)
 refine j4 (G8:=[some (.ref 0),some (Lw x (dy d) r.1 a),some (enc r.2.2.2),some (.int r.2.1),p]) ?_;refine sq (aS t rfl) (sq u (sq (aS (de (as:=[enc (bE d),.ao (r.1.map .int)]) (cA rfl (cA (b2 rfl rfl rfl) rfl)) rfl (by simp[ai,noRef,dw,aaD]) h) rfl) (sq (fS (sV (b2 rfl rfl rfl) rfl) q) (rS ?_))))
 show Ev _ _ (PV.lst ((Xc x r.2.1 r.2.2.1).map pL)) _;unfold Xc;rw[c6,g,show(sz r.2.2.2).toNat=(lv r.2.2.2).length from rfl]
 refine cM (l:=List.range (lv r.2.2.2).length) (e:=nh) (mN (j:=(lv r.2.2.2).length) (cA (bV (cA (de (as:=[enc r.2.2.2]) (cA rfl rfl) rfl (by simp[ai,dw]) o) rfl) ?_) rfl) (by lia)) (by rw[gD];lia) λi _=>?_
 ·show some (PV.int ((bX (lv r.2.2.2)).length:Int))=_;rw[fz];rfl
 ·rw[aaw];show _=some (some (pL (x,r.2.1+(i:Int)*1)),H);rw[Int.mul_one];exact e1 (rp:=[none,some (iN i),some (.int r.2.1),some (Lw x (dy d) r.1 a)]) (h1:=H) rfl (tU (ps:=[.str x,.int (r.2.1+(i:Int))]) (cA (b2 rfl rfl rfl) (cA (b2 rfl rfl rfl) rfl)) (by simp))
end
section
variable {m:Md} {most:Nat} {H:List ak}
theorem Wz(c:H[0]?=some C)(p:PV):(((0:Nat)==0)&&(H.isEmpty || ai [.ref 0,p]))=false:=by
 cases H with
 | nil=>cases c
 | cons a b=>rfl
theorem aaE{ks:List Rk}{a:PV}(h:uq ks a):noRef a=true:=by
 cases h<;>rfl
theorem A9(k:Nat)(hk:4<=k)(f:H[0]?=some (HS m))(R P:Option PV):∀(a:List Sp) (acc:List (Str×Int)) (b:Option PV),(∀s∈a,cG m.ks s)->(∀s∈a,(Xd s).length<=3)->acc.length+3*a.length<=1000 ->
  ∃g,dv (aV 4) (xK (run txt (k+3))) (a.map aU) ⟨[some (.ref 0),R,P,some (.lst (acc.map pL)),b],H⟩=some (.ok .nx,⟨[some (.ref 0),R,P,some (.lst ((acc++a.flatMap iW).map pL)),g],H⟩)
 | [],acc,b,_,_,_=>⟨b,by simp;rfl⟩
 | s::a,acc,b,h,i,j=>by
  rw[aN]at j;have ok:=h s aD;have l:=i s aD;have lt:(iW s).length<=3:=by unfold iW;split;exact l;simp
  obtain⟨g,e⟩:=A9 k hk f R P a (acc++iW s) (some (aU s)) (λt ht=>h t (aG _ ht)) (λt ht=>i t (aG _ ht)) (by rw[aZ];lia)
  refine⟨g,?_⟩;rw[dQ,<-dA];refine fC (s1:=⟨[some (.ref 0),R,P,some (.lst (acc.map pL)),some (aU s)],H⟩) rfl ?_ e;have t:Ek (fX (op2 bR (rd 4) (kI 1))) ⟨[some (.ref 0),R,P,some (.lst (acc.map pL)),some (aU s)],H⟩ (dy s.d):=tB (b2 rfl rfl rfl);cases c:dy s.d with
  | false =>
   rw[c]at t;rw[show iW s=[] by unfold iW;rw[c];rfl,dB]
   exact iF t rfl
  | true =>
   rw[c]at t;have e1:iW s=Xd s:=by unfold iW;rw[c];rfl
   refine iT t (aS (b2 rfl (clG (as:=[.ref 0,aU s]) (cA rfl (cA rfl rfl)) rfl (Wz f _) (DR k hk f ok (aaE ok.at_))) ?_) rfl);rw[e1,cm];exact aL (by rw[aj,aj];lia)
def Mx:Ro->List Sp
 | .call _ _ a=>(a.filter λq=>dy q.2).map λq=>⟨q.1,q.2,jo (bE q.2),.bj⟩
 | .eA (some q)=>if dy q.2=true then [⟨q.1,q.2,jo (bE q.2),.bj⟩]else []
 | r=>MZ r
theorem Sn(q:Rk)(a:dy q.2=true):iW ⟨q.1,q.2,jo (bE q.2),.bj⟩=DQ q:=by
 unfold iW DQ;rw[if_pos (by exact a),if_pos a]
 rfl
theorem My:∀r:Ro,(Mx r).flatMap iW=HR r
 | .call c j b=>by
  show((b.filter λq=>dy q.2).map _).flatMap iW=b.flatMap DQ
  induction b with
  | nil=>rfl
  | cons q b ih =>
   rw[vO,dQ];cases a:dy q.2 with
   | false=>rw[if_neg (by decide),show DQ q=[] by unfold DQ;rw[a];rfl];exact ih
   | true=>rw[if_pos rfl,aI,dQ,Sn q a,ih]
 | .eA (some q)=>by
  show(if dy q.2=true then _ else _:List Sp).flatMap iW=DQ q
  cases a:dy q.2 with
  | false=>rw[if_neg (by decide),show DQ q=[] by unfold DQ;rw[a];rfl];rfl
  | true=>rw[if_pos rfl,dQ,Sn q a];simp
 | .eA none=>rfl
 | .put _ _ _=>rfl
 | .set _ _ _ _=>rfl
 | .mU _ _=>rfl
 | .mV _ _=>rfl
 | .drop _=>rfl
 | .iA _ _ _=>rfl
 | .AU _=>rfl
end
section
variable {m:Md} {most:Nat} {H:List ak}
theorem Mz(h:c7 m most){r:Ro}{C:Cs}{M:Nat}(ok:ou C m.ks M r):∀s∈Mx r,cG m.ks s:=by
 have d:∀o:Op,eP m.ks o->∀s∈nj o,cG m.ks s:=λo ho s c=>by
  cases o with
  | n i=>cases c
  | s t=>cases ax.mp c;exact ho
 have f:∀q:Rk,q∈m.ks->cG m.ks ⟨q.1,q.2,jo (bE q.2),.bj⟩:=λq e=>⟨e,(h.ks.good _ e).1.1,gf _,.bj⟩
 intro s c;cases r with
 | put g t o=>rcases aF.mp c with rfl | c;exact ok.1;exact d o ok.2.1 s c
 | set t w a b =>
  rcases aF.mp c with rfl | c
  ·exact ok.1
  ·exact(aX.mp c).elim (d a ok.2.1 s) (d b ok.2.2.1 s)
 | mU t u =>
  rcases aF.mp c with rfl | c
  ·exact ok.1
  ·cases ax.mp c;exact ok.2.1
 | mV t u =>
  rcases aF.mp c with rfl | c
  ·exact ok.1
  ·cases ax.mp c;exact ok.2.1
 | drop t=>cases ax.mp c;exact ok.1
 | iA y b t=>cases ax.mp c;exact ok.1
 | call k j l =>
  obtain⟨q,e,rfl⟩:=az.mp c;exact f q (ok.2.2.2.1 q (b7.mp e).1)
 | AU a=>exact d a ok s c
 | eA z =>
  cases z with
  | none=>cases c
  | some q =>
   have c:s∈(if dy q.2=true then [(⟨q.1,q.2,jo (bE q.2),.bj⟩:Sp)]else []):=c
   split at c
   ·cases ax.mp c;exact f q (ok q rfl)
   ·cases c
theorem tl3(h:c7 m most){s:Sp}(a:cG m.ks s):(Xd s).length<=3:=by
 unfold Xd Xc;rw[aj,gD,xO _ _ a.row];have b:=(oj _ _ a.row).2;have c:(lv (bE s.d)).length<=3:=(h.ks.good _ a.mem).2;show((lv s.r.2.2.2).length:Int).toNat<=3
 lia
def spP:PV->Option PV
 | .nd .ao [a,.bl b,c,d]=>some (.nd .ao [a,.bl b,c,d])
 | _=>none
inductive M3:PV->Prop
 | sp (s:Sp):M3 (aU s)
 | int (i:Int):M3 (.int i)
 | str (x:Str):M3 (.str x)
 | AS (ar:List Rk):M3 (.ao (ar.map d0))
theorem aaF(ρ:List (Option PV)):∀{p:PV},M3 p->jD (aV 1) (dN (fX (Ux .tuple (rd 1))) (dN Qw (fX (Ux .bool Q2)) (aW false)) (aW false)) (rd 1) (bM [none,none] ρ) p H=some (spP p,H)
 | _,.sp s=>MS (rp:=[none,some (aU s)]) (Po:=[none,some (aU s)]) (h2:=H) rfl (iT (tB (b:=true) rfl) (iT (bT (b:=true) (b2 (bV (cA rfl rfl) rfl) rfl rfl)) (tB (b:=true) rfl))) rfl
 | _,.int i=>G9 (rp:=[none,some (.int i)]) (Po:=[none,some (.int i)]) rfl (iF (tB (b:=false) rfl) rfl)
 | _,.str x=>G9 (rp:=[none,some (.str x)]) (Po:=[none,some (.str x)]) rfl (iF (tB (b:=false) rfl) rfl)
 | _,.AS f=>by
  have h:∀p:PV,p=.ao (f.map d0)->f.length≠4->spP p=none:=λp e g=>by
   subst e;rcases f with _ | ⟨a,_ | ⟨b,_ | ⟨c,_ | ⟨d,_ | ⟨e,f⟩⟩⟩⟩⟩<;>first | rfl | exact absurd rfl g
  by_cases g:f.length=4
  ·rcases f with _ | ⟨a,_ | ⟨b,_ | ⟨c,_ | ⟨d,_ | ⟨e,f⟩⟩⟩⟩⟩<;>first | cases g | skip
   exact G9 (rp:=[none,some (.ao [d0 a,d0 b,d0 c,d0 d])]) (Po:=[none,some (.ao [d0 a,d0 b,d0 c,d0 d])]) rfl (iT (tB (b:=true) rfl) (iT (bT (b:=true) (b2 (bV (cA rfl rfl) rfl) rfl rfl)) (tB (b:=false) rfl)))
  ·rw[h _ rfl g];have j:iL H (.int ((f.map d0).length:Int)) (.int 4)=some (.bl false):=by
    show some (PV.bl (((f.map d0).length:Int)==4))=_;rw[show(((f.map d0).length:Int)==4)=false from by rw[eR,aj];lia]
   exact G9 (rp:=[none,some (.ao (f.map d0))]) (Po:=[none,some (.ao (f.map d0))]) rfl (iT (tB (b:=true) rfl) (iF (bT (b:=false) (b2 (bV (cA rfl rfl) rfl) rfl j)) rfl))
end
section
variable {m:Md} {most:Nat} {H:List ak}
theorem ym(o:Op):M3 (eW o):=by
 cases o with
 | n i=>exact .int i
 | s s=>exact .sp s
theorem WA(fn:Nat->PV)(k:∀j,∃x,fn j=.str x)(r:Ro):∃ps,(∀H,Gn H (some 1) none (bB fn r)=some (.ao ps))/\ps.length<=10/\(∀p∈ps,M3 p)/\ps.filterMap spP=(MZ r).map aU:=by
 have two:∀{p q:PV},M3 p->M3 q->∀x∈[p,q],M3 x:=λhp l x f=>by
  rcases aF.mp f with rfl | f
  ·exact hp
  ·cases ax.mp f;exact l
 have i:∀(s:Sp) (o:Op),[aU s,eW o].filterMap spP=(s::nj o).map aU:=λs o=>by
  cases o<;>rfl
 cases r with
 | put u s o=>exact⟨[aU s,eW o],λ_=>by cases u<;>rfl,by simp,two (.sp s) (ym o),i s o⟩
 | set s g a b =>
  refine⟨[aU s,.str g,eW a,eW b],λ_=>rfl,by simp,λx f=>?_,by cases a<;>cases b<;>rfl⟩
  rcases aF.mp f with rfl | f
  ·exact .sp s
  ·rcases aF.mp f with rfl | f
   ·exact .str g
   ·exact two (ym a) (ym b) x f
 | mU t s=>exact⟨[aU t,aU s],λ_=>rfl,by simp,two (.sp t) (.sp s),rfl⟩
 | mV t s=>exact⟨[aU t,aU s],λ_=>rfl,by simp,two (.sp t) (.sp s),rfl⟩
 | drop s=>exact⟨[aU s],λ_=>rfl,by simp,λx f=>by cases ax.mp f;exact .sp s,rfl⟩
 | iA y b s=>exact⟨[.str y,aU s],λ_=>by cases b<;>rfl,by simp,two (.str y) (.sp s),rfl⟩
 | call v j h =>
  obtain⟨z,w⟩:=k j;refine⟨[Fg v,.str z,.ao (h.map d0)],λ_=>by rw[<-w];rfl,by simp,λx f=>?_,?_⟩
  ·rcases aF.mp f with rfl | f
   ·exact .str _
   ·exact two (.str z) (.AS h) x f
  ·rcases h with _ | ⟨a,_ | ⟨b,_ | ⟨c,_ | ⟨d,_ | ⟨e,h⟩⟩⟩⟩⟩<;>rfl
 | AU a=>exact⟨[eW a],λ_=>rfl,by simp,λx f=>by cases ax.mp f;exact ym a,by cases a<;>rfl⟩
 | eA z=>exact⟨[Fg z],λ_=>rfl,by simp,λx f=>by cases ax.mp f;exact .str _,rfl⟩
def hoP(m:Md):PV->Option PV
 | .str x=>match jB m.ks x with | some d=>if dy d=true then some (.ao [.str x,.bl true,.ao [],.bj])else none | none=>none
 | _=>none
theorem So:∀a:List Rk,(∀q∈a,q∈m.ks)->(a.map d0).filterMap (hoP m)=(a.filter λq=>dy q.2).map λq=>aU ⟨q.1,q.2,jo (bE q.2),.bj⟩
 | [],_=>rfl
 | q::a,h=>by
  have e:=fU m.ks q o9 (h q aD);have e1:hoP m (d0 q)=if dy q.2=true then some (.ao [.str q.1,.bl true,.ao [],.bj])else none:=by
   show(match jB m.ks q.1 with | some d=>_ | none=>_)=_
   rw[e]
  rw[aI,jL,e1,vO,So a λp hp=>h p (aG _ hp)]
  cases b:dy q.2 with
  | false=>rfl
  | true =>
   rw[if_pos rfl,if_pos rfl,aI];show _=aU ⟨q.1,q.2,jo (bE q.2),.bj⟩::_;rw[show aU ⟨q.1,q.2,jo (bE q.2),.bj⟩=.ao [.str q.1,.bl (dy q.2),.ao [],.bj]from rfl,b]
theorem aaG(c:H[0]?=some (HS m)){q:Rk}(a:q∈m.ks):jD (aV 1) Qi (kF .ao (aq (rd 1) (aq (aW (.bl true)) (aq (kF .ao (aW [])) (aq (aW (.bj)) (aW [])))))) [none,none,some (.ref 0)] (d0 q) H=some (hoP m (d0 q),H):=by
 have e:=fU m.ks q o9 a;have e1:hoP m (d0 q)=if dy q.2=true then some (.ao [.str q.1,.bl true,.ao [],.bj])else none:=by
  show(match jB m.ks q.1 with | some d=>_ | none=>_)=_
  rw[e]
 have t:Ek Qi ⟨[none,some (d0 q),some (.ref 0)],H⟩ (dy q.2):=bT (b2 (b2 (b2 rfl rfl (Mw c a)) rfl (lT _ _)) rfl (mQ _ _));rw[e1];cases b:dy q.2 with
 | false=>rw[b]at t;exact G9 (rp:=[none,some (d0 q),some (.ref 0)]) rfl t
 | true=>rw[b]at t;exact MS (rp:=[none,some (d0 q),some (.ref 0)]) rfl t (tU (ps:=[.str q.1,.bl true,.ao [],.bj]) (cA rfl (cA rfl (cA rfl (cA rfl rfl)))) (by simp))
end
section
variable {m:Md} {most:Nat} {H:List ak}
abbrev tq(R P:PV)(a b:Option PV)(H:List ak):cz:=⟨[some (.ref 0),some R,some P,a,b],H⟩
theorem DS(k:Nat)(hk:4<=k)(h:c7 m most)(D:H[0]?=some (HS m)){r:Ro}{C:Cs}{M:Nat}(ok:ou C m.ks M r):run txt (k+4) "_law_through" [.ref 0,bB m.fn r] H=some (.ok (.lst ((HR r).map pL)),H):=by
 obtain⟨ps,X,lY,E,I⟩:=WA m.fn (λj=>⟨_,rfl⟩) r
 have i:=Mz h ok;have dM:(Mx r).length<=10:=by
  have v:∀o:Op,(nj o).length<=1:=λo=>by cases o<;>simp[nj]
  cases r with
  | put Q s o=>have:=v o;show(nj o).length+1<=10;lia
  | set s g a b=>have:=v a;have:=v b;show(nj a++nj b).length+1<=10;rw[aZ];lia
  | call l j c=>have:=ok.2.2.2.2.1;show((c.filter _).map _).length<=10;rw[aj];exact bK (By ..) (by lia)
  | AU a=>have:=v a;show(nj a).length<=10;lia
  | eA z=>cases z with
   | none=>exact fj _
   | some q=>show(if dy q.2=true then _ else _:List Sp).length<=10;split<;>simp
  | _=>show List.length _<=10;simp[Mx,MZ]
 obtain⟨y4,R⟩:=A9 k hk D (some (bB m.fn r)) (some (.lst ((Mx r).map aU))) (Mx r) [] none i (λs Y=>tl3 h (i s Y)) (by simp;lia)
 rw[fK,My]at R;have Z:Ek (di false [none,none] (jF (cutE (rd 1) (rh (kI 1)) (aW none))) (jD (aV 1) (dN (fX (Ux .tuple (rd 1))) (dN Qw (fX (Ux .bool Q2)) (aW false)) (aW false)) (rd 1))) ⟨[some (.ref 0),some (bB m.fn r),none,none,none],H⟩ (.lst ((MZ r).map aU)):=by
  rw[<-I];exact cQ (sV (cE rfl rfl rfl (X _)) rfl) (by lia) λp hp=>aaF _ (E p hp)
 have f:∀(J P1:PV),Ev Q1 (tq (bB m.fn r) (.lst ((MZ r).map aU)) none none H) .nx (tq (bB m.fn r) J none none H)->Ev Q6 (tq (bB m.fn r) J none none H) .nx (tq (bB m.fn r) (.lst ((Mx r).map aU)) none none H)->run txt (k+4) "_law_through" [.ref 0,bB m.fn r] H=some (.ok (.lst ((HR r).map pL)),H):=λJ P1 e2 e3=>by
  rw[xM];exact j4 (sq (aS Z rfl) (sq e2 (sq e3 (sq (aS (p:=.lst []) rfl rfl) (sq (fS (sV rfl rfl) R) (rS rfl))))))
 have u:∀(w:Str),(∀H,bR H (bB m.fn r) (.int 0)=some (.str w))->iL H (.str w) (.str "call")=some (.bl false)->Ek Q1 (tq (bB m.fn r) (.lst ((MZ r).map aU)) none none H) .nx:=λw L N=>iF (bT (b2 (b2 rfl rfl (L _)) rfl N)) rfl
 have B:∀(w:Str) (P:PV),(∀H,bR H (bB m.fn r) (.int 0)=some (.str w))->iL H (.str w) (.str "give")=some (.bl false)->Ek Q6 (tq (bB m.fn r) P none none H) .nx:=λw P L N=>iF (iF (bT (b2 (b2 rfl rfl (L _)) rfl N)) rfl) rfl
 cases r with
 | put Q s o=>cases Q<;>exact f _ .bj (u _ (λ_=>rfl) (by kernel_rfl)) (B _ _ (λ_=>rfl) (by kernel_rfl))
 | iA y b s=>cases b<;>exact f _ .bj (u _ (λ_=>rfl) (by kernel_rfl)) (B _ _ (λ_=>rfl) (by kernel_rfl))
 | call l j c =>
  refine f (.lst ((Mx (.call l j c)).map aU)) .bj (iT (bT (b2 (b2 rfl rfl rfl) rfl (by kernel_rfl))) (aS (p:=.lst ((Mx (.call l j c)).map aU)) (s1:=tq (bB m.fn (.call l j c)) (.lst ((MZ (.call l j c)).map aU)) none none H) ?_ rfl)) (B _ _ (λ_=>rfl) (by kernel_rfl))
  show Ev _ _ (PV.lst (((c.filter λq=>dy q.2).map λq=>(⟨q.1,q.2,jo (bE q.2),.bj⟩:Sp)).map aU)) _
  rw[c6,show(aU ∘ λq:Rk=>(⟨q.1,q.2,jo (bE q.2),.bj⟩:Sp))=λq:Rk=>aU ⟨q.1,q.2,jo (bE q.2),.bj⟩from rfl,<-So c ok.2.2.2.1]
  exact cQ (sV (b2 rfl rfl rfl) rfl) (by rw[aj];have:=ok.2.2.2.2.1;lia) λp hp=>by
   obtain⟨q,hq,rfl⟩:=az.mp hp;exact aaG D (ok.2.2.2.1 q hq)
 | eA z =>
  cases z with
  | none=>exact f _ .bj (u _ (λ_=>rfl) (by kernel_rfl)) (iF (iT (bT (b2 (b2 rfl rfl rfl) rfl (by kernel_rfl))) (iF (bT (b2 (b2 rfl rfl rfl) rfl (by kernel_rfl))) rfl)) rfl)
  | some q =>
   have T:=ok q rfl;have e:=h.ks.ne q T;obtain⟨x,d⟩:=q;have e:JF H (.str x) (.str "")=some (.bl true):=by
    show some (PV.bl (!(x==Str.ofString "")))=_;rw[e];rfl
   have hx:=Mw D T;have t:Ek Q0 (tq (bB m.fn (.eA (some (x,d)))) (.lst ((MZ (.eA (some (x,d)))).map aU)) none none H) (dy d):=iT (bT (b2 (b2 rfl rfl rfl) rfl (by kernel_rfl))) (iT (bT (b2 (b2 rfl rfl rfl) rfl e)) (bT (b2 (b2 (b2 rfl (b2 rfl rfl rfl) hx) rfl (lT _ _)) rfl (mQ _ _))))
   refine f _ .bj (u _ (λ_=>rfl) (by kernel_rfl)) ?_
   cases d with
   | ow s=>exact iF t rfl
   | ho b s=>exact iT t (aS (lS (ps:=[.ao [.str x,.bl true,.ao [],.bj]]) (cA (tU (ps:=[.str x,.bl true,.ao [],.bj]) (cA (b2 rfl rfl rfl) (cA rfl (cA rfl (cA rfl rfl)))) (by simp)) rfl) (by simp)) rfl)
 | _=>exact f _ .bj (u _ (λ_=>rfl) (by kernel_rfl)) (B _ _ (λ_=>rfl) (by kernel_rfl))
theorem MA(k:Nat){r:Ro}:Gives (run txt (k+1) "_law_given" [bB m.fn r] []) (.str (QH r)):=by
 have e:∀(R:PV) (w:Str),(∀h,bR h R (.int 0)=some (.str w))->pO false [] (.str w) (.ao [.str "lend",.str "sole",.str "call"])=some (.bl false)->Gives (run txt (k+1) "_law_given" [R] []) (.str (Str.ofString "")):=λR w c d=>by
  rw[sy];exact gV (sq (iF (bT (b2 (b2 rfl rfl (c _)) rfl d)) rfl) (rS (p:=.str (Str.ofString "")) rfl)) rfl
 have a:∀(R:PV) (w x:Str),(∀h,bR h R (.int 0)=some (.str w))->(∀h,bR h R (.int 1)=some (.str x))->pO false [] (.str w) (.ao [.str "lend",.str "sole",.str "call"])=some (.bl true)->Gives (run txt (k+1) "_law_given" [R] []) (.str x):=λR w x c d f=>by
  rw[sy];exact gV (yx (iT (bT (b2 (b2 rfl rfl (c _)) rfl f)) (rS (b2 rfl rfl (d _))))) rfl
 cases r with
 | iA y b s=>cases b<;>exact a _ _ y (λ_=>rfl) (λ_=>rfl) (by kernel_rfl)
 | call i j l=>exact a _ _ _ (λ_=>rfl) (λ_=>rfl) (by kernel_rfl)
 | put g s o=>cases g<;>exact e _ _ (λ_=>rfl) (by kernel_rfl)
 | _=>exact e _ _ (λ_=>rfl) (by kernel_rfl)
end
theorem yn(c:CT)(A:PV):∀(as:List (Nat×bY)) (i:Nat) (kvs:List (bz×PV)) (f g:Option PV),kvs.length<=i->i+as.length<=90000 ->
  ∃b d,dv (gj 2 Q3) (oU c) (dZ i (as.map eN)) ⟨[some A,some (.ref 0),f,g],[dC kvs]⟩=some (.ok .nx,⟨[some A,some (.ref 0),b,d],[dC (iB as i kvs)]⟩)
 | [],i,kvs,f,g,_,_=>⟨f,g,rfl⟩
 | (j,a)::as,i,kvs,f,g,l,k=>by
  rw[aN]at k;obtain⟨p,hp⟩:=LB (kvs:=kvs) (by lia)
  have h:Ev (oU c) ⟨[some A,some (.ref 0),some (.int (i:Int)),some (jq j a)],[dC kvs]⟩ .nx ⟨[some A,some (.ref 0),some (.int (i:Int)),some (jq j a)],[match bF kvs (.inl (j:Int))with | some _=>dC kvs | none=>dC (kvs++[(.inl (j:Int),.int (i:Int))])]⟩:=dS (W6 rfl rfl (cA (b2 rfl rfl rfl) (cA rfl rfl)) hp)
  cases e:bF kvs (.inl (j:Int))with
  | some v =>
   rw[e]at h;obtain⟨b,d,z⟩:=yn c A as (i+1) kvs (some (.int (i:Int))) (some (jq j a)) (by lia) (by lia)
   rw[iB,e];exact⟨b,d,fC rfl h z⟩
  | none =>
   rw[e]at h;obtain⟨b,d,z⟩:=yn c A as (i+1) (kvs++[(.inl (j:Int),.int (i:Int))]) (some (.int (i:Int))) (some (jq j a)) (by rw[aZ];simp;lia) (by lia)
   rw[iB,e];exact⟨b,d,fC rfl h z⟩
section
variable {m:Md} {most:Nat} {H:List ak}
def SV(m:Md):PV:=.nd (dC (iB m.as 0 [])).k (dC (iB m.as 0 [])).ps
theorem MB{N:Nat}:∀kvs:List (bz×PV),VY N kvs->ai (kvs.map (·.2))=true
 | [],_=>rfl
 | q::l,h=>by
  obtain⟨n,e,_⟩:=h q aD;rw[aI,ai,e,MB l λr a=>h r (aG _ a)]
  rfl
theorem aaH(h:c7 m most)(a:most<=20):ai (dC (iB m.as 0 [])).ps=true:=by
 have:=kc h;exact MB _ (ij (run txt 0) .bj .bj .bj m.as 0 [] none none (λ_ z=>nomatch z) (by simp) (by lia)).2.1
theorem HU(k:Nat)(h:c7 m most)(a:most<=20):Gives (run txt (k+1) "_law_starts" [.lst (m.as.map eN)] []) (SV m):=by
 have b:=kc h;obtain⟨c,d,z⟩:=yn (run txt k) (.lst (m.as.map eN)) m.as 0 [] none none (by simp) (by lia)
 rw[As];refine⟨.ref 0,_,j4 (sq rfl (sq (fS (sG (eV rfl rfl)) z) (rS rfl))),?_⟩;have nr:=aaH h a;unfold kL;rw[show([dC (iB m.as 0 [])]:List ak).isEmpty=false from rfl,if_neg c5]
 unfold oJ;rw[if_neg (by simp[noRef])]
 show(if live (dC (iB m.as 0 []))=true then(cb (oJ [dC (iB m.as 0 [])] 3) (dC (iB m.as 0 [])).ps).map (PV.nd _)else none)=_
 rw[if_pos (show live (dC (iB m.as 0 []))=true from rfl),AE _ nr]
 rfl
theorem aaI{j:Nat}{r:Ro}(a:m.L[j]?=some r)(H:List ak):bR H (SV m) (iN j)=some (iN (FE m j)):=by
 obtain⟨_,e⟩:=kh a;show eH [.inl (j:Int)] ((iB m.as 0 []).map λq=>[q.1]) ((iB m.as 0 []).map (·.2))=_
 rw[iV,e];rfl
end
def Ii:List Ro->Str->Int->Prop
 | [],_,_=>False
 | r::L,x,l=>(x,l)∈HR r\/(x≠QH r/\Ii L x l)
section
variable {m:Md} {most:Nat} {x:Str} {l:Int} {A:List (List Nat)} {ag:dz}
def Ho(m:Md)(x:Str):Prop:=∃d,(x,d)∈m.ks/\dy d=true
theorem aaJ(h:c7 m most){r:Ro}{C:Cs}{M:Nat}(ok:ou C m.ks M r)(a:(x,l)∈HR r):Ho m x:=by
 rw[<-My]at a;obtain⟨s,b,a⟩:=dR.mp a;unfold iW at a;split at a
 ·rename_i c;obtain⟨rfl,_⟩:=Mq a;exact⟨_,(Mz h ok s b).mem,c⟩
 ·cases a
theorem FK(h:c7 m most):∀L:List Ro,(∀r∈L,r∈m.L)->Ii L x l->Ho m x
 | [],_,z=>z.elim
 | r::L,a,z=>by
  rcases z with z | z
  ·exact aaJ h (h.ok r (a r aD)) z
  ·exact FK h L (λr b=>a r (aG _ b)) z.2
theorem Sq(g:Ho m x):x≠Str.ofString "":=by
 obtain⟨d,g,_⟩:=g;obtain⟨i,_,e⟩:=L8 g;have e:x=gS m.C i:=e;subst e;exact eR.mp (DK m.C i)
theorem WB{d e:Kn}(h1:(x,d)∈m.ks)(h2:(x,e)∈m.ks):d=e:=by
 have a:=fU m.ks _ o9 h1;have b:=fU m.ks _ o9 h2;exact cj (a.symm.trans b)
theorem aaK{r:Ro}{C:Cs}{M:Nat}(ok:ou C m.ks M r)(g:Ho m x)(hk:∀a∈ni r,a.k≠x):x≠QH r:=by
 cases r with
 | iA y b s=>exact λz=>hk (ng (lw b) s y) (ax.mpr rfl) z.symm
 | call c j h =>
  cases c with
  | none=>exact Sq g
  | some q =>
   obtain⟨y,d⟩:=q;cases d with
   | ow s =>
    intro z;have z:x=y:=z;subst z;obtain⟨d,e,f⟩:=g;cases WB e (ok.2.2.2.2.2 _ rfl);cases f
   | ho b s=>exact λz=>hk ⟨"take","",false,0,0,y⟩ (bW _ (aG _ (ax.mpr rfl))) z.symm
 | _=>exact Sq g
def Ba(T:List (Str×Int))(a:bY):Prop:=a.w≠Str.ofString "hand"/\(a.t=true->∀l∈MV a,(a.n,l)∈T)
theorem yo{s:Sp}{T:List (Str×Int)}(w t:Str)(hw:w≠Str.ofString "hand")(a:∀q∈iW s,q∈T):Ba T (ng w s t):=by
 refine⟨hw,λht l b=>a _ ?_⟩
 have ht:dy s.d=true:=ht;unfold iW;rw[if_pos ht];obtain⟨i,c,rfl⟩:=az.mp b;exact az.mpr ⟨i,c,rfl⟩
theorem aaL{T:List (Str×Int)}(a:PV):∀b∈E2 a,Ba T b:=by
 unfold E2;split
 ·intro b c;cases ax.mp c;exact⟨by show Str.ofString "read"≠_;decide +kernel,λz=>nomatch z⟩
 ·intro b c;cases c
theorem QK{T:List (Str×Int)}(o:Op)(c:∀q∈(nj o).flatMap iW,q∈T):∀b∈p8 o,Ba T b:=by
 cases o with
 | n i=>intro b a;cases a
 | s s =>
  intro b a;rcases aX.mp a with a | a
  ·exact aaL _ b a
  ·cases ax.mp a;exact yo _ _ (by decide +kernel) λq d=>c q (dR.mpr ⟨s,ax.mpr rfl,d⟩)
theorem aaM{T:List (Str×Int)}(s:Sp)(c:∀q∈iW s,q∈T):∀b∈uu s,Ba T b:=by
 unfold uu;split
 ·intro b a;cases ax.mp a;exact yo _ _ (by decide +kernel) c
 ·intro b a;rcases aX.mp a with a | a
  ·exact aaL _ b a
  ·cases ax.mp a;exact yo _ _ (by decide +kernel) c
theorem aaN{T:List (Str×Int)}{q:Rk}{a:bY}(hw:a.w≠Str.ofString "hand")(h:∀b s,q.2=Kn.ho b s->∃w t,a=tA w q.1 q.2 (jo s) t)(ho:∀s,q.2=Kn.ow s->a.t=false)(c:∀p∈DQ q,p∈T):Ba T a:=by
 refine⟨hw,λht l e=>c _ ?_⟩
 obtain⟨y,d⟩:=q;cases d with
 | ow s=>rw[ho s rfl]at ht;cases ht
 | ho b s =>
  obtain⟨w,t,rfl⟩:=h b s rfl;obtain⟨i,f,rfl⟩:=az.mp e;exact az.mpr ⟨i,f,rfl⟩
theorem Sr(s:Sh):oW s≠Str.ofString "hand":=by
 unfold oW;split<;>decide +kernel
theorem Ss{T:List (Str×Int)}:∀(c:List Rk) (i:Nat),(∀q∈c.flatMap DQ,q∈T)->∀a∈gQ i c,Ba T a
 | [],_,_,_,h=>nomatch h
 | q::c,i,d,a,h=>by
  rcases aF.mp h with rfl | h
  ·refine aaN (q:=q) ?_ ?_ ?_ λp hp=>d p (dR.mpr ⟨q,aD,hp⟩)
   ·unfold PC;split
    ·exact Sr _
    ·rename_i b s _;cases b<;>(show Str.ofString _≠_;decide +kernel)
   ·intro b s e;unfold PC;rw[e];exact⟨_,_,rfl⟩
   ·intro s e;unfold PC;rw[e];rfl
  ·exact Ss c (i+1) (λp hp=>d p (by rw[dQ];exact bW _ hp)) a h
theorem aaO{r:Ro}(k:∀tk j i,r≠.call tk j i):∀a∈ni r,Ba (HR r) a:=by
 have sp:∀(L:List Sp) (s:Sp),s∈L->∀q∈iW s,q∈L.flatMap iW:=λL s u q f=>dR.mpr ⟨s,u,f⟩
 have two:∀{a b c:bY},a∈[b,c]->a=b\/a=c:=λh=>by simpa using h
 intro a d;cases r with
 | put v s o=>exact(aX.mp d).elim (QK o (λq f=>bW _ f) a) (aaM s (sp (s::nj o) s aD) a)
 | set s w a1 g =>
  have e:HR (.set s w a1 g)=iW s++((nj a1).flatMap iW++(nj g).flatMap iW):=by show(s::(nj a1++nj g)).flatMap iW=_;rw[dQ,List.flatMap_append]
  rw[e];rcases aX.mp d with d | d
  ·rcases aX.mp d with d | d
   ·exact QK a1 (λq f=>bW _ (dI _ f)) a d
   ·exact QK g (λq f=>bW _ (bW _ f)) a d
  ·exact aaM s (λq f=>dI _ f) a d
 | mU t s =>
  rcases two d with rfl | rfl
  ·exact yo _ _ (by decide +kernel) (sp [t,s] s (by simp))
  ·exact yo _ _ (by decide +kernel) (sp [t,s] t (by simp))
 | mV t s =>
  rcases two d with rfl | rfl
  ·exact yo _ _ (by decide +kernel) (sp [t,s] s (by simp))
  ·exact yo _ _ (by decide +kernel) (sp [t,s] t (by simp))
 | drop s=>cases ax.mp d;exact yo _ _ (by decide +kernel) (sp [s] s (by simp))
 | iA y b s=>cases ax.mp d;exact yo _ _ (by cases b<;>decide +kernel) (sp [s] s (by simp))
 | call tk j i=>exact absurd rfl (k tk j i)
 | AU o=>exact QK o (λq f=>f) a d
 | eA z =>
  cases z with
  | none=>cases d
  | some q =>
   cases ax.mp d;refine aaN (q:=q) ?_ ?_ ?_ λp hp=>hp
   ·unfold RT;split
    ·exact Sr _
    ·show Str.ofString "give"≠_;decide +kernel
   ·intro b s e;unfold RT;rw[e];exact⟨_,_,rfl⟩
   ·intro s e;unfold RT;rw[e];rfl
def Sb(m:Md)(j:Nat)(bs:List bY)(x:Str)(l:Int):Prop:=(∃b a b2,bs=b++a::b2/\(x,l)∈HP m (j,a)/\∀c∈b,c.k≠x)\/((∀c∈bs,c.k≠x)/\Ii (m.L.drop (j+1)) x l)
theorem WC{a:bY}{l:List bY}(h:a∈l):a∈cf l:=by
 cases l with
 | nil=>cases h
 | cons=>exact h
theorem WD{a:bY}{l:List bY}(h:a∈cf l):a=Av\/a∈l:=by
 cases l with
 | nil=>exact .inl (ax.mp h)
 | cons=>exact .inr h
theorem DT{T:List (Str×Int)}{j:Nat}{a:bY}(f:Ba T a)(h:(x,l)∈HP m (j,a)):(x,l)∈T:=by
 unfold HP at h;rw[if_neg (by rw[eR.mpr f.1];exact c5)]at h
 split at h
 ·rename_i ht;obtain⟨i,b,e⟩:=az.mp h;cases e;exact f.2 ht _ b
 ·cases h
end
theorem tj{h:bY}{K:List bY}:∀(T d:List bY) {a:bY} {b2:List bY},d++a::b2=T++h::K->(∀c∈T,c.w≠Str.ofString "hand")->a.w=Str.ofString "hand"->∀c∈T,c∈d
 | [],_,_,_,_,_,_,_,z=>nomatch z
 | t::T,[],a,b2,e,f,g,_,_=>by
  injection e with e1 i
  subst e1;exact absurd g (f _ aD)
 | t::T,b::d,a,b2,e,f,g,c,hc=>by
  injection e with e1 i
  subst e1;rcases aF.mp hc with rfl | hc
  ·exact aD
  ·exact aG _ (tj T d i (λc hc=>f c (aG _ hc)) g c hc)
section
variable {m:Md} {most:Nat} {x:Str} {l:Int} {A:List (List Nat)} {ag:dz}
theorem MC(tk:Option Rk):∀a∈lQ tk,a.w≠Str.ofString "hand"/\a.t=false/\lnd a=false:=by
 cases tk with
 | none=>exact λ_ z=>nomatch z
 | some q =>
  obtain⟨y,d⟩:=q;cases d with
  | ow s=>intro a c;cases ax.mp c;exact⟨by show Str.ofString "fill"≠_;decide +kernel,rfl,by show((Str.ofString "lend"==Str.ofString "fill") || ((Str.ofString "sole"==Str.ofString "fill") || false))=false;decide +kernel⟩
  | ho b s=>intro a c;cases ax.mp c;exact⟨by show Str.ofString "take"≠_;decide +kernel,rfl,by show((Str.ofString "lend"==Str.ofString "take") || ((Str.ofString "sole"==Str.ofString "take") || false))=false;decide +kernel⟩
theorem QL{j:Nat}{r:Ro}(f:m.L[j]?=some r){q:Nat×bY}(d:q∈m.as)(e:q.1=j):q.2∈cf (ni r):=by
 obtain⟨b,c,h,_⟩:=FF f;rw[h.eq]at d;rcases aX.mp d with d | d
 ·rcases aX.mp d with d | d
  ·exact absurd e (h.fb q d)
  ·obtain⟨a,g,rfl⟩:=az.mp d;exact g
 ·exact absurd e (h.c q d)
theorem WE{j:Nat}{r:Ro}(v:m.L[j]?=some r){o:List bY}{a:bY}{b2:List bY}(e:cf (ni r)=o++a::b2)(b:(x,l)∈HP m (j,a))(hc:∀c∈o,c.k≠x):(x,l)∈HR r:=by
 have d:a∈cf (ni r):=by rw[e];exact bW _ aD
 by_cases t:∃h i f,r=.call h i f
 ·obtain⟨h,i,f,rfl⟩:=t;have p:cf (ni (.call h i f))=gQ 0 f++j8::lQ h:=by show cf (gQ 0 f++j8::lQ h)=_;cases gQ 0 f<;>rfl
  rw[p]at d;have u:=Ss (T:=f.flatMap DQ) f 0 λ_ z=>z
  rcases aX.mp d with d | d
  ·exact DT (u a d) b
  ·rcases aF.mp d with rfl | d
   ·have b:(x,l)∈Ih m.as j:=by
     unfold HP at b;rw[if_pos (show((j,j8).2.w==Str.ofString "hand")=true from(by decide +kernel:(Str.ofString "hand"==Str.ofString "hand")=true))]at b
     exact b
    obtain⟨q,B,b⟩:=dR.mp b;unfold HN at b;split at b
    ·rename_i z;rw[aO,qE]at z;obtain⟨y,_,e1⟩:=az.mp b;cases e1;have g:=QL v B z.1;rw[p]at g;rcases aX.mp g with g | g
     ·exact absurd rfl (hc q.2 (tj (gQ 0 f) o (e.symm.trans p) (λc hc=>(u c hc).1) rfl q.2 g))
     ·rcases aF.mp g with g | g
      ·rw[g]at z;exact absurd z.2 (by show ¬(((Str.ofString "lend"==Str.ofString "hand") || ((Str.ofString "sole"==Str.ofString "hand") || false))=true);decide +kernel)
      ·rw[(MC h q.2 g).2.2]at z;exact absurd z.2 c5
    ·cases b
   ·obtain⟨C,D,_⟩:=MC h a d;exact DT ⟨C,λz=>by rw[D]at z;cases z⟩ b
 ·refine DT ?_ b;rcases WD d with rfl | d
  ·exact⟨by show Str.ofString "rest"≠_;decide +kernel,λz=>nomatch z⟩
  ·exact aaO (λh i f z=>t ⟨h,i,f,z⟩) a d
theorem yp{j:Nat}{r:Ro}(a:m.L[j]?=some r):m.L.drop j=r::m.L.drop (j+1):=by
 obtain⟨b,c⟩:=bu.mp a;rw[nu b,c]
theorem MD(h:c7 m most){j:Nat}{r:Ro}(b:m.L[j]?=some r)(d:Sb m j (cf (ni r)) x l):Ii (m.L.drop j) x l:=by
 rw[yp b];rcases d with⟨i,a,b2,e,f,hc⟩ | ⟨hk,c⟩
 ·exact .inl (WE b e f hc)
 ·exact .inr ⟨aaK (h.ok r (cZ b)) (FK h _ (λr b=>BC b) c) λa g=>hk a (WC g),c⟩
theorem told_sb(h:c7 m most)(T:HQ m A ag):∀(N i:Nat) (f:Fe) (c:Int) (j:Nat) (r:Ro) (bs:List bY),i<N->ag[i]?=some (kE f,c)->m.L[j]?=some r->bs≠[]->kf m j f.n bs->Sb m j bs f.x f.l
 | 0,_,_,_,_,_,_,E,_,_,_,_=>absurd E (BX _)
 | N+1,i,f,c,j,r,[],E,ht,C,Y,R=>absurd rfl Y
 | N+1,i,f,c,j,r,a::bs,E,ht,C,Y,R=>by
  obtain⟨H,h2,h3⟩:=qe R;rcases T.why i (kE f) c ht with⟨_,b⟩ | ⟨Z,g,d,fs,fE,_,hg,ho,b⟩
  ·obtain⟨t,b,e⟩:=az.mp b;have e:=cV Wt e;rw[mZ,mZ]at e;cases e;obtain⟨k,q,hq,b⟩:=(FC m m.as 0 f).mp b;obtain⟨y,hy,rfl⟩:=az.mp b;have tO:m.as[0+k]?=some q:=by rw[eS];exact hq
   cases cj (tO.symm.trans H);exact .inl ⟨[],a,bs,rfl,hy,λ_ z=>nomatch z⟩
  ·unfold sZ at ho;obtain⟨t,d1,d2⟩:=aR ho;obtain⟨ll,d3,rfl⟩:=br d2;cases m4 d1;obtain⟨f2,b,e⟩:=az.mp b;have e:=cV Wt e;rw[mZ,mZ]at e;cases e;obtain⟨n,I,rfl⟩:=az.mp b;obtain⟨I,u⟩:=b7.mp I;have hk:a.k≠t.x:=by
    unfold yj at u;rw[H]at u;intro z;have u:(!(a.k==t.x))=true:=u;rw[z,ly]at u;cases u
   obtain⟨ls,e1,v⟩:=T.ah.only _ _ d3 n I;rw[Mo H]at e1;cases e1;by_cases o:bs=[]
   ·rw[h2 o]at v;subst o;obtain⟨j',D,J⟩:=az.mp v;have w:m.nx j=DN j r:=by unfold Md.nx;rw[C]
    rw[w]at D;have ej:j'=j+1:=by
     cases r with
     | eA z=>cases D
     | _=>exact ax.mp D
    subst ej;have M:=(Mf h C).2 _ D;obtain⟨B,Q⟩:∃B,m.L[j+1]?=some B:=⟨_,bQ M⟩
    obtain⟨a0,l0,ne⟩:=yl (ni B);have ih:=told_sb h T N Z t d (j+1) B (cf (ni B)) (by lia) hg Q (by rw[ne];exact BR _ _) (by rw[<-J];exact(kh Q).1)
    exact .inr ⟨λc hc=>by cases ax.mp hc;exact hk,MD h Q ih⟩
   ·obtain⟨J,X⟩:=h3 o;rw[J]at v;have v:=ax.mp v;have X:kf m j t.n bs:=by rw[v];exact X
    rcases told_sb h T N Z t d j r bs (by lia) hg C o X with⟨b1,a',b2,e4,w,hc⟩ | ⟨hc,w⟩
    ·refine .inl ⟨a::b1,a',b2,by rw[e4];rfl,w,λc p=>?_⟩
     rcases aF.mp p with rfl | p
     ·exact hk
     ·exact hc c p
    ·refine .inr ⟨λc p=>?_,w⟩
     rcases aF.mp p with rfl | p
     ·exact hk
     ·exact hc c p
theorem aaP(h:c7 m most)(T:HQ m A ag){j:Nat}{r:Ro}(a:m.L[j]?=some r)(hk:MY ag (FE m j) x l):Ii (m.L.drop j) x l:=by
 obtain⟨t,ht,e⟩:=az.mp hk;obtain⟨i,b,d⟩:=qj ht;obtain⟨g,c⟩:=t;have e:g=_:=e;subst e;obtain⟨f,k,ne⟩:=yl (ni r);exact MD h a (told_sb h T _ i ⟨FE m j,x,l⟩ c j r _ (qx i) (by rw[bQ b,d]) a (by rw[ne];exact BR _ _) (kh a).1)
theorem ME(h:c7 m most)(T:HQ m A ag):∀(n j:Nat) (r:Ro),m.L.length<=j+n->m.L[j]?=some r->Ii (m.L.drop j) x l->Pj m ag j x l
 | 0,j,r,f,a,_=>by
  have:=(bu.mp a).1
  lia
 | n+1,j,r,f,a,b=>by
  have ho:=FK h _ (λr a=>BC a) b
  obtain⟨d,g,_⟩:=ho;rw[yp a]at b;rcases b with b | ⟨b,hd⟩
  ·exact Mt h T a ⟨d,g⟩ b
  ·have c:j+1<m.L.length:=by
    apply Classical.byContradiction;intro z;rw[vG (by lia)]at hd
    exact hd
   have i:=bQ c;refine Mu h T a (j':=j+1) ?_ (ME h T n (j+1) _ (by lia) i hd) b
   unfold Md.nx;rw[a];cases r with
   | eA z =>
    obtain⟨L,e,_,k⟩:=h.rows;have o:j<L.length:=by rw[e,aZ]at c;simp at c;lia
    rw[e,cU o]at a;exact absurd (k _ (cZ a)) (by simp[isG])
   | _=>exact ax.mpr rfl
end
def R0(n:Nat)(t:List bz×Int):Option (Str×Int):=(Wt t.1).bind λf=>if f.n=n then some (f.x,f.l)else none
def tJ(a:dz)(n:Nat):List (Str×Int):=a.filterMap (R0 n)
theorem Su(n:Nat)(f:Fe)(c:Int):R0 n (kE f,c)=if f.n=n then some (f.x,f.l)else none:=by
 unfold R0;rw[mZ];rfl
theorem MF(a:dz)(f:Fe)(c:Int)(n:Nat):tJ (a++[(kE f,c)]) n=tJ a n++if f.n=n then [(f.x,f.l)]else []:=by
 unfold tJ;rw[List.filterMap_append,jL,Su];by_cases e:f.n=n
 ·rw[if_pos e,if_pos e];rfl
 ·rw[if_neg e,if_neg e];rfl
theorem FL{a:dz}{n:Nat}{x:Str}{l:Int}:(x,l)∈tJ a n↔MY a n x l:=by
 unfold tJ MY;rw[nv,az];constructor
 ·rintro⟨t,ht,e⟩
  obtain⟨f,b,d⟩:=aR e;obtain⟨rfl,h⟩:=bP d;cases h;exact⟨t,ht,m4 b⟩
 ·rintro⟨t,ht,e⟩
  refine⟨t,ht,?_⟩;obtain⟨g,c⟩:=t;have e:g=_:=e;subst e;rw[Su,if_pos rfl]
theorem DU{n:Nat}:∀a:dz,(a.map (·.1)).Nodup->(tJ a n).Nodup
 | [],_=>jO
 | t::a,h=>by
  rw[aI,fL]at h;have ih:=DU (n:=n) a h.2;show((t::a).filterMap (R0 n)).Nodup;rw[jL];cases e:R0 n t with
  | none=>exact ih
  | some q =>
   refine fL.mpr ⟨λb=>h.1 ?_,ih⟩
   obtain⟨x,l⟩:=q;have:=FL.mp (show(x,l)∈tJ a n from b)
   obtain⟨f,c,d⟩:=aR e;obtain⟨rfl,g⟩:=bP d;cases g;rw[m4 c];exact this
structure Sv (C0:ak) (ts:dz) (h:List ak) (kvs:List (bz×PV)):Prop where
 z:h[0]?=some C0
 d:h[1]?=some (dC kvs)
 len:kvs.length<=ts.length
 no:∀n:Nat,bF kvs (.inl (n:Int))=none->tJ ts n=[]
 at_:∀(n:Nat) (p:PV),bF kvs (.inl (n:Int))=some p->∃i,p=.ref i/\2<=i/\h[i]?=some ⟨.lst,(tJ ts n).map pL⟩
 inj:∀(n n' i:Nat),bF kvs (.inl (n:Int))=some (.ref i)->bF kvs (.inl (n':Int))=some (.ref i)->n=n'
theorem aaQ{ρ:List (Option PV)}{H:List ak}{n:Nat}{kvs:List (bz×PV)}{j:Int}{y:PV}(hc:H[n]?=some (dC kvs))(a:kvs.length<4000000):iO zy (.ref n) [.int j,y] ⟨ρ,H⟩=some (.ok ((bF kvs (.inl j)).getD y),⟨ρ,H.set n (match bF kvs (.inl j)with | some _=>dC kvs | none=>dC (kvs++[(.inl j,y)]))⟩):=by
 have c:gX H (.ref n)=some (n,dC kvs):=by
  show(H[n]?).bind _=_;rw[hc];rfl
 show(gX H (.ref n)).bind _=_;rw[c,cH];show Option.map _ (if(kvs.map λq=>[q.1]).length<fD then(if jC [.inl j] (kvs.map λq=>[q.1])=true then(eH [.inl j] (kvs.map λq=>[q.1]) (kvs.map (·.2))).map λp=>(dC kvs,p)else some (⟨.fu false ((kvs.map λq=>[q.1])++[[.inl j]]),kvs.map (·.2)++[y]⟩,y))else none)=_
 rw[if_pos (show(kvs.map λq=>[q.1]).length<fD by rw[aj];exact a),qa,iV]
 cases bF kvs (.inl j)with
 | some v=>rfl
 | none=>simp[dC]
theorem oz(kvs:List (bz×PV))(k k':bz)(p:PV)(h:bF kvs k=none):bF (kvs++[(k,p)]) k'=if k=k' then some p else bF kvs k':=by
 unfold bF at h ⊢;rw[vK];by_cases e:k=k'
 ·subst e;rw[if_pos rfl,vI.mp h];simp
 ·rw[if_neg e];simp[e]
abbrev MH:Gx dE:=gq (yv "list" (iO (gU wO)) (yv "dict" (iO zy) (rd 5) (aq (rd 6) (aq Qh (aW [])))) (aq (kF .ao (aq (rd 7) (aq (rd 8) (aW [])))) (aW [])))
theorem DV{D:ak}{a:dz}{h:List ak}{kvs:List (bz×PV)}(E H J L M:Option PV)(N:List (Option PV))(f:Fe)(c:Int)(I:Sv D a h kvs)(hl:a.length<3000000)(Q:Option PV) :
  ∃h' Z,Sv D (a++[(kE f,c)]) h' Z/\Ev MH ⟨E::H::J::L::M::some (.ref 1)::some (iN f.n)::some (.str f.x)::some (.int f.l)::Q::N,h⟩ .nx ⟨E::H::J::L::M::some (.ref 1)::some (iN f.n)::some (.str f.x)::some (.int f.l)::Q::N,h'⟩:=by
 have R:2<=h.length:=(bu.mp I.d).1;have hk:=I.len;have atl:(tJ a f.n).length<=a.length:=List.length_filterMap_le ..;have d1:(h++[(⟨.lst,[]⟩:ak)])[1]?=some (dC kvs):=by rw[cU R];exact I.d
 have u:=λρ=>aaQ (ρ:=ρ) (j:=(f.n:Int)) (y:=.ref h.length) d1 (by lia)
 have T:∀n,tJ (a++[(kE f,c)]) n=tJ a n++if f.n=n then [(f.x,f.l)]else []:=MF a f c
 have v:∀n,f.n≠n->tJ (a++[(kE f,c)]) n=tJ a n:=λn k=>by rw[T,if_neg k,dB]
 have X:tJ (a++[(kE f,c)]) f.n=tJ a f.n++[(f.x,f.l)]:=by rw[T,if_pos rfl]
 have tl:(a++[(kE f,c)]).length=a.length+1:=by simp
 have kn:∀n:Nat,n≠f.n->(Sum.inl (f.n:Int):bz)≠.inl (n:Int):=λn k z=>k (by injection z with z;lia)
 cases e:bF kvs (.inl (f.n:Int))with
 | some p =>
  obtain⟨i,rfl,h2,Y⟩:=I.at_ f.n p e;have hi:=(bu.mp Y).1;rw[e]at u;have g:((h++[(⟨.lst,[]⟩:ak)]).set 1 (dC kvs))[i]?=some ⟨.lst,(tJ a f.n).map pL⟩:=by
   rw[c9 (by lia),cU hi];exact Y
  refine⟨((h++[(⟨.lst,[]⟩:ak)]).set 1 (dC kvs)).set i ⟨.lst,(tJ a f.n).map pL++[pL (f.x,f.l)]⟩,kvs,⟨?_,?_,by lia,λn k=>?_,λn p hp=>?_,I.inj⟩,?_⟩
  ·rw[c9 (by lia),c9 (by lia),cU (by lia)];exact I.z
  ·rw[c9 (by lia),gh (by simp;lia)]
  ·rw[v n λz=>by rw[z,k]at e;cases e]
   exact I.no n k
  ·obtain⟨m,rfl,w,q⟩:=I.at_ n p hp;refine⟨m,rfl,w,?_⟩;by_cases b:n=f.n
   ·subst b;rw[e]at hp;cases hp;rw[gh (by simp;lia),X,cm]
    rfl
   ·have B:i≠m:=λz=>b (I.inj _ _ m hp (z▸e))
    rw[c9 B,c9 (by lia),cU (bu.mp q).1,v n λz=>b z.symm]
    exact q
  ·exact dS (p:=.bj) (yy (W6 rfl I.d (cA rfl (cA (x:=.ref h.length) rfl rfl)) (u _)) g (cA (tU (ps:=[.str f.x,.int f.l]) (cA rfl (cA rfl rfl)) (by simp)) rfl) (aC g (by rw[aj];lia)))
 | none =>
  rw[e]at u;have e0:=I.no f.n e;have g:((h++[(⟨.lst,[]⟩:ak)]).set 1 (dC (kvs++[(.inl (f.n:Int),.ref h.length)])))[h.length]?=some ⟨.lst,[]⟩:=by
   rw[c9 (by lia),iX (aA _),qB];rfl
  have o:∀(n i:Nat),bF kvs (.inl (n:Int))=some (.ref i)->i<h.length:=λn i hp=>by
   obtain⟨m,ei,_,q⟩:=I.at_ n _ hp;cases ei;exact(bu.mp q).1
  refine⟨((h++[(⟨.lst,[]⟩:ak)]).set 1 (dC (kvs++[(.inl (f.n:Int),.ref h.length)]))).set h.length ⟨.lst,[]++[pL (f.x,f.l)]⟩,kvs++[(.inl (f.n:Int),.ref h.length)],⟨?_,?_,by rw[aZ,tl];simp;lia,λn k=>?_,λn p hp=>?_,λn C i hp r=>?_⟩,?_⟩
  ·rw[c9 (by lia),c9 (by lia),cU (by lia)];exact I.z
  ·rw[c9 (by lia),gh (by simp;lia)]
  ·rw[oz _ _ _ _ e]at k;split at k
   ·cases k
   ·rename_i b;rw[v n λz=>b (by rw[z])]
    exact I.no n k
  ·rw[oz _ _ _ _ e]at hp;split at hp
   ·rename_i b;cases hp;have b:f.n=n:=by injection b with z;lia
    subst b;refine⟨_,rfl,R,?_⟩;rw[gh (by simp),X,e0]
    rfl
   ·rename_i b;obtain⟨m,rfl,w,q⟩:=I.at_ n p hp;have:=o n m hp;refine⟨m,rfl,w,?_⟩;rw[c9 (by lia),c9 (by lia),cU this,v n λz=>b (by rw[z])]
    exact q
  ·rw[oz _ _ _ _ e]at hp r;split at hp
   ·rename_i b;have b:f.n=n:=by injection b with z;lia
    cases hp;split at r
    ·rename_i t;have t:f.n=C:=by injection t with z;lia
     lia
    ·have:=o C _ r;lia
   ·split at r
    ·cases r;have:=o n _ hp;lia
    ·exact I.inj n C i hp r
  ·exact dS (p:=.bj) (yy (W6 rfl I.d (cA rfl (cA (x:=.ref h.length) rfl rfl)) (u _)) g (cA (tU (ps:=[.str f.x,.int f.l]) (cA rfl (cA rfl rfl)) (by simp)) rfl) (aC g (by simp)))
theorem tu{E:ak}(d i j k m:Option PV)(o:List (Option PV)):∀(a b:dz) (h:List ak) (kvs:List (bz×PV)) (p q r v:Option PV),Sv E b h kvs->(∀t∈a,∃f,t.1=kE f)->b.length+a.length<3000000 ->
  ∃h' w y B C D,Sv E (b++a) h' w/\dv (gj 4 (cR (aV 6) (cR (aV 7) (cR (aV 8) (cR (aV 9) lK))))) MH (a.map toldP) ⟨d::i::j::k::m::some (.ref 1)::p::q::r::v::o,h⟩=some (.ok .nx,⟨d::i::j::k::m::some (.ref 1)::y::B::C::D::o,h'⟩)
 | [],b,h,kvs,p,q,r,v,I,_,_=>⟨h,kvs,p,q,r,v,by rw[dB];exact I,rfl⟩
 | t::a,b,h,kvs,p,q,r,v,I,hf,J=>by
  rw[aN]at J;obtain⟨f,e⟩:=hf t aD;obtain⟨g,c⟩:=t;have e:g=_:=e;subst e;obtain⟨L,M,N,e1⟩:=DV d i j k m o f c I (by lia) (some (.int c))
  obtain⟨h',w,y,B,C,D,H,Q⟩:=tu d i j k m o a (b++[(kE f,c)]) L M _ _ _ _ N (λu R=>hf u (aG _ R)) (by rw[aZ];simp;lia)
  exact⟨h',w,y,B,C,D,by rw[dA]at H;exact H,fC (s1:=⟨d::i::j::k::m::some (.ref 1)::some (iN f.n)::some (.str f.x)::some (.int f.l)::some (.int c)::o,h⟩) rfl e1 Q⟩
theorem aaR{f:ak}{a:dz}{h r:List ak}{kvs:List (bz×PV)}(I:Sv f a h kvs)(n:Nat):∃p,Kc (h++r) (.ref 1) [iN n,.lst []]=some p/\t9 (h++r) p=some ((tJ a n).map pL):=by
 have g:2<=h.length:=(bu.mp I.d).1;have c:gX (h++r) (.ref 1)=some (1,dC kvs):=by
  show((h++r)[1]?).bind _=_;rw[cU g,I.d];rfl
 have e:Kc (h++r) (.ref 1) [iN n,.lst []]=if jC [.inl (n:Int)] (kvs.map λq=>[q.1])=true then eH [.inl (n:Int)] (kvs.map λq=>[q.1]) (kvs.map (·.2))else some (.lst []):=by
  unfold Kc;rw[c];rfl
 rw[e,qa,iV];cases z:bF kvs (.inl (n:Int))with
 | none=>exact⟨.lst [],rfl,by rw[I.no n z];rfl⟩
 | some p =>
  obtain⟨i,rfl,_,b⟩:=I.at_ n p z;refine⟨.ref i,rfl,?_⟩;have j:cw (h++r) (.ref i)=some (.lst,(tJ a n).map pL):=by
   show((h++r)[i]?).bind _=_;rw[cU (bu.mp b).1,b];rfl
  unfold t9 qZ;rw[j]
def kP(q:Str×Int):List bz:=[.inr q.1,.inl q.2]
def ki(L:List (Str×Int))(ps:List PV):ak:=⟨.fu true (L.map kP),ps⟩
theorem MJ{p q:Str×Int}(h:kP p=kP q):p=q:=by
 obtain⟨x,l⟩:=p;obtain⟨y,k⟩:=q;injection h with b a
 injection a with a _
 injection b with b
 injection a with a
 exact Prod.ext b a
theorem DW{q:Str×Int}{L:List (Str×Int)}:kP q∈L.map kP↔q∈L:=by
 rw[az];exact⟨λ⟨p,hp,e⟩=>MJ e▸hp,λh=>⟨q,h,rfl⟩⟩
theorem FN(L:List (Str×Int)):jA (L.map kP)=L.map pL:=by
 unfold jA;rw[c6];rfl
theorem FO{k:List bz}{ks:List (List bz)}:jC k ks=true↔k∈ks:=by
 unfold jC;rw[List.any_eq_true];constructor
 ·rintro⟨j,a,b⟩;rw[<-d9 b];exact a
 ·exact λh=>⟨k,h,fg rfl⟩
theorem Bb(k:List bz)(q:PV):∀(ks:List (List bz)) (ps:List PV),(tW k q ks ps).length=ps.length
 | [],ps=>by rw[rj]
 | _::_,[]=>rfl
 | _::ks,_::ps=>cV (· + 1) (Bb k q ks ps)
section
variable {hd:List ak} {c c':ak} {L:List (Str×Int)} {ps:List PV} {q:Str×Int}
theorem yq:(hd++[c])[hd.length]?=some c:=by simp
theorem m7(a:live c=true):gX (hd++[c]) (.ref hd.length)=some (hd.length,c):=by
 show((hd++[c])[hd.length]?).bind _=_;rw[yq,cH,if_pos a]
theorem Bc:(hd++[c]).set hd.length c'=hd++[c']:=by simp
theorem WG(h1:L.length=ps.length)(h2:L.Nodup)(g:L.length<4000000):∃d f,d.length=f.length/\d.Nodup/\(∀y,y∈d↔y∈L\/y=q)/\d.length<=L.length+1/\∀ρ hd,CP (.ref hd.length) (pL q) (.bl true) ⟨ρ,hd++[ki L ps]⟩=some ⟨ρ,hd++[ki d f]⟩:=by
 have e:∀ρ hd,CP (.ref hd.length) (pL q) (.bl true) ⟨ρ,hd++[ki L ps]⟩=some ⟨ρ,hd++[mr true (kP q) (.bl true) (L.map kP) ps]⟩:=λρ hd=>by
  show(gX (hd++[ki L ps]) (.ref hd.length)).bind _=_;rw[m7 rfl,cH];show(if(L.map kP).length<fD then some (cz.mk ρ ((hd++[ki L ps]).set hd.length (mr true (kP q) (.bl true) (L.map kP) ps)))else none)=_
  rw[if_pos (show(L.map kP).length<fD by rw[aj];exact g),Bc]
 by_cases z:q∈L
 ·refine⟨L,tW (kP q) (.bl true) (L.map kP) ps,by rw[Bb];exact h1,h2,λy=>⟨.inl,λh=>h.elim id λe=>e▸z⟩,Nat.le_succ _,λρ hd=>?_⟩
  rw[e];unfold mr;rw[if_pos (FO.mpr (DW.mpr z))];rfl
 ·refine⟨L++[q],ps++[.bl true],by simp[h1],qm.mpr ⟨h2,by simp,λa i b j=>?_⟩,λy=>by simp,by simp,λρ hd=>?_⟩
  ·rw[ax.mp j];rintro rfl;exact z i
  ·rw[e];unfold mr;rw[if_neg λh=>z (DW.mp (FO.mp h))]
   unfold ki;rw[cm];rfl
theorem WH(h1:L.length=ps.length)(h2:L.Nodup)(k:q∈L):∃d f p,d.length=f.length/\d.Nodup/\(∀y,y∈d↔y∈L/\y≠q)/\d.length<=L.length/\∀ρ hd,iO Kb (.ref hd.length) [pL q] ⟨ρ,hd++[ki L ps]⟩=some (.ok p,⟨ρ,hd++[ki d f]⟩):=by
 obtain⟨j,g⟩:∃j,(L.map kP).findIdx? (λy=>decide (y=kP q))=some j:=by
  cases e:(L.map kP).findIdx? (λy=>decide (y=kP q))with
  | some j=>exact⟨j,rfl⟩
  | none=>exact absurd (List.findIdx?_eq_none_iff.mp e _ (DW.mpr k)) (by simp)
 obtain⟨l,b,_⟩:=Bj.mp g;have b:=d9 b;rw[aj]at l;rw[List.getElem_map]at b;have b:=MJ b;obtain⟨p,hp⟩:∃p,ps[j]?=some p:=⟨_,bQ (by lia)⟩
 refine⟨L.eraseIdx j,ps.eraseIdx j,p,by rw[List.length_eraseIdx,List.length_eraseIdx,h1],h2.sublist (List.eraseIdx_sublist ..),λy=>⟨λh=>⟨List.mem_of_mem_eraseIdx h,λe=>?_⟩,λh=>?_⟩,List.length_eraseIdx_le ..,λρ hd=>?_⟩
 ·obtain⟨a,t,ne,m⟩:=Il.mp h;exact ne ((qy h2).mp ((m.trans e).trans b.symm))
 ·obtain⟨i,o,e⟩:=qj h.1;refine Il.mpr ⟨i,o,λz=>?_,e⟩
  subst z;exact h.2 (e.symm.trans b)
 ·show(gX (hd++[ki L ps]) (.ref hd.length)).bind _=_;rw[m7 rfl,cH];show((((L.map kP).findIdx? λy=>decide (y=kP q)).bind λj=>(ps[j]?).map λp=>((⟨.fu true ((L.map kP).eraseIdx j),ps.eraseIdx j⟩:ak),p)).map λr=>(Rs.ok r.2,cz.mk ρ ((hd++[ki L ps]).set hd.length r.1)))=_
  rw[g,cH,hp];show some (Rs.ok p,cz.mk ρ ((hd++[ki L ps]).set hd.length _))=_;rw[Bc];unfold ki;rw[gA]
end
theorem aaS:∀l:List (Str×Int),cb CW (l.map pL)=some l
 | []=>rfl
 | q::l=>by
  rw[aI,cb,aaS l];rfl
theorem Sw{l:List (Str×Int)}(h1:l.Nodup)(h2:l.length<64):CY (l.map pL)=some (.lst (rL (l.map pL))):=by
 unfold CY;rw[aaS,cH,if_pos ⟨h1,by rw[aj];exact h2⟩]
theorem MK:∀ps:List PV,(∀p∈ps,∃q,p=pL q)->∃l:List (Str×Int),ps=l.map pL
 | [],_=>⟨[],rfl⟩
 | p::ps,h=>by
  obtain⟨q,rfl⟩:=h p aD;obtain⟨l,rfl⟩:=MK ps λr a=>h r (aG _ a)
  exact⟨q::l,rfl⟩
theorem toT_L(H:List ak):∀l:List (Str×Int),∃a,cb (toT H 999) (l.map pL)=some a
 | []=>⟨[],rfl⟩
 | q::l=>by
  obtain⟨a,e⟩:=toT_L H l;refine⟨.ao [.str q.1,.int q.2]::a,?_⟩;rw[aI,cb,e];rfl
theorem WI(H:List ak){l k:List (Str×Int)}(hp:l.Perm k):JF H (.lst (rL (l.map pL))) (.lst (rL (k.map pL)))=some (.bl false):=by
 rw[GZ (hp.map pL) λp hp=>by
  obtain⟨q,_,rfl⟩:=az.mp hp;exact⟨q,rfl⟩]
 obtain⟨a,e⟩:=MK (rL (k.map pL)) λp hp=>by
  obtain⟨q,_,e⟩:=az.mp ((BF (k.map pL) Bg).mem_iff.mp hp);exact⟨q,e.symm⟩
 rw[e];obtain⟨b,c⟩:=toT_L H a;have t:toT H e9 (.lst (a.map pL))=some (.lst b):=by
  show(cb (toT H 999) (a.map pL)).bind _=_;rw[c];rfl
 show((toT H e9 (.lst (a.map pL))).bind λx=>(toT H e9 (.lst (a.map pL))).map λy=>eqT x y).map _=_
 rw[t];show some (PV.bl (!eqT (.lst b) (.lst b)))=_;rw[iK];rfl
section
variable {m:Md} {most:Nat} {ag:dz} {A:List (List Nat)} {hd:List ak}
noncomputable abbrev FP(S W P F V:PV)(w:Nat)(a b c d e f g:Option PV)(h:List ak):cz:=⟨[some S,some W,some P,some F,some (.ref 0),some (.ref 1),a,b,c,d,some V,some (.ref w),e,f,g],h⟩
theorem tx(k:Nat)(S W P F V:PV)(d f i j:Option PV){r:Ro}(nr:noRef (bB m.fn r)=true)(hd:List ak):∀(b L:List (Str×Int)) (ps:List PV) (u v:Option PV),L.length=ps.length->L.Nodup->b.Nodup->(∀q∈b,q∈L) ->
  ∃a c l o,a.length=c.length/\a.Nodup/\a.length<=L.length/\(∀q,q∈a↔q∈L/\(q∈b->q.1≠QH r))/\dv (gj 2 (cR (aV 7) (cR (aV 8) lK))) (Pt (run txt (k+1))) (b.map pL) (FP S W P F V hd.length d u v f i (some (bB m.fn r)) j (hd++[ki L ps]))=some (.ok .nx,FP S W P F V hd.length d l o f i (some (bB m.fn r)) j (hd++[ki a c]))
 | [],L,ps,u,v,w,x,_,_=>⟨L,ps,u,v,w,x,aA _,λq=>⟨λh=>⟨h,λz=>nomatch z⟩,λh=>h.1⟩,rfl⟩
 | q::b,L,ps,u,v,w,x,y,C=>by
  have M:=C q aD;rw[fL]at y;have g:=MA (m:=m) k (r:=r);have t:Ek (toB (op2 iL (rd 7) (bnd (aq (rd 13) (aW [])) (cC 0 1 (run txt (k+1) "_law_given"))))) (FP S W P F V hd.length d (some (.str q.1)) (some (.int q.2)) f i (some (bB m.fn r)) j (hd++[ki L ps])) (q.1==QH r):=bT (b2 rfl (de (as:=[bB m.fn r]) (cA rfl rfl) rfl (by simp[ai,nr]) g) (fA _ _ _))
  cases z:(q.1==QH r)with
  | false =>
   rw[z]at t;obtain⟨a,c,l,o,D,E,H,I,J⟩:=tx k S W P F V d f i j nr hd b L ps (some (.str q.1)) (some (.int q.2)) w x y.2 λp hp=>C p (aG _ hp)
   refine⟨a,c,l,o,D,E,H,λp=>(I p).trans ⟨λh=>⟨h.1,λhp=>?_⟩,λh=>⟨h.1,λhp=>h.2 (aG _ hp)⟩⟩,fC rfl (iF t rfl) J⟩
   rcases aF.mp hp with rfl | hp
   ·exact eR.mp z
   ·exact h.2 hp
  | true =>
   rw[z]at t;obtain⟨N,Q,p,R,T,B,X,Y⟩:=WH w x M;obtain⟨a,c,l,o,D,E,H,I,J⟩:=tx k S W P F V d f i j nr hd b N Q (some (.str q.1)) (some (.int q.2)) R T y.2 λp hp=>(B p).mpr ⟨C p (aG _ hp),λe=>y.1 (by rw[<-e];exact hp)⟩
   refine⟨a,c,l,o,D,E,bK H X,λp=>(I p).trans ⟨λh=>⟨((B p).mp h.1).1,λhp=>?_⟩,λh=>⟨(B p).mpr ⟨h.1,λe=>?_⟩,λhp=>h.2 (aG _ hp)⟩⟩,fC rfl (iT t (dS (W6 (n:=hd.length) (t:=true) (ks:=L.map kP) (ps:=ps) rfl yq (cA (tU (ps:=[.str q.1,.int q.2]) (cA rfl (cA rfl rfl)) (by simp)) rfl) (Y _ hd)))) J⟩
   ·rcases aF.mp hp with rfl | hp
    ·exact absurd rfl ((B p).mp h.1).2
    ·exact h.2 hp
   ·subst e;exact h.2 aD (bc z)
theorem Be(f:CT)(S W P F V:PV)(c d e g h i:Option PV)(hd:List ak):∀(b L:List (Str×Int)) (ps:List PV) (j:Option PV),L.length=ps.length->L.Nodup->L.length+b.length<4000000 ->
  ∃a k l,a.length=k.length/\a.Nodup/\a.length<=L.length+b.length/\(∀q,q∈a↔q∈L\/q∈b)/\dv (aV 14) (EV f) (b.map pL) (FP S W P F V hd.length c d e g h i j (hd++[ki L ps]))=some (.ok .nx,FP S W P F V hd.length c d e g h i l (hd++[ki a k]))
 | [],L,ps,j,o,r,_=>⟨L,ps,j,o,r,aA _,λq=>by simp,rfl⟩
 | q::b,L,ps,j,o,r,t=>by
  rw[aN]at t ⊢;obtain⟨u,v,w,x,y,I,B⟩:=WG (q:=q) o r (by lia)
  obtain⟨a,k,l,C,D,J,E,H⟩:=Be f S W P F V c d e g h i hd b u v (some (pL q)) w x (by lia)
  refine⟨a,k,l,C,D,by lia,λp=>by rw[E,y,aF,or_assoc],fC (s1:=FP S W P F V hd.length c d e g h i (some (pL q)) (hd++[ki L ps])) rfl ?_ H⟩
  unfold EV;refine eB rfl (eB rfl (eB rfl ?_));show(CP (.ref hd.length) (pL q) (.bl true) _).map _=_;rw[B];rfl
end
section
variable {m:Md} {most:Nat} {ag:dz} {A:List (List Nat)} {hd:List ak} {kvs:List (bz×PV)}
theorem WJ(h:c7 m most){r:Ro}{C:Cs}{M:Nat}(ok:ou C m.ks M r):(HR r).length<=30:=by
 have d:=Mz h ok;rw[<-My];have len:∀l:List Sp,(∀s∈l,cG m.ks s)->(l.flatMap iW).length<=3*l.length:=λl=>by
  induction l with
  | nil=>simp
  | cons s l ih =>
   intro e;have i:=ih λt ht=>e t (aG _ ht)
   have k:(iW s).length<=3:=by unfold iW;split;exact tl3 h (e s aD);simp
   rw[dQ,aZ,aN]
   lia
 have:=len _ d;have:(Mx r).length<=10:=by
  have c:∀o:Op,(nj o).length<=1:=λo=>by cases o<;>simp[nj]
  cases r with
  | put p s o=>have:=c o;show(nj o).length+1<=10;lia
  | set s g a b=>have:=c a;have:=c b;show(nj a++nj b).length+1<=10;rw[aZ];lia
  | call u j f=>have:=ok.2.2.2.2.1;show((f.filter _).map _).length<=10;rw[aj];exact bK (By ..) (by lia)
  | AU a=>have:=c a;show(nj a).length<=10;lia
  | eA z=>cases z with
   | none=>exact fj _
   | some q=>show(if dy q.2=true then _ else _:List Sp).length<=10;split<;>simp
  | _=>show List.length _<=10;simp[Mx,MZ]
 lia
theorem ML(h:c7 m most)(T:HQ m A ag){j:Nat}{L:List (Str×Int)}(u:L.Nodup)(v:∀q∈L,Ii (m.L.drop j) q.1 q.2):L.length<=30:=by
 have e:(m.ks.flatMap λp=>(List.range 3).map fun(i:Nat)=>(p.1,(i:Int))).length=30:=by
  rw[yk (c:=3) _ λ_ _=>by simp,ox]
 rw[<-e];refine kA L _ u λq w=>?_
 have a:=v q w;cases b:m.L[j]? with
 | none=>rw[vG (iY.mp b)]at a;exact a.elim
 | some r =>
  obtain⟨d,g,_⟩:=FK h _ (λr b=>BC b) a
  obtain⟨t,ht,y⟩:=az.mp (ME h T m.L.length j r (by lia) b a).2
  obtain⟨f,B,o⟩:=T.ok t ht;have k:=cV Wt (B.symm.trans y);rw[mZ,mZ]at k;cases k;have o:=o.l;obtain⟨x,l⟩:=q;refine dR.mpr ⟨_,g,az.mpr ⟨l.toNat,ez.mpr (by simp only at o;lia),?_⟩⟩
  rw[lq o.1]
theorem WK(k:Nat)(hk:4<=k)(h:c7 m most)(T:HQ m A ag)(I:Sv (HS m) ag hd kvs)(S W P:PV)(c f w y Fm g:Option PV){j:Nat}{r:Ro}(i:m.L[j]?=some r){L:List (Str×Int)}{ps:List PV}(h1:L.length=ps.length)(h2:L.Nodup)(Y:∀q,q∈L↔Ii (m.L.drop (j+1)) q.1 q.2) :
  ∃B Z o u M C,B.length=Z.length/\B.Nodup/\(∀q,q∈B↔Ii (m.L.drop j) q.1 q.2)/\Ev (EW (run txt (k+4))) (FP S W P m.F1 (SV m) hd.length c w y f (some (iN j)) Fm g (hd++[ki L ps])) .nx (FP S W P m.F1 (SV m) hd.length c o u f (some (iN j)) M C (hd++[ki B Z])):=by
 have ok:=h.ok r (cZ i);have nr:noRef (bB m.fn r)=true:=Fh (λj=>mY j) r ok
 have dM:2<=hd.length:=(bu.mp I.d).1;have l1:=ML h T h2 λq N=>(Y q).mp N
 have l2:=WJ h ok;obtain⟨Q,R,o,u,a1,a2,a3,a4,a5⟩:=tx (k+3) S W P m.F1 (SV m) c f (some (iN j)) g nr hd L L ps w y h1 h2 h2 λ_ z=>z
 obtain⟨L2,b,C,b1,D,b3,b4,b5⟩:=Be (run txt (k+4)) S W P m.F1 (SV m) c o u f (some (iN j)) (some (bB m.fn r)) hd (HR r) Q R g a1 a2 (by lia)
 have hN:∀q,q∈L2↔Ii (m.L.drop j) q.1 q.2:=λq=>by
  rw[b4,a4,yp i];show _↔(q.1,q.2)∈HR r\/(q.1≠QH r/\Ii (m.L.drop (j+1)) q.1 q.2);rw[<-Y q];constructor
  ·rintro(⟨E,X⟩ | z)
   ·exact .inr ⟨X E,E⟩
   ·exact .inl z
  ·rintro(z | ⟨E,X⟩)
   ·exact .inr z
   ·exact .inl ⟨X,λ_=>E⟩
 have hp:(tJ ag (FE m j)).Perm L2:=(List.perm_ext_iff_of_nodup (DU ag T.nd) D).mpr λq=>by
  obtain⟨x,l⟩:=q;rw[FL,hN];exact⟨aaP h T i,λz=>(ME h T m.L.length j r (by lia) i z).2⟩
 have l3:=ML h T D λq N=>(hN q).mp N
 have l4:=hp.length_eq;refine⟨L2,b,o,u,some (bB m.fn r),C,b1,D,hN,?_⟩;have th:=DS (H:=hd++[ki Q R]) k hk h (by rw[cU (by lia)];exact I.z) ok
 have f4:∀H,bR H m.F1 (.int 4)=some (.ao m.rows):=λ_=>rfl
 have li:Ek (Ko 0 (rd 11)) (FP S W P m.F1 (SV m) hd.length c w y f (some (iN j)) (some (bB m.fn r)) g (hd++[ki L ps])) (.lst (L.map pL)):=by
  refine eB (a:=.ref hd.length) rfl (eB (a:=L.map kP) (s1:=FP S W P m.F1 (SV m) hd.length c w y f (some (iN j)) (some (bB m.fn r)) g (hd++[ki L ps])) ?_ ?_)
  ·show((gX (hd++[ki L ps]) (.ref hd.length)).bind _).map _=_;rw[m7 rfl];rfl
  ·rw[FN];rfl
 obtain⟨s,v⟩:∃s:cz,s=FP S W P m.F1 (SV m) hd.length c o u f (some (iN j)) (some (bB m.fn r)) C (hd++[ki L2 b]):=⟨_,rfl⟩
 have J:s.h=hd++[ki L2 b]:=by rw[v]
 obtain⟨p,g1,g2⟩:=aaR (r:=[ki L2 b]) I (FE m j);have s1:Ev (Kz (yv "dict" OS (rd 5) (aq (op2 bR (rd 10) (rd 12)) (aq (kF .lst (aW [])) (aW []))))) s (.lst (rL ((tJ ag (FE m j)).map pL))) s:=by
  refine eB (a:=p) (s1:=s) (W6 (n:=1) (t:=false) (s1:=s) (s2:=s) (as:=[iN (FE m j),.lst []]) (by rw[v];rfl) (by rw[J,cU dM];exact I.d) (by rw[v];exact cA (b2 rfl rfl (aaI i _)) (cA rfl rfl)) ?_) ?_
  ·show(Kc s.h (.ref 1) _).map _=_;rw[J,g1];rfl
  ·show((t9 s.h p).bind CY).map _=_;rw[J,g2,cH,Sw (DU ag T.nd) (by lia)]
   rfl
 have s2:Ev (Kz (rd 11)) s (.lst (rL (L2.map pL))) s:=by
  refine eB (a:=.ref hd.length) (s1:=s) (by rw[v];rfl) ?_
  have e:t9 (hd++[ki L2 b]) (.ref hd.length)=some (L2.map pL):=by
   have dr:qZ (hd++[ki L2 b]) (.ref hd.length)=none:=by
    have:cw (hd++[ki L2 b]) (.ref hd.length)=some (.fu true (L2.map kP),b):=by
     show((hd++[ki L2 b])[hd.length]?).bind _=_;rw[yq];rfl
    unfold qZ;rw[this]
   unfold t9;rw[dr];show(gX (hd++[ki L2 b]) (.ref hd.length)).bind _=_;rw[m7 rfl,<-FN];rfl
  show((t9 s.h (.ref hd.length)).bind CY).map _=_;rw[J,e,cH,Sw D (by lia)]
  rfl
 refine sq (aS (b2 (b2 rfl rfl (f4 _)) rfl (Mc i _)) rfl) ?_;refine sq (fS (sV li rfl) a5) ?_;refine sq (fS (sV (clG (s1:=FP S W P m.F1 (SV m) hd.length c o u f (some (iN j)) (some (bB m.fn r)) g (hd++[ki Q R])) (as:=[.ref 0,bB m.fn r]) (cA rfl (cA rfl rfl)) rfl (by simp[ai,noRef]) th) rfl) b5) ?_
 rw[<-v];exact iF (bT (b2 s1 s2 (WI _ hp))) rfl
theorem QM(n:Nat):(jE 0 (n+1)).reverse=iN n::(jE 0 n).reverse:=by
 unfold jE;rw[List.range_succ,cm,List.reverse_append];show PV.int (0+(n:Int))::_=_;rw[jP];rfl
theorem MM(k:Nat)(hk:4<=k)(h:c7 m most)(T:HQ m A ag)(I:Sv (HS m) ag hd kvs)(S W P:PV)(a b:Option PV):∀(n:Nat) (c d j f g:Option PV) (L:List (Str×Int)) (ps:List PV),n<=m.L.length->L.length=ps.length->L.Nodup->(∀q,q∈L↔Ii (m.L.drop n) q.1 q.2) ->
  ∃s,dv (aV 12) (EW (run txt (k+4))) (jE 0 n).reverse (FP S W P m.F1 (SV m) hd.length a c d b j f g (hd++[ki L ps]))=some (.ok .nx,s)
 | 0,_,_,_,_,_,_,_,_,_,_,_=>⟨_,rfl⟩
 | n+1,c,d,j,f,g,L,ps,E,l,o,p=>by
  obtain⟨r,t⟩:∃r,m.L[n]?=some r:=⟨_,bQ (by lia)⟩
  obtain⟨u,v,w,x,i,y,B,C,D,e⟩:=WK k hk h T I S W P a b c d f g t l o p;obtain⟨s,z⟩:=MM k hk h T I S W P a b n w x (some (iN n)) i y u v (by lia) B C D
  rw[QM];exact⟨s,fC rfl e z⟩
theorem WL{a fb:Gx PV}{s:cz}(b:Ev a s (.ao (m.P.map bC)) s)(d:Ev fb s (.ao (m.LT.map bC)) s):Ev (EI a fb) s (.ref s.h.length) ⟨s.ρ,s.h++[HS m]⟩:=by
 have e1:GV (m.P.map bC++m.LT.map bC)=some (HS m):=by
  rw[<-cm];exact QJ o9 (by have:=@ox m;unfold Md.ks at this;lia)
 have hp:(m.P.map bC).isEmpty=false:=by
  have:=@ox m;unfold Md.P;split<;>rfl
 refine eB b (eB d ?_);show(if((m.P.map bC).isEmpty || (m.LT.map bC).isEmpty)=true then none else(GV (m.P.map bC++m.LT.map bC)).bind λc=>kG c s)=_
 rw[hp,if_neg (by show ¬((false || false)=true);decide),e1]
 rfl
end
noncomputable def Xf:List Str:=["put","set","fill","copy","move","drop","lend","lend","lend","call","call"]
noncomputable def aaT:List Str:=["say","put","say"]
theorem MN(a:List Int)(_:a.length<=63):Yes (run txt 21 "law" [xj a] []):=by
 obtain⟨m,hp,ok⟩:=HL 16 (by decide) a 20 (by decide) (W:=Xf++aaT) (by decide) (by decide +kernel)
 obtain⟨A,c,k,T⟩:=QG 16 (by decide) ok (by decide)
 have l:=yg ok (by decide) 19 (by decide)
 have E:=HU 19 ok (by decide)
 have Y:=(AX ok).1;have Z:c.length<=95256:=by
  have hU:=Ml ok (by decide)
  have:=kA (c.map (·.1)) (UN m) T.nd λx J=>by
   obtain⟨t,ht,rfl⟩:=az.mp J;obtain⟨f,e,o⟩:=T.ok t ht;rw[e];exact DO o
  rw[aj]at this
  lia
 have d:=Ft ok;have M:Sv (HS m) [] [HS m,dC []] []:=⟨rfl,rfl,aA _,λ_ _=>rfl,λ_ _ z=>(nomatch z),λ_ _ _ z=>nomatch z⟩
 obtain⟨hd,N,p,r,u,v,I,g⟩:=tu (some (xj a)) (some (.lst (Xf.map .str))) (some m.prog) (some m.F1) (some (.ref 0)) [none,none,none,none,none] c [] [HS m,dC []] [] none none none none M (λt ht=>by obtain⟨f,e,_⟩:=T.ok t ht;exact⟨f,e⟩) (by simp;lia)
 rw[fK]at I;obtain⟨w,i⟩:=MM 16 (by decide) ok T I (xj a) (.lst (Xf.map .str)) m.prog p v m.L.length r u none none none [] [] (aA _) rfl jO λq=>by rw[vG (aA _)];exact⟨λz=>(nomatch z),λz=>z.elim⟩
 have b:∀H,bR H m.prog (.int 1)=some m.F1:=Ma
 have y:∀H,bR H m.F1 (.int 1)=some (.ao (m.P.map bC)):=λ_=>rfl
 have B:∀H,bR H m.F1 (.int 3)=some (.ao (m.LT.map bC)):=λ_=>rfl
 have C:∀H,bR H m.F1 (.int 4)=some (.ao m.rows):=λ_=>rfl
 have Q:∀H,gK H [.ao m.rows]=some (.int (m.L.length:Int)):=λH=>by
  show some (PV.int ((m.rows.length:Nat):Int))=_;unfold Md.rows;rw[aj]
 have hp:Gives (run txt 20 "_law_program" [xj a,.int 20,.lst ((Xf++aaT).map .str)] []) m.prog:=hp;have R:G1 [.int (m.L.length:Int)]=some (jE 0 m.L.length).reverse:=by
  show(if zD 0 (m.L.length:Int)=true then some (jE 0 ((m.L.length:Int).toNat)).reverse else none)=_
  rw[if_pos (show zD 0 (m.L.length:Int)=true from fg (by lia)),gB]
 obtain⟨F1,j⟩:=nw m.F1;obtain⟨P,X⟩:=nw m.prog;rw[<-j]at b y B C g i;rw[<-X]at hp l k d g i b;have e:∃D,run txt 21 "law" [xj a] []=some (.ok (.bl true),D):=by
  rw[Pu];refine⟨_,j4 (G8:=w.ρ) (h':=w.h) ?_⟩;refine sq rfl ?_;refine sq (aS (de (cA rfl (cA rfl (cA (b2 rfl rfl (by rw[cm];exact aL (by simp))) rfl))) rfl rfl hp) rfl) ?_
  refine sq (aS (b2 rfl rfl (b _)) rfl) ?_;refine sq (aS (WL (m:=m) (b2 rfl rfl (y _)) (b2 rfl rfl (B _))) rfl) ?_;refine sq (s1:=⟨[some (xj a),some (.lst (Xf.map .str)),some P,some F1,some (.ref 0),some (.ref 1),none,none,none,none,none,none,none,none,none],[HS m,dC []]⟩) rfl ?_;refine sq (fS (sV (de (cA rfl (cA rfl rfl)) rfl (by simp[ai,d,noRef]) k) rfl) g) ?_
  refine sq (aS (de (as:=[.lst (m.as.map eN)]) (cA (de (cA rfl (cA rfl rfl)) rfl (by simp[ai,d,noRef]) l) rfl) rfl (by simp[ai,noRef,A0]) E) rfl) ?_
  refine sq (s1:=FP (xj a) (.lst (Xf.map .str)) P F1 (SV m) hd.length p r u v none none none (hd++[ki [] []])) rfl ?_;exact sq (fS (sG (eB (bV (cA (b2 rfl rfl (C _)) rfl) (Q _) |> λz=>cA z rfl) (show(G1 _).map _=_ by rw[R];rfl))) i) (rS rfl)
 obtain⟨D,e⟩:=e;exact⟨_,e⟩
end bZ
open PySem PySem.W PyProof.Rows PySem.Calls
theorem PySem.Challenge.cw_lendrule_k28_needed_in_a_straight_functi_holds : PySem.Challenge.rw_lendrule_k28_needed_in_a_straight_functi.Holds := by
 exact bZ.kX λd a b=>L2.U.Le (P:=bZ.txt) (N:=21) (st:=bZ.Z0) (x:="_law_script") (l:=PySem.Challenge.rw_lendrule_k28_needed_in_a_straight_functi) (by kernel_rfl) (by kernel_rfl) rfl a b ⟨rfl,by decide,by decide⟩ (by kernel_rfl) (λw h Y=>Y) bZ.MN
end
