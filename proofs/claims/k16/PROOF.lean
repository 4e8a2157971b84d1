import PyProof.Rows.All
import Wide.All
import OpenK.AllK
import Wide.FinOn
import Lean
import PyProof.EqAt
import PyProof.EqKinds
import PyProof.TupleCall
import PySem.Challenge.RW_apartbook_k16_whole_books_read_and_check
set_option Elab.async false
set_option linter.all false
set_option tactic.hygienic false
set_option genInjectivity false
set_option genSizeOf false
set_option bootstrap.genMatcherCode false
set_option backward.match.sparseCases false
set_option maxRecDepth 100000
structure PySem.W.Fast:Prop where(tw6595102190492510 tw14102359987190943013 tw16083504330173200819 tw7083343063038625833 tw18248185259635072942 tw2075706493090153972 tw14876569641900529699 tw7999270069532115493 tw5717811605875325633 tw18083226492986751143 tw12070553836854667233 tw10766958817185030727 tw2796316470131616121 tw16687921426458082258 tw11442044335080179021 tw4609140180894694615 tw6427092527041260534 tw8390513735093156503 tw17868472154188526817 tw14715961655378039913 tw7802189117564023037 tw10244793788246954691 tw8036502498552466621 tw13022634826810675578 tw4426914543208420823 tw10973934484252097458 tw12018346579176993838 tw12517395182482286742 tw8127617708028642409 tw16849635209447692185 tw7296303268121626179 tw14467663401291082347 tw3989175967949273922 tw15317927414953775852 tw16556025549371688763 tw9801326143755101849 tw9493826732393160575 tw1165096807804785377 tw15727074437857682280 tw697871749602130055 tw11784797979079207129 tw1001815001139247777 tw16340061246880011894 tw7799546446332685013 tw995779905881074815 tw16098239472684609186 tw14455722967735825719 tw16099775047423622556 tw12160823272429544919 tw12462627147420199342 tw12211790007195839473 tw13657303541546742557 tw6300530996112136409 tw14395046586879003682 tw13229411148070291323 tw8023064006547931089 tw427291374851316855 tw5894626980575201969 tw9877090808754900502 tw3449238155668382536 tw8029362680768853853 tw9538740645050544426 tw18223575370545538911 tw15787847772041778181 tw16419157636015109878 tw6109758665103464730 tw15809481112684931971 tw6676688579114922833 tw8647935431455557854 tw5782681661723136037 tw17269679347771682715 tw431810285013087981 tw12198964148163920633 tw16031864651854086593 tw6425159364122414405 tw12257441285512969013 tw4583044259160836038 tw10253129329781484028 tw10137966956737988568 tw17729783954552153888 tw14529217138312539889 tw16752768197168238366 tw5410754108793539382 tw2027183846592774918 tw12987574233497925167 tw16626228580536836001 tw2367339031729626202 tw1327730931797887599 tw12483776422404244877 tw6677323367471931966 tw16593910519403641595 tw9548510019901675226 tw16528147212709136894 tw15147581435239571302 tw1258827638729732277 tw11074526566832028138 tw13086209069734699676 tw16802262485271242485 tw2015497193997443679 tw11900580680163115892 tw15241086929744679143 tw12208776781602733909 tw8135356592953365302 tw18357039216406896109 tw6111831173756750190 tw1423269422770977461 tw12008399194925252363 tw9710348944431038840 tw7518201093232853519 tw1453196947927358110 tw10735753291165179464 tw10294963843486182876 tw6021841717517479559 tw11250717753682883019 tw8849728450579117750 tw4441422060704068629 tw5989884455390290160 tw15974181907375235492 tw11590414095884326042 tw15284053321753187166 tw13811435195720769881 tw10110557681360354297 tw6275929910111154006 tw9463672226842372895 tw9434799773009723361 tw3759266538732690603 tw13350478997791605209 tw12679287412424003192 tw2056771956065068392 tw6524359290880665591 tw17538891849833829829 tw2418441840997420930 tw13663342547661690728 tw13804572484951312748 tw11740918868661205722 tw8570370711006248846 tw14556506433835059169 tw5325699804644957408 tw5164908720834829982 tw10532550525007652790 tw13545971327017728089 tw13630762014209386831 tw12011432952996478161 tw5867540079514276724 tw11905197756286916399 tw2953536897679517614 tw1875465613673126845 tw2248857568925583985 tw15216967236621778270 tw393169647958467930 tw14208388677994591491 tw16314711048367371935 tw2421312900873779243 tw18175213768458704584 tw14671323430489090288 tw10616925091929958772 tw2180411988828726849 tw4670897144364782811 tw5575051660780423430 tw9873788341485316135 tw6389363235986093618 tw15841124144272775298 tw7099732211617858835 tw13882402833068025651 tw11202743699966202989 tw3445995568609700517 tw4074944902819024276 tw17390739522599079667 tw12937296260914862233 tw3240959887556652164 tw1296548284534044731 tw15263665058724091721 tw5178702144193044012 tw7361926551591795150 tw6911974078907836809 tw14085506175119721296 tw11963765111493881422 tw15204717987472662551 tw12129567830174867239 tw17371523839239359847 tw15586836097651822252 tw348272618254928458 tw17906445547128805883 tw11920768364948875026 tw5207190054619115409 tw10789563782929029259 tw10592606856948391586 tw7041402122396896832 tw15088666727968284451 tw8873049206431289107 tw13065129291560616748 tw11947156810101676734 tw11683200110979397537 tw33114019428226614 tw11793036916780034947 tw2905096505082344742 tw2630133043623414391 tw14340963394526612791 tw5839505184385495170 tw12150314875410863310 tw6714950184248486424 tw9206891556881758384 tw3967028405471461981 tw11838357817383191364 tw14685375411173995780 tw4119980575973019438 tw14735850653444418296 tw14190153704182136917 tw2958986851911799885 tw13849457898387289779 tw14561247203352574143 tw3423061331797187531 tw17017373014742172465 tw14209421751802218057 tw4070775698864657234 tw11305825875577796779 tw16584258244202286300 tw10145112474474433573 tw15533362435997745563 tw10862336462410820252 tw15025055799730224540 tw479428096334695573 tw4703983050731843295 tw4815402219201038226 tw13523699508328375498 tw17969216075949072630 tw363024492474355603 tw12057197285358798450 tw7793202587786621143 tw10111495457517387624 tw4821915176357281277 tw13160549297307754641 tw14546998436449399279 tw14011298121782040723 tw10827381988028628455 tw1244601342818615158 tw16513205744496083361 tw18431245763897069327 tw13723961827752165478 tw15468545683351071674 tw3789374106994076344 tw12536989121957143037 tw10896678205197685118 tw14447745815169171116 tw10283634367743235481 tw16540326779532836411 tw100282224352939415 tw2387553926815541263 tw11237351252654848056 tw3834362356162841907 tw7993669234552656592 tw5202870025584474546 tw8413552639423004524 tw2124611093428334446 tw5644569182132695665 tw6335566620461220095 tw1386921379580705204 tw11673100317270191193 tw15379739327533690795 tw14773382296954683738 tw15106961711688160514 tw9125488264104053811 tw13526603022270097254 tw5255475643395278517 tw3797808938452427075 tw7242117080694245571 tw15656382492960125347 tw1634558326402654622 tw11790793324982656554 tw3234649176455667236 tw3087893241932856123 tw17392859924507196252 tw6148260383758131223 tw4490954747603131043 tw2159048921177820611 tw11323689705229193861 tw8355239562252918131 tw11971827681435950493 tw1883405524841076478 tw13255509419753907024 tw12063151738812591840 tw11732660511151652537 tw4672118182532632210 tw15035358615154368054 tw2695722189279447380 tw4130655261391215039 tw206373101084317956 tw11936232521451045280 tw617379211415442466 tw7401414032598967044 tw14697923183745467923 tw16008450877714268517 tw1117675769707636519 tw14855113840737229766 tw10812446598532288435 tw8794280297039411939 tw8651569580472464527:True)
namespace PySem.W.Fast
noncomputable def tw12849453986702570212:=PySem.Challenge.pw_apartbook_k16_whole_books_read_and_check
theorem te12849453986702570212:PySem.Challenge.pw_apartbook_k16_whole_books_read_and_check=tw12849453986702570212:=rfl
end PySem.W.Fast
set_option compiler.extract_closed false
noncomputable section
abbrev Al:=Option PySem.Value
abbrev Ak:=List PySem.Addr
abbrev Aj:=List PySem.Env
abbrev Ai:=List PySem.Keyword
abbrev Ah:=Array PySem.Value
abbrev Ag:=Option PySem.Addr
abbrev Af:=PySem.W.Frag
abbrev Ae:=List Int
abbrev Ad:=List PySem.Expr
abbrev Ac:=List PySem.Value
abbrev Ab:=List PySem.Str
abbrev Aa:=List Nat
abbrev aA.{u}:=@List.prefix_append.{u}
abbrev aB.{u,v}:=@Option.map_eq_some_iff.{u,v}
abbrev aC:=@Bool.and_eq_true
abbrev aD.{u}:=@if_pos.{u}
abbrev aE.{u,v}:=@List.map_cons.{u,v}
abbrev aF.{u}:=@List.prefix_refl.{u}
abbrev aG.{u,v}:=@Option.bind_eq_some_iff.{u,v}
abbrev aH.{u}:=@beq_eq_false_iff_ne.{u}
abbrev aI.{u}:=@List.length_cons.{u}
abbrev aJ.{u}:=@if_neg.{u}
abbrev aK.{u}:=@List.not_mem_nil.{u}
abbrev aL.{u}:=@List.getElem?_append_right.{u}
abbrev aM.{u}:=@List.mem_cons.{u}
abbrev aN:=@decide_eq_false
abbrev aO.{u}:=@List.append_nil.{u}
abbrev aP.{u,v,w}:=@List.map_map.{u,v,w}
abbrev aQ.{u}:=@List.all_eq_true.{u}
abbrev aS.{u}:=@List.getElem?_append_left.{u}
abbrev aU.{u}:=@List.append_assoc.{u}
abbrev aV:=@decide_eq_true_eq
abbrev aW.{u,v}:=@Option.bind_some.{u,v}
abbrev aX:=@decide_eq_true
abbrev aY:=@Nat.zero_le
abbrev aZ.{u,v}:=@List.lookup_cons.{u,v}
abbrev bA.{u,v}:=@List.map_append.{u,v}
abbrev bB.{u}:=@beq_iff_eq.{u}
abbrev bC:=@Nat.lt_trans
abbrev bD:=@Bool.false_ne_true
abbrev bE:=@Int.toNat_of_nonneg
abbrev bF.{u}:=@Option.isSome_iff_exists.{u}
abbrev bG:=@PySem.sizeLine_eq
abbrev bH:=@Nat.lt_irrefl
abbrev bI.{u}:=@Array.getElem?_eq_some_iff.{u}
abbrev bJ.{u,v}:=@Option.map_some.{u,v}
abbrev bK.{u}:=@List.getElem?_eq_none.{u}
abbrev bL:=@PySem.Heap.get?_update_other
abbrev bM:=@PySem.Heap.get?_update_self
abbrev bN.{u}:=@List.all_cons.{u}
abbrev bP:=@PySem.wpAny_field
abbrev bQ.{u,v}:=@List.foldl_cons.{u,v}
abbrev bR:=@PySem.Heap.size_push
abbrev bU:=@Int.eq_ofNat_of_zero_le
abbrev bV:=@PySem.mem_of_lookup
abbrev bW:=@PySem.Heap.get?_none_of_le
abbrev bX:=@PyProof.Rows.callWith_type1
abbrev bY:=@Int.emod_lt_of_pos
abbrev bZ.{u}:=@List.length_nil.{u}
abbrev cA:=@PySem.wpAny_holding
abbrev cB.{u,v}:=@List.foldl_append.{u,v}
abbrev cC:=@Int.emod_nonneg
abbrev cD:=@PySem.wpAny_Call_Name_kw
abbrev cE.{u}:=@Ne.symm.{u}
abbrev cF:=@Nat.sub_self
abbrev cG.{u,v}:=@List.length_zip.{u,v}
abbrev cH:=@PySem.Obj.isFreed_of_fields
abbrev cJ.{u}:=@List.drop_drop.{u}
abbrev cK:=@PySem.wpAny_truthy_bool
abbrev cM:=@Nat.lt_succ_self
abbrev cO.{u}:=@List.mem_of_find?_eq_some.{u}
abbrev cP.{u}:=@List.nodup_cons.{u}
abbrev cQ:=@Nat.ne_of_gt
abbrev cT:=@PySem.Obj.data_mapFields
abbrev cU.{u}:=@List.length_drop.{u}
abbrev cV.{u}:=@List.cons_append.{u}
abbrev cW:=@PySem.wpAny_passesOwn
abbrev cX:=@Nat.mul_le_mul_right
abbrev cY:=@Nat.le_of_lt
abbrev cZ.{u}:=@List.cons.inj.{u}
abbrev dA.{u,v}:=@List.mem_filterMap.{u,v}
abbrev dB.{u}:=@List.length_replicate.{u}
abbrev dC.{u}:=@Classical.choose_spec.{u}
abbrev dD:=@PySem.codeAny_mono
abbrev dE.{u}:=@List.mem_of_getElem?.{u}
abbrev dF.{u}:=@List.mem_iff_getElem.{u}
abbrev dG:=@Nat.zero_add
abbrev dI:=@Nat.le_of_eq
abbrev dJ:=@List.length_range
abbrev dL.{u}:=@List.ext_getElem.{u}
abbrev dM:=@PySem.wpAny_execs_nil
abbrev dN:=@PySem.wpAny_setField_rec
abbrev dO.{u}:=@List.any_cons.{u}
abbrev dP.{u}:=@List.nil_append.{u}
abbrev dQ.{u}:=@List.head?_drop.{u}
abbrev dR:=@PySem.wpAny_setField
abbrev dS:=@PySem.wpAny_pyIter_list
abbrev dU:=@PySem.wpAny_newObj_type
abbrev dW:=@PySem.wpAny_loadPart_at
abbrev dX:=@Nat.pow_le_pow_right
abbrev dY.{u,v}:=@List.map_eq_nil_iff.{u,v}
abbrev dZ:=@PySem.wpAny_call
abbrev eA:=@Nat.add_comm
abbrev eB.{u}:=@List.length_take_of_le.{u}
abbrev eC:=@Nat.lt_of_le_of_lt
abbrev eD.{u}:=@List.isEmpty_iff.{u}
abbrev eE:=@Nat.le_succ
abbrev eG:=@Bool.not_eq_true'
abbrev eI:=@PySem.F.args_tuple_add_2
abbrev eJ:=@Nat.add_assoc
abbrev eK.{u}:=@List.getElem?_of_mem.{u}
abbrev eL.{u}:=@List.drop_eq_nil_iff.{u}
abbrev eM:=@PySem.wpAny_seqItems
abbrev eN:=@PySem.tupleKind_room_in1
abbrev eO:=@PySem.F.entry_tuple_add
abbrev eP:=@Nat.le_add_right
abbrev eQ.{u}:=@List.find?_some.{u}
abbrev eR.{u}:=@List.find?_cons.{u}
abbrev eS.{u}:=@List.replicate_succ.{u}
abbrev eT:=@PySem.F.slot_tuple_add
abbrev eU:=@PySem.F.plainAttrs_str
abbrev eV:=@PySem.wpAny_standAt
abbrev eW:=@PySem.F.slot_dict_get
abbrev eX.{u,v}:=@List.filterMap_cons.{u,v}
abbrev eY:=@PySem.wpAny_callSpecial?_slot
abbrev eZ:=@Nat.log2_lt
abbrev fz.{u}:=@List.flatten_cons.{u}
abbrev fA.{u}:=@List.ext_getElem?.{u}
abbrev fB:=@PySem.wpAny_mono
abbrev fD:=@PySem.typeIs_str
abbrev fE:=@PySem.call_meets
abbrev fF:=@PySem.W.callWith_K
abbrev fG:=@PySem.Str.ofString_eq_toList
abbrev fH:=@PyProof.Rows.F.entry_set_update_loop
abbrev fJ:=@Nat.add_le_add_left
abbrev fK.{u,v}:=@List.zip_cons_cons.{u,v}
abbrev fM:=@PySem.Calls.callWith_builtin
abbrev fN:=@Bool.true_and
abbrev fO:=@decide_eq_true_iff
abbrev fP.{u}:=@beq_self_eq_true.{u}
abbrev fQ.{u}:=@List.getElem?_cons_succ.{u}
abbrev fR:=@PySem.wpAny_loadPart
abbrev fT:=@PySem.codeAny_call_builtin
abbrev fU:=@PySem.W.looks_findIn
abbrev fV:=@Nat.lt_succ_of_lt
abbrev fW.{u}:=@List.append_eq_nil_iff.{u}
abbrev fX:=@Int.toNat_natCast
abbrev fY:=@PyProof.Rows.slot_tuple_getitem
abbrev fZ:=@Nat.le_of_not_lt
abbrev f7.{u}:=@List.length_singleton.{u}
abbrev f8:=@Bool.not_eq_true
abbrev f9:=@PySem.wpAny_pyIter_tuple
abbrev gc.{u}:=@List.nodup_nil.{u}
abbrev gd.{u}:=@List.mem_of_mem_take.{u}
abbrev ge.{u}:=@List.mem_append_left.{u}
abbrev gf.{u,v}:=@List.map_nil.{u,v}
abbrev gg:=@PySem.Code.quiet_builtin
abbrev gi:=@PySem.Calls.spliced_cons
abbrev gj:=@PySem.F.slot_str_partition
abbrev gk:=@PySem.F.excBase_ValueError
abbrev gm.{u}:=@List.replicate_zero.{u}
abbrev gn:=@PySem.plainObj_wpAny_Assign_Attribute
abbrev gq.{u}:=@List.sum_cons.{u}
abbrev gr:=@PySem.wpAny_execs_cons
abbrev gt:=@PySem.wpAny_call_entry
abbrev gv:=@PySem.noFill_tuple_add
abbrev gw:=@PySem.F.type_list_append
abbrev gx:=@PySem.F.slot_tuple_index
abbrev gy:=@PySem.F.slot_list_extend
abbrev gz:=@PySem.F.slot_list_append
abbrev gB:=@PyProof.noPylong_of_log2
abbrev gC.{u}:=@List.mem_replicate.{u}
abbrev gD:=@PySem.F.plainAttrs_list
abbrev gE:=@PySem.F.args_dict_get_3
abbrev gF:=@Nat.add_sub_cancel_left
abbrev qc:=PySem.Str->Option PySem.Value
abbrev qd:=List (PySem.Addr×PySem.Obj)
abbrev qe:=PySem.Value->PySem.Shared->Prop
abbrev qf:=PySem.Addr->Bool
abbrev qg:=Array (Option PySem.Value)
abbrev qh:=List (PySem.Str×Nat)
abbrev zax.{u}:=@List.getElem?_eq_getElem.{u}
abbrev zay:=@PySem.wpAny_bind
abbrev zaz:=@PySem.Heap.get?_push_of_some
abbrev zav.{u,v}:=@List.length_map.{u,v}
abbrev zaw.{u}:=@List.mem_cons_of_mem.{u}
abbrev zaa.{u}:=@List.mem_cons_self.{u}
abbrev zab:=@PySem.wpAny_pure
abbrev zac:=@Nat.le_refl
abbrev zbx.{u}:=@List.size_toArray.{u}
abbrev zby.{u}:=@Option.some.inj.{u}
abbrev zbz:=@PySem.Heap.get?_push_size
abbrev zbv:=@PySem.Heap.lt_size
abbrev zbw.{u}:=@List.getElem?_set_ne.{u}
abbrev zba.{u,v}:=@List.getElem?_map.{u,v}
abbrev zbb.{u}:=@List.getElem?_eq_some_iff.{u}
abbrev zbc.{u}:=@List.contains_iff_mem.{u}
abbrev zcx:=@Nat.lt_of_lt_of_le
abbrev zcy.{u}:=@List.mem_append_right.{u}
abbrev zcz.{u}:=@List.getElem?_set_self.{u}
abbrev zcv.{u,v}:=@List.mem_map.{u,v}
abbrev zcw:=@Nat.ne_of_lt
abbrev zca.{u,v}:=@List.of_mem_zip.{u,v}
abbrev zcb.{u}:=@List.length_append.{u}
abbrev zcc:=@List.mem_range
abbrev zdx.{u}:=@List.mem_singleton.{u}
abbrev zdy.{u}:=@List.mem_append.{u}
abbrev zdz:=@Nat.le_trans
def zau0(h:True:=by decide):True:=h
def zau1(h:True:=by rfl):True:=h
def zau2(h:True:=by kernel_rfl):True:=h
open PySem PySem.Spec namespace L2
open PyProof.Rows
abbrev zsE(e:Expr)(es:Ad)(v:Env):Prop:=starEach (e::es) v=(false,eval e v)::starEach es v
abbrev zbT(p:Pos)(es:Ad)(v:Env):Prop:=(backTo p (starEach es v)).any (·.1)=false
abbrev Key:=Sum Int Str
def jrv:Key->Value->Bool
|.inl k,v=>Value.isInt k v
|.inr x,v=>Value.isStrOf x v
def keyH(w:World):Key->Int
|.inl k=>hashInt k
|.inr x=>hashStr w x
def ja0:∀{k:Key}{v:Value},jrv k v=true->(∃i t,k=Sum.inl i/\v=Value.int i t)\/(∃x t,k=Sum.inr x/\v=Value.str x t)
|.inl i,v,h=>by
  obtain⟨t,e⟩:=Value.isInt_shape h;simp_all
|.inr x,v,h=>by
  obtain⟨t,e⟩:=Value.isStrOf_shape h;simp_all
def jub(i:Int)(t:Tok):jrv (.inl i) (.int i t)=true:=by simp[jrv,Value.isInt]
def juc(x:Str)(t:Tok):jrv (.inr x) (.str x t)=true:=by simp[jrv,Value.isStrOf]
theorem jJi(a b:Int):decide ((Sum.inl a:Key)=Sum.inl b)=(a==b):=by
 by_cases e:a=b
 .subst e;simp
 .rw[aN (λq=>e (Sum.inl.inj q))];exact(aH.mpr e).symm
theorem jJl(a b:Str):decide ((Sum.inr a:Key)=Sum.inr b)=decide (a=b):=by
 by_cases e:a=b
 .simp
 .rw[aN (λq=>e (Sum.inr.inj q)),aN e]
def jJj(a:Int)(b:Str):decide ((Sum.inl a:Key)=Sum.inr b)=false:=aN (λq=>nomatch q)
def jJk(a:Str)(b:Int):decide ((Sum.inr a:Key)=Sum.inl b)=false:=aN (λq=>nomatch q)
def jbm(prog:Program)(w:World):PySem.KeyKind prog w Key where
 is:=jrv
 hash:=keyH w
 inj:=λv a b ha hb=>by
  rcases ja0 ha with ⟨i,t,rfl,rfl⟩|⟨x,t,rfl,rfl⟩
  .rcases ja0 hb with ⟨j,u,rfl,e⟩|⟨y,u,rfl,e⟩<;>simp_all
  .rcases ja0 hb with ⟨j,u,rfl,e⟩|⟨y,u,rfl,e⟩<;>simp_all
 byValue:=λk v h=>by rcases ja0 h with ⟨i,t,rfl,rfl⟩|⟨x,t,rfl,rfl⟩<;>rfl
 pyHash:=λhv h=>by
  rcases ja0 hv with ⟨i,t,rfl,rfl⟩|⟨x,t,rfl,rfl⟩
  .exact wpAny_pyHash_int h
  .exact wpAny_pyHash_str h
 eqBool:=λhu hv h=>by
  rcases ja0 hu with ⟨i,t,rfl,rfl⟩|⟨x,t,rfl,rfl⟩
  .rcases ja0 hv with ⟨j,u,rfl,rfl⟩|⟨y,u,rfl,rfl⟩
   .grind[jJi,wpAny_eqBool_int]
   .rw[jJj]at h;exact SeqAt.EqAt.int_str i t y u _ _ _ _ h
  .rcases ja0 hv with ⟨j,u,rfl,rfl⟩|⟨y,u,rfl,rfl⟩
   .rw[jJk]at h;exact SeqAt.EqAt.str_int x t j u _ _ _ _ h
   grind[jJl,wpAny_eqBool_str]
 «strs»:=λk x t v h=>by
  rcases ja0 h with ⟨i,u,rfl,e⟩|⟨y,u,rfl,e⟩
  .simp_all
  .injection e with e1 _
   subst e1;cases v<;>rfl
theorem jon(prog:Program)(w:World)(i:Int)(t:Tok):(jbm prog w).is (.inl i) (.int i t)=true:=jub i t
theorem joo(prog:Program)(w:World)(x:Str)(t:Tok):(jbm prog w).is (.inr x) (.str x t)=true:=juc x t
set_option genInjectivity true in
inductive V where
| non|bl (b:Bool)|int (i:Int)|str (x:Str)|byt (b:Array UInt8)|flt (b:UInt64)|ref (a:Addr)|ty (n:String)
 deriving DecidableEq
def RelV:V->Value->Prop
|.non,u=>u=Value.none
|.bl b,u=>u=Value.bool b
|.int i,u=>∃t,u=Value.int i t
|.str x,u=>∃t,u=Value.str x t
|.byt b,u=>∃t,u=Value.bytes b t
|.flt b,u=>∃t,u=Value.float b t
|.ref a,u=>u=Value.ref a
|.ty n,u=>u=Value.type n
abbrev Vals:List V->Ac->Prop:=Paired RelV
theorem Vals.length(r:Vals xs us):xs.length=us.length:=Paired.length r
theorem Vals.get:∀{xs:List V}{us:Ac}{i:Nat}{x:V},Vals xs us->xs[i]?=some x->∃u,us[i]?=some u/\RelV x u
|_,_,_,_,.nil,e=>by simp at e
|_,_,0,_,.cons r _,e=>by simp_all
|_,_,i+1,x,.cons _ t,e=>by
  obtain⟨u,h1,h2⟩:=Vals.get t (by simpa using e);simp_all
theorem Vals.set(r:RelV x u):∀{xs:List V}{us:Ac} (i:Nat),Vals xs us->Vals (xs.set i x) (us.set i u)
|_,_,_,.nil=>.nil
|_,_,0,.cons _ t=>.cons r t
|_,_,i+1,.cons q t=>.cons q (Vals.set r i t)
def Vals.append{xs ys:List V}{us ws:Ac}(h:Vals xs us)(s:Vals ys ws):Vals (xs++ys) (us++ws):=by
 induction h with
 |nil=>exact s
 |cons r t ih=>exact .cons r ih
theorem Vals.take:∀{xs:List V}{us:Ac} (n:Nat),Vals xs us->Vals (xs.take n) (us.take n)
|_,_,0,_=>.nil
|_,_,_+1,.nil=>.nil
|_,_,n+1,.cons r t=>.cons r (Vals.take n t)
theorem Vals.drop:∀{xs:List V}{us:Ac} (n:Nat),Vals xs us->Vals (xs.drop n) (us.drop n)
|_,_,0,r=>r
|_,_,_+1,.nil=>.nil
|_,_,n+1,.cons _ t=>Vals.drop n t
def RelO:Option V->Al->Prop
|some v,some u=>RelV v u
|none,none=>True
|_,_=>False
def KV{κ:Type}:List (κ×V)->List (κ×Value)->Prop:=Paired λ(p:κ×V) (q:κ×Value)=>p.1=q.1/\RelV p.2 q.2
def kV:Key->V
|.inl i=>.int i
|.inr x=>.str x
set_option genInjectivity true in
inductive HO where
  | lst (xs:List V)
  | tup (xs:List V)
  | dK (kvs:List (Key×V))|dT (kvs:List (List Key×V))
  | set (S:Int->Bool) (n:Nat)
  | ins (C dx:Addr) (fs:List (Str×V))
  | own (x:Addr)
  | xd (fs:List (Str×V))
  | met (f x:Addr)
  | rng (lo hi:Int)
  | frz (o:Obj) (u:HO)
  | tbl (ps:Ah)
  | ext (φ:Heap->Prop)
abbrev Hp:=Addr->Option HO
def upd(H:Hp)(a:Addr)(o:HO):Hp:=λb=>if b=a then some o else H b
theorem jad:upd H a o a=some o:=by unfold upd;simp_all
theorem jae(h:b≠a):upd H a o b=H b:=by unfold upd;rw[aJ h]
def jPk{H:Hp}{a b:Addr}{o u:HO}(h:H a=some o)(h':H b=some u)(d:o≠u):a≠b:=by grind
def ja5{H:Hp}{a b:Addr}{o:HO}(h:H a=some o)(h':H b=none):a≠b:=by grind
section
variable (P:Program)(w:World)
def ObjOk(H:Hp)(h:Heap)(a:Addr):HO->Prop
|.lst xs=>xs.length<=sizeLine/\∃(its:Ac) (n:Nat),Vals xs its/\h.get? a=some { cls:=.type "list",data:=.seq its.toArray n }
|.tup xs=>xs.length<=sizeLine/\∃its:Ac,Vals xs its/\IsTup h a its.toArray
|.dK kvs=>kvs.length<=sizeLine/\(a==sysModules)=false/\∃vs,KV kvs vs/\h.DictOf (jbm P w) a vs
|.dT kvs=>kvs.length<=sizeLine/\(a==sysModules)=false/\∃xs:List (List Key×Addr×Value),
   Paired (λ(p:List Key×V) (q:List Key×Addr×Value)=>p.1=q.1/\H q.2.1=some (.tup (p.1.map kV))/\RelV p.2 q.2.2) kvs xs /\
   ∃o es ep,h.get? a=some o/\o.ExactDict/\o.data=.dict es ep/\es.toList=xs.map (entryOfKey (tupleKind (jbm P w)))/\(xs.map (·.1)).Nodup
|.set S n=>h.SetOf (intKind P w) a S n
|.ins C dx fs=>H dx=some (.own a)/\fs.length<=1000/\dx≠a/\h.get? a=some (W.instObj C dx) /\
   ∃mA,h.Ns1 dx mA/\(∀f,RelO (fs.lookup f) (mA f))/\PySem.Within mA (fs.map (·.1))
|.own _=>∃o,h.get? a=some o
|.xd fs=>∃mA,h.Ns1 a mA/\∀f,RelO (fs.lookup f) (mA f)
|.rng lo hi=>∃t u v,h.get? a=some { cls:=.type "range",data:=.fields #[.int lo t,.int hi u,.int 1 v]}
|.frz o u=>h.get? a=some o/\ObjOk H h a u
|.tbl ps=>h.get? a=some { cls:=.none,data:=.fields ps }
|.met f x=>h.get? a=some (W.methodObj (.ref f) (.ref x))
|.ext φ=>φ h/\(∃o,h.get? a=some o)/\∀h1 h2:Heap,φ h1->(∀o,h1.get? a=some o->h2.get? a=some o)->φ h2
def HOk(H:Hp)(h:Heap):Prop:=∀a o,H a=some o->ObjOk P w H h a o
end
section
variable {P:Program}{w:World}{H H':Hp}{h h':Heap}{a:Addr}{o:HO}
theorem ObjOk.lt(x:ObjOk P w H h a o):a<h.objs.size:=by
 cases o with
 |lst xs=>obtain⟨_,_,_,_,e⟩:=x;exact zbv e
 |tup xs=>obtain⟨_,_,_,p⟩:=x;exact p.lt
 |dK kvs=>obtain⟨_,_,_,_,o,_,_,e,_⟩:=x;exact zbv e
 |dT kvs=>obtain⟨_,_,_,_,o,_,_,e,_⟩:=x;exact zbv e
 |set S n=>obtain⟨o,_,_,_,e,_⟩:=x;exact zbv e
 |ins C dx fs=>obtain⟨_,_,_,e,_⟩:=x;exact zbv e
 |own y=>obtain⟨_,e⟩:=x;exact zbv e
 |xd fs=>obtain⟨_,⟨_,_,_,e,_⟩,_⟩:=x;exact zbv e
 |rng lo hi=>obtain⟨_,_,_,e⟩:=x;exact zbv e
 |frz ob u=>obtain⟨e,_⟩:=x;exact zbv e
 |tbl ps=>exact zbv (x)
 |met f y=>exact zbv (x)
 |ext φ=>obtain⟨_,⟨_,e⟩,_⟩:=x;exact zbv e
def Paired.mapP{l₁:List α}{l₂:List β}(h:Paired F l₁ l₂)(f:∀a b,F a b->G a b):Paired G l₁ l₂:=by
 induction h with
 |nil=>exact .nil
 |cons r t ih=>exact .cons (f _ _ r) ih
def ObjOk.stay(x:ObjOk P w H h a o)(k:∀b u,(b=a\/H b=some (.own a))->h.get? b=some u->h'.get? b=some u)
  (ho:∀b,H b=some (.own a)->H' b=some (.own a)) (ht:∀b xs,H b=some (.tup xs)->H' b=some (.tup xs)):ObjOk P w H' h' a o:=by
 induction o with
|lst xs=>obtain⟨z,its,n,r,e⟩:=x;exact⟨z,its,n,r,k _ _ (.inl rfl) e⟩
|tup xs=>obtain⟨z,its,r,ob,e,c⟩:=x;exact⟨z,its,r,ob,k _ _ (.inl rfl) e,c⟩
|dK kvs=>obtain⟨z,y,vs,r,ob,es,ep,e,c⟩:=x;exact⟨z,y,vs,r,ob,es,ep,k _ _ (.inl rfl) e,c⟩
|dT kvs=>obtain⟨z,y,xs,r,ob,es,ep,e,c⟩:=x;exact⟨z,y,xs,Paired.mapP r λp q z=>⟨z.1,ht _ _ z.2.1,z.2.2⟩,ob,es,ep,k _ _ (.inl rfl) e,c⟩
|set S n=>obtain⟨ob,es,ep,t,e,c⟩:=x;exact⟨ob,es,ep,t,k _ _ (.inl rfl) e,c⟩
|ins C dx fs=>obtain⟨d,z,ne,e,mA,⟨od,es,ep,e2,c⟩,r⟩:=x;exact⟨ho _ d,z,ne,k _ _ (.inl rfl) e,mA,⟨od,es,ep,k _ _ (.inr d) e2,c⟩,r⟩
|own y=>obtain⟨ob,e⟩:=x;exact⟨ob,k _ _ (.inl rfl) e⟩
|xd fs=>obtain⟨mA,⟨od,es,ep,e,c⟩,r⟩:=x;exact⟨mA,⟨od,es,ep,k _ _ (.inl rfl) e,c⟩,r⟩
|rng lo hi=>obtain⟨t,u,v,e⟩:=x;exact⟨t,u,v,k _ _ (.inl rfl) e⟩
|frz ob u ih=>obtain⟨e,q⟩:=x;exact⟨k _ _ (.inl rfl) e,ih q⟩
|tbl ps=>exact k a _ (.inl rfl) x
|met f y=>exact k a _ (.inl rfl) x
|ext φ=>obtain⟨p,⟨o,e⟩,st⟩:=x;exact⟨st _ _ p λo q=>k _ _ (.inl rfl) q,⟨o,k _ _ (.inl rfl) e⟩,st⟩
def HOk.lt(x:HOk P w H h)(e:H a=some o):a<h.objs.size:=(x a o e).lt
theorem HOk.fresh(x:HOk P w H h)(e:h.objs.size<=a):H a=none:=by
 cases q:H a with
 |none=>rfl
 |some u=>exact absurd (zcx (x.lt q) e) (bH _)
def HOk.kept(x:HOk P w H h)(k:∀b u,h.get? b=some u->h'.get? b=some u):HOk P w H h':=λa o e =>
 (x a o e).stay (λb u z q=>k b u q) (λz q=>q) λz z q=>q
def HOk.laid(x:HOk P w H h)(k:∀b u,h.get? b=some u->h'.get? b=some u)(hp:h.objs.size<=a)(new:ObjOk P w (upd H a o) h' a o):HOk P w (upd H a o) h':=λb u e=>by
 have hn:=x.fresh hp
 by_cases hb:b=a
 .subst hb;rw[jad]at e;grind
 .rw[jae hb]at e;exact(x b u e).stay (λc v z q=>k c v q) (λc q=>by rw[jae (ja5 q hn)];exact q) λc xs q=>by rw[jae (ja5 q hn)];exact q
end
def Rd(H:Hp)(a:Addr)(u:HO):Prop:=H a=some u\/∃o,H a=some (.frz o u)
def Rd.ok(r:Rd H a u)(x:HOk P w H h):ObjOk P w H h a u:=by
 rcases r with r|⟨o,r⟩
 .exact x a u r
 .obtain⟨_,q⟩:=x a _ r;exact q
def Mut:Option HO->Prop
|some (.lst _)=>True
|some (.dK _)=>True
|some (.dT _)=>True
|some (.set _ _)=>True
|some (.ins _ _ _)=>True
|some (.ext _)=>True
|_=>False
section
variable {P:Program}{w:World}{H:Hp}{h h':Heap}{x e:Addr}{o':HO}
def HOk.write(ok:HOk P w H h)(mu:Mut (H x))(he:e=x\/H e=some (.own x))(k:∀b u,b≠e->h.get? b=some u->h'.get? b=some u)(heo:∃u,h'.get? e=some u)
  (new:ObjOk P w (upd H x o') h' x o'):HOk P w (upd H x o') h':=λb u q=>by
 have nown:∀c y,H c=some (.own y)->c≠x:=λc y r z=>by subst z;rw[r]at mu;exact mu
 by_cases hb:b=x
 .subst hb;rw[jad]at q;grind
 .rw[jae hb]at q
  by_cases hbe:b=e
  .have q':H b=some (.own x):=by
    rcases he with z|z
    .grind
    .grind
   rw[q]at q';cases q'
   obtain⟨v,hv⟩:=heo;exact⟨v,by grind⟩
  .refine (ok b u q).stay (λc v hc r=>k c v ?_ r) (λc r=>by rw[jae (nown c b r)];exact r) λc xs r=>by rw[jae ((λc xs r z=>by subst z;rw[r]at mu;exact mu) c xs r)];exact r
   grind
end
structure Un(fs ex:Ak)(H H':Hp)(h h':Heap):Prop where
 keep:∀b o,h.get? b=some o->H b=none->b∉fs->b∉ex->h'.get? b=some o
 slot:∀b o,h.get? b=some o->H b=none->b∈fs->b∉ex->∃sl,h'.get? b=some { o with slots:=sl }
 free:∀b o,h.get? b=some o->H b=none->b∉ex->H' b=none
 there:∀b o,h.get? b=some o->b∉ex->∃o',h'.get? b=some o'
 tups:∀b xs,H b=some (.tup xs)->H' b=some (.tup xs)
 frzs:∀b o u,H b=some (.frz o u)->H' b=some (.frz o u)
 tbls:∀b ps,H b=some (.tbl ps)->∃more,H' b=some (.tbl (ps++more))
section
variable {fs ex:Ak}{H H1:Hp}{h h1 h':Heap}{a x e:Addr}{o:HO}
def Un.any(u:Un fs ex H H1 h h1)(q:h.get? b=some ob)(n:H b=none)(hx:b∉ex):∃sl,h1.get? b=some { ob with slots:=sl }:=by
 by_cases hb:b∈fs
 .exact u.slot b ob q n hb hx
 .exact⟨_,u.keep b ob q n hb hx⟩
def Un.kept(k:∀b u,h.get? b=some u->h'.get? b=some u):Un fs ex H H h h' :=
 ⟨λb ob q z z z=>k b ob q,λb ob q z z z=>⟨_,k b ob q⟩,λz z z n z=>n,λb ob q z=>⟨ob,k b ob q⟩,λz z q=>q,λz z z q=>q,λz ps q=>⟨#[],by rw[q];simp⟩⟩
def Un.refl:Un fs ex H H h h:=Un.kept λz z q=>q
def Un.laid(k:∀b u,h.get? b=some u->h'.get? b=some u)(hp:h.objs.size<=a)(hn:H a=none):Un fs ex H (upd H a o) h h' where
 keep:=λb u q z z z=>k b u q
 slot:=λb u q z z z=>⟨_,k b u q⟩
 free:=λb u q n z=>by rw[jae (zcw (zcx (zbv q) hp))];exact n
 there:=λb u q z=>⟨u,k b u q⟩
 tups:=λb xs q=>by rw[jae (ja5 q hn)];exact q
 frzs:=λb u xs q=>by rw[jae (ja5 q hn)];exact q
 tbls:=λb ps q=>⟨#[],by rw[jae (ja5 q hn),q];simp⟩
def Un.write(mu:Mut (H x))(he:e=x\/H e=some (.own x))(k:∀b u,b≠e->h.get? b=some u->h'.get? b=some u)(heo:∃u,h'.get? e=some u):Un fs ex H (upd H x o) h h':=by
 have hx:∀b,H b=none->b≠x:=λb n z=>by subst z;rw[n]at mu;exact mu
 have hb:∀b,H b=none->b≠e:=λb n z=>by clear k;lia
 have hm:∀b u,H b=some u->¬Mut (some u)->b≠x:=λb u q nm z=>by simp_all
 refine⟨λb u q n y y=>k b u (hb b n) q,λb u q n y y=>⟨_,k b u (hb b n) q⟩,λb u q n y=>by rw[jae (hx b n)];exact n,λb u q y=>?_,
  λb xs q=>by rw[jae (hm b _ q λz=>z)];exact q,λb u xs q=>by rw[jae (hm b _ q λz=>z)];exact q,λb ps q=>⟨#[],by rw[jae (hm b _ q λz=>z),q];simp⟩⟩
 grind
end
def trk(h:Heap)(H:Hp):Ak:=(List.range h.objs.size).filter λa=>(H a).isSome
def hidT(h:Heap)(H:Hp):Heap:=W.hideAll h (trk h H)
def jty(h:Heap)(H:Hp):(hidT h H).objs.size=h.objs.size:=W.hideAll_size _ _
def jyb{h:Heap}{H:Hp}{b:Addr}{o:Obj}(e:h.get? b=some o)(n:H b=none):(hidT h H).get? b=some o:=
 W.hideAll_get _ e λhm=>by
  have q:=(List.mem_filter.mp hm).2;simp_all
def jEs(e:(hidT h H).get? b=some o):h.get? b=some o/\H b=none:=by
 have e':=W.of_hideAll _ e;refine⟨e',?_⟩
 cases q:H b with
 |none=>rfl
 |some x=>
  have z:(hidT h H).get? b=none:=W.hideAll_none _ (List.mem_filter.mpr ⟨zcc.mpr (zbv e'),by simp[q]⟩);simp_all
structure Mod(K:Af)(mg:qc)(base:Heap):Prop where
 kin:K.In base
 glob:base.Ns mainGlobals mg
 blt:∃mb,base.Ns builtinsNs mb/\∀x:Str,x≠"__name__"->mb x=bootBuiltins x
 nolimit:base.NoLimit
structure Cx where
 prog:Program
 w:World
 K:Af
 mg:qc
 base:Heap
 A:Around
 N:Ab
 s₀:Shared
 Hz:Hp
 env:Env
 outer:Aj
 stack:Aj
 ex:Ak
 fn:Str->Bool
 calm:Bool
 pn:qd
 xe:qe
abbrev Aq(x:Str):Prop:=(x==("__debug__":Str))=false
abbrev Ao(X:Cx)(iter:Expr):Prop:=∀x,foldedSetIterable iter X.env x=pure x
abbrev An(X:Cx)(x:Str):Prop:=X.fn x=true\/X.env.scope.names.lookup x=some .local
abbrev Am(X:Cx){α:Type}(t:Sem α)(Q:α->Shared->Prop)(E:Value->Shared->Prop)(s:Shared):Prop:=wpAny (model X.prog X.w) X.A t Q E s
def frs(l:Aj):Ak:=l.filterMap (·.frame)
noncomputable abbrev Cx.fs(X:Cx):Ak:=frs X.outer
def Vis(sc:Scope)(x:Str):Prop:=sc.names.lookup x=some .local\/sc.names.lookup x=some .cell\/sc.names.lookup x=some .free
def Loc(sc:Scope)(x:Str):Prop:=sc.names.lookup x=some .local\/sc.names.lookup x=some .cell
def Look(env:Env)(h:Heap)(m:qc)(x:Str)(u:Value):Prop:=
 (env.kindOf x=some .local/\m x=some u)\/((env.kindOf x=some .cell\/env.kindOf x=some .free)/\∃c,env.cells.lookup x=some c/\h.IsCell c (some u))
structure Cx.Ok(X:Cx):Prop where
 mod:Mod X.K X.mg X.base
 kind:X.env.scope.kind=.function
 glob:X.env.globals=mainGlobals
 blt:X.env.builtins=builtinsNs
 above:X.s₀.heap.objs.size<=X.env.locals
 inj:∀x y c,X.env.cells.lookup x=some c->X.env.cells.lookup y=some c->x=y
 has:∀x,(X.env.kindOf x=some .cell\/X.env.kindOf x=some .free)->∃c,X.env.cells.lookup x=some c
 cab:∀x c,X.fn x=true->X.env.cells.lookup x=some c->X.s₀.heap.objs.size<=c
 hd:X.calm=true->X.A.handled=none
 frames:X.A.frames=some X.stack
 stk:X.stack=X.outer\/(X.stack=X.env::X.outer/\X.env.frame=some X.env.locals)
 exf:∀b∈X.ex,b≠X.env.locals/\∀x c,X.env.cells.lookup x=some c->c≠b
 bs:∀b o,X.base.get? b=some o->X.s₀.heap.get? b=some o/\X.Hz b=none
 bsz:X.base.objs.size<=X.s₀.heap.objs.size
 noex:∀b o,X.base.get? b=some o->b∉X.ex
 exfs:∀b∈X.ex,b∉X.fs
 funs:X.s₀.heap.FunFrames X.base X.outer
 frf:∀b∈X.fs,X.Hz b=none
structure Inv(X:Cx)(U:qd)(Z:List (Option V))(H:Hp)(s:Shared):Prop where
 ok:X.Ok
 os:s.os=X.s₀.os
 bare:AllBare s.gens
 base:Un X.fs X.ex X.Hz H X.s₀.heap s.heap
 loc:∃m,s.heap.Ns X.env.locals m/\∀(i:Nat)(x:Str)(v:V),X.N[i]?=some x->Z[i]?=some (some v)->Vis X.env.scope x->∃u,RelV v u/\Look X.env s.heap m x u
 cell:∀x c,X.env.cells.lookup x=some c->∃v,s.heap.IsCell c v
 free:H X.env.locals=none
 freeC:∀x c,X.env.cells.lookup x=some c->H c=none
 pin:∀p∈X.pn++U,s.heap.get? p.1=some p.2/\H p.1=none/\p.1≠X.env.locals/\p.1∉X.fs/\∀v,p.2.data≠.cell v
 hok:HOk X.prog X.w H s.heap
 len:Z.length=X.N.length
section
variable {X:Cx}{U:qd}{Z:List (Option V)}{H H':Hp}{s:Shared}{h':Heap}
def Cx.Ok.nofr(ok:X.Ok)(e:X.base.get? b=some o):b∉X.fs:=λhb=>by
 have:=(ok.funs.mem hb).1;grind
def Inv.bs(I:Inv X U Z H s):∀b o,X.base.get? b=some o->s.heap.get? b=some o/\H b=none:=λb o e =>
 ⟨I.base.keep b o (I.ok.bs b o e).1 (I.ok.bs b o e).2 (I.ok.nofr e) (I.ok.noex b o e),I.base.free b o (I.ok.bs b o e).1 (I.ok.bs b o e).2 (I.ok.noex b o e)⟩
def Inv.bk(I:Inv X U Z H s):∀b o,X.base.get? b=some o->s.heap.get? b=some o:=λb o e=>(I.bs b o e).1
def Inv.mod(I:Inv X U Z H s):Mod X.K X.mg X.base:=I.ok.mod
def Inv.kIn(I:Inv X U Z H s):X.K.In s.heap:=I.ok.mod.kin.keeps I.bk
def Inv.lt(I:Inv X U Z H s):X.env.locals<s.heap.objs.size:=let ⟨_,hn,_⟩:=I.loc;hn.lt
def Inv.sz(I:Inv X U Z H s):X.s₀.heap.objs.size<=s.heap.objs.size:=zdz I.ok.above (cY I.lt)
def Inv.nofs(I:Inv X U Z H s)(h:s.heap.objs.size<=a):a∉X.fs:=λhb=>by obtain⟨_,o,ho,_⟩:=I.ok.funs.mem hb;exact absurd (zcx (zbv ho) (zdz I.sz h)) (bH _)
def Inv.cne(I:Inv X U Z H s):∀x c,X.env.cells.lookup x=some c->c≠X.env.locals:=λx c e z=>by
 obtain⟨v,o,ho,hd⟩:=I.cell x c e;obtain⟨m,⟨o',es,ep,ho',hd',_⟩,_⟩:=I.loc;simp_all
def Inv.funs(I:Inv X U Z H s):s.heap.FunFrames X.base X.outer:=by
 have all:∀(l:Aj),(∀b∈frs l,b∈X.fs)->X.s₀.heap.FunFrames X.base l->s.heap.FunFrames X.base l:=by
  intro l
  induction l with
  |nil=>intro _ _;trivial
  |cons env r ih=>
   intro hs hl;obtain⟨hk,⟨L,o,hf,hn,ho,hd⟩,hr⟩:=hl;have hL:=hs L (by unfold frs;simp_all);obtain⟨sl,e⟩:=I.base.slot L o ho (I.ok.frf L hL) hL λz=>I.ok.exfs L z hL
   exact⟨hk,⟨L,_,hf,hn,e,hd⟩,ih (λb hb=>hs b (by unfold frs;rw[eX,hf];exact zaw _ hb)) hr⟩
 exact all _ (λy hb=>hb) I.ok.funs
def Inv.stack(I:Inv X U Z H s):s.heap.FunFrames X.base X.stack:=by
 rcases I.ok.stk with e|⟨e,hf⟩
 .rw[e];exact I.funs
 .rw[e];obtain⟨m,hn,_⟩:=I.loc;exact .cons (by rw[I.ok.kind];decide) hf hn (bW (zdz I.ok.bsz I.ok.above)) I.funs
def Inv.stkSub(I:Inv X U Z H s):∀b∈frs X.stack,b∈X.env.locals::X.fs:=λb hb=>by
 rcases I.ok.stk with e|⟨e,hf⟩
 .simp_all
 .rw[e]at hb;unfold frs at hb;rw[eX,hf]at hb;exact hb
def Inv.stkFree(I:Inv X U Z H s):∀b∈frs X.stack,H b=none:=λb hb=>by
 rcases aM.mp (I.stkSub b hb)with e|hb
 .rw[e];exact I.free
 .obtain⟨_,o,ho,_⟩:=I.ok.funs.mem hb;exact I.base.free b o ho (I.ok.frf b hb) λz=>I.ok.exfs b z hb
def Inv.step{ch:Ak}(I:Inv X U Z H s)
  (hch:∀b∈ch,(b∈X.ex\/X.s₀.heap.objs.size<=b)/\b≠X.env.locals/\(∀x c,X.env.cells.lookup x=some c->c≠b)/\∀p∈X.pn++U,p.1≠b)
  (keep:∀b o,b≠X.env.locals->b∉X.fs->b∉ch->s.heap.get? b=some o->H b=none->h'.get? b=some o)
  (slot:∀b o,b≠X.env.locals->b∈X.fs->b∉ch->s.heap.get? b=some o->H b=none->∃sl,h'.get? b=some { o with slots:=sl }) (free:∀b o,b∉ch->s.heap.get? b=some o->H b=none->H' b=none)
  (there:∀b o,b∉ch->s.heap.get? b=some o->∃o',h'.get? b=some o')
  (tups:∀b xs,H b=some (.tup xs)->H' b=some (.tup xs)) (frzs:∀b o u,H b=some (.frz o u)->H' b=some (.frz o u)) (tbls:∀b ps,H b=some (.tbl ps)->∃more,H' b=some (.tbl (ps++more)))
  (ns:∀m,s.heap.Ns X.env.locals m->h'.Ns X.env.locals m) (hok:HOk X.prog X.w H' h') (hg:AllBare g'):
  Inv X U Z H' { s with heap:=h',gens:=g',drawn:=d',toks:=t' }:=by
 have neL:∀b o,X.s₀.heap.get? b=some o->b≠X.env.locals:=λb o e=>zcw (zcx (zbv e) I.ok.above)
 have neC:∀b o,X.s₀.heap.get? b=some o->b∉X.ex->b∉ch:=λb o e hx hb=>by
  rcases(hch b hb).1 with z|z
  .exact hx z
  .exact absurd (zcx (zbv e) z) (bH _)
 have cellK:∀x c,X.env.cells.lookup x=some c->∀v,s.heap.IsCell c v->h'.IsCell c v:=λx c e v ⟨o,ho,hd⟩=>by
  have nch:=λz=>(hch c z).2.2.1 x c e rfl
  by_cases hc:c∈X.fs
  .obtain⟨sl,q⟩:=slot c o (I.cne x c e) hc nch ho (I.freeC x c e);exact⟨_,q,hd⟩
  .exact⟨o,keep c o (I.cne x c e) hc nch ho (I.freeC x c e),hd⟩
 refine⟨I.ok,I.os,hg,⟨λb o e n hb hx=>(keep b o (neL b o e) hb (neC b o e hx) (I.base.keep b o e n hb hx) (I.base.free b o e n hx)),λb o e n hb hx=>?_,λb o e n hx=>?_,λb o e hx=>?_,λb xs e=>tups b xs (I.base.tups b xs e),λb o xs e=>frzs b o xs (I.base.frzs b o xs e),λb ps e=>?_⟩,?_,λx c e=>?_,?_,λx c e=>?_,λp hp=>?_,hok,I.len⟩
 .obtain⟨sl,e1⟩:=I.base.slot b o e n hb hx;obtain⟨sl',e2⟩:=slot b _ (neL b o e) hb (neC b o e hx) e1 (I.base.free b o e n hx)
  grind
 .obtain⟨o',e1⟩:=I.base.there b o e hx;exact free b o' (neC b o e hx) e1 (I.base.free b o e n hx)
 .obtain⟨o',e1⟩:=I.base.there b o e hx
  simp_all
 .obtain⟨m1,e1⟩:=I.base.tbls b ps e;obtain⟨m2,e2⟩:=tbls b _ e1;exact⟨_,by rw[e2,Array.append_assoc]⟩
 .obtain⟨m,hn,hl⟩:=I.loc;refine⟨m,ns m hn,λi x v e1 e2 e3=>?_⟩;obtain⟨u,r,l⟩:=hl i x v e1 e2 e3;refine⟨u,r,?_⟩;rcases l with l|⟨k,c,e,z⟩
  .exact .inl l
  .exact .inr ⟨k,c,e,cellK x c e _ z⟩
 .obtain⟨v,z⟩:=I.cell x c e
  clear slot;grind
 .obtain⟨m,⟨o,_,_,ho,_⟩,_⟩:=I.loc;exact free _ o (λz=>(hch _ z).2.1 rfl) ho I.free
 .obtain⟨v,o,ho,hd⟩:=I.cell x c e;exact free c o (λz=>(hch c z).2.2.1 x c e rfl) ho (I.freeC x c e)
 .obtain⟨e,n,ne,nf,d⟩:=I.pin p hp;have nch:=λz=>(hch p.1 z).2.2.2 p hp rfl
  exact⟨keep p.1 p.2 ne nf nch e n,free p.1 p.2 nch e n,ne,nf,d⟩
def Inv.un(I:Inv X U Z H s)(u:Un X.fs [] H H' s.heap h')(hok:HOk X.prog X.w H' h'):Inv X U Z H' { s with heap:=h',toks:=t' }:=by
 obtain⟨m,⟨o,es,ep,ho,r⟩,_⟩:=id I.loc;obtain⟨sl,hL⟩:=u.any ho I.free (by simp);exact I.step (ch:=[]) (λy z=>nomatch z) (λb o y hb y e n=>u.keep b o e n hb (by simp)) (λb o y hb y e n=>u.slot b o e n hb (by simp)) (λb o y e n=>u.free b o e n (by simp)) (λb o y e=>u.there b o e (by simp)) u.tups u.frzs u.tbls (λm' hm=>by
  obtain⟨o',es',ep',ho',r'⟩:=hm;rw[ho]at ho';cases ho'
  exact⟨_,es',ep',hL,r'⟩) hok I.bare
def Inv.call(I:Inv X U Z H s)(u:Un (frs X.stack) ch H H' s.heap h')(hok:HOk X.prog X.w H' h')(hg:AllBare g')
  (hch:∀b∈ch,(b∈X.ex\/X.s₀.heap.objs.size<=b)/\b≠X.env.locals/\(∀x c,X.env.cells.lookup x=some c->c≠b)/\∀p∈X.pn++U,p.1≠b):
  Inv X U Z H' { s with heap:=h',gens:=g',drawn:=d',toks:=t' }:=by
 obtain⟨m,⟨o,es,ep,ho,r⟩,_⟩:=id I.loc;obtain⟨sl,hL⟩:=u.any ho I.free λz=>(hch _ z).2.1 rfl
 exact I.step hch (λb o hL hb hc e n=>u.keep b o e n (λz=>(aM.mp (I.stkSub b z)).elim hL hb) hc) (λb o y y hc e n=>u.any e n hc) (λb o hc e n=>u.free b o e n hc) (λb o hc e=>u.there b o e hc) u.tups u.frzs u.tbls (λm' hm=>by
  obtain⟨o',es',ep',ho',r'⟩:=hm;rw[ho]at ho';cases ho'
  exact⟨_,es',ep',hL,r'⟩) hok hg
def Inv.turned(I:Inv X U Z H s)(k:∀b o,b≠it->s.heap.get? b=some o->h'.get? b=some o)(hn:H it=none)(hL:it≠X.env.locals)
  (h1:it∈X.ex\/X.s₀.heap.objs.size<=it) (h2:∀x c,X.env.cells.lookup x=some c->c≠it) (h3:∀p∈X.pn++U,p.1≠it):Inv X U Z H { s with heap:=h',toks:=t' }:=by
 have nit:∀b u,H b=some u->b≠it:=λb u e z=>by grind
 refine I.step (ch:=[it]) (λb hb=>?_) (λb o y y hc e y=>k b o (λz=>hc (by simp[z])) e) (λb o y y hc e y=>⟨_,k b o (λz=>hc (by simp[z])) e⟩) (λy y y y n=>n)
  (λb o hc e=>⟨o,k b o (λz=>hc (by simp[z])) e⟩) (λy y e=>e) (λy y y e=>e) (λb ps e=>⟨#[],by rw[e];simp⟩) (λm hm=>?_) (λb u e=>?_) I.bare
 .have e:=by simpa using hb
  subst e;exact⟨h1,hL,h2,h3⟩
 .obtain⟨o,es,ep,ho,r⟩:=hm;exact⟨o,es,ep,k _ o (cE hL) ho,r⟩
 .refine (I.hok b u e).stay (λc v hc q=>k c v ?_ q) (λy q=>q) λy y q=>q
  grind
def Inv.tok(I:Inv X U Z H s)(t:Nat):Inv X U Z H { s with toks:=t }:=I.un Un.refl I.hok
def Inv.kept(I:Inv X U Z H s)(k:∀b u,s.heap.get? b=some u->h'.get? b=some u):Inv X U Z H { s with heap:=h',toks:=t' }:=I.un (Un.kept k) (I.hok.kept k)
def Inv.laid(I:Inv X U Z H s)(k:∀b u,s.heap.get? b=some u->h'.get? b=some u)(hp:s.heap.objs.size<=a)(new:ObjOk X.prog X.w (upd H a o) h' a o):
  Inv X U Z (upd H a o) { s with heap:=h',toks:=t' }:=I.un (Un.laid k hp (I.hok.fresh hp)) (I.hok.laid k hp new)
def Inv.write(I:Inv X U Z H s)(mu:Mut (H x))(he:e=x\/H e=some (.own x))(k:∀b u,b≠e->s.heap.get? b=some u->h'.get? b=some u)(heo:∃u,h'.get? e=some u)
  (new:ObjOk X.prog X.w (upd H x o) h' x o):Inv X U Z (upd H x o) { s with heap:=h',toks:=t' }:=I.un (Un.write mu he k heo) (I.hok.write mu he k heo new)
def Inv.pins_of(I:Inv X U Z H s)(h:∀p∈pins',s.heap.get? p.1=some p.2/\H p.1=none/\p.1≠X.env.locals/\p.1∉X.fs/\∀v,p.2.data≠.cell v):Inv X pins' Z H s:=
 ⟨I.ok,I.os,I.bare,I.base,I.loc,I.cell,I.free,I.freeC,λp hp=>(zdy.mp hp).elim (λz=>I.pin p (ge _ z)) (h p),I.hok,I.len⟩
def jlj{N:Ab}(hN:N.Nodup){i j:Nat}(a:N[i]?=some x)(b:N[j]?=some x):i=j:=by obtain⟨h1,e1⟩:=zbb.mp a;obtain⟨h2,e2⟩:=zbb.mp b;exact(List.getElem_inj hN).mp (e1.trans e2.symm)
def jnn{M:Model}{A:Around}{E:qe}{i:Nat}{x:Str}{v:V}{u:Value}{Q:Unit->Shared->Prop}(I:Inv X U Z H s)(hN:X.N.Nodup)(hi:X.N[i]?=some x)(hx:Loc X.env.scope x)(r:RelV v u)
  (h:∀s',Inv X U (Z.set i (some v)) H s'->(∃a,Heap.SameBut a s.heap s'.heap/\(a=X.env.locals\/X.env.cells.lookup x=some a))->Q () s') (hf:An X x):wpAny M A (storeName X.env x u) Q E s:=by
 obtain⟨m,hn,hl⟩:=id I.loc;have hiZ:i<Z.length:=by rw[I.len];exact(zbb.mp hi).1
 have cne:=I.cne;have tracked:∀{a:Addr}{h':Heap},(∃o,s.heap.get? a=some o/\H a=none)->Heap.SameBut a _ h'->HOk _ X.w H h':=λ{a h'} ha hs b ob e=>by
  obtain⟨_,_,hfree⟩:=ha;refine(I.hok b ob e).stay (λc w' hc q=>(hs.2 c ?_).trans q) (λt q=>q) λt t q=>q;grind
 rcases hx with hk|hk
 .refine wpAny_storeName_local hk hn (λh' hn' hs=>?_) (by rw[I.ok.kind];rfl);obtain⟨oL,_,_,hoL,_⟩:=id hn;refine h _ ⟨I.ok,I.os,I.bare,⟨λb o e n hb hx=>((hs.2 b (zcw (zcx (zbv e) I.ok.above))).trans (I.base.keep b o e n hb hx)),λb o e n hb hx=>?_,I.base.free,λb o e hx=>?_,I.base.tups,I.base.frzs,I.base.tbls⟩,⟨_,hn',λj y v' e1 e2 e3=>?_⟩,λy c e=>?_,I.free,I.freeC,λp hp=>?_,tracked ⟨oL,hoL,I.free⟩ hs,by simpa using I.len⟩ ⟨_,hs,.inl rfl⟩
  .obtain⟨sl,e1⟩:=I.base.slot b o e n hb hx;exact⟨sl,(hs.2 b (zcw (zcx (zbv e) I.ok.above))).trans e1⟩
  .obtain⟨o',e1⟩:=I.base.there b o e hx;exact⟨o',(hs.2 b (zcw (zcx (zbv e) I.ok.above))).trans e1⟩
  .by_cases hj:j=i
   .subst hj;rw[hi]at e1;cases e1
    rw[zcz hiZ]at e2;cases e2;exact⟨u,r,.inl ⟨hk,by simp⟩⟩
   .rw[zbw (cE hj)]at e2;obtain⟨u',r',q⟩:=hl j y v' e1 e2 e3;refine⟨u',r',?_⟩;rcases q with ⟨k,e⟩|⟨k,c,e,z⟩
    .refine .inl ⟨k,?_⟩;have:y≠x:=λe=>hj (jlj hN e1 (e ▸ hi))
     grind
    .exact .inr ⟨k,c,e,z.sameBut hs (cne y c e)⟩
  .obtain⟨w',z⟩:=I.cell y c e;exact⟨w',z.sameBut hs (cne y c e)⟩
  .obtain⟨e,n,ne,nf,d⟩:=I.pin p hp;exact⟨(hs.2 p.1 ne).trans e,n,ne,nf,d⟩
 .have hfn:X.fn x=true:=by
   rcases hf with z|z
   .exact z
   .grind
  obtain⟨c,hc⟩:=I.ok.has x (.inl hk);obtain⟨w',z⟩:=I.cell x c hc;refine wpAny_storeName_cell I.ok.kind hk hc z (λh' hc' hs=>?_);obtain⟨oc,hoc,hocd⟩:=id z;refine h _ ⟨I.ok,I.os,I.bare,⟨λb o e n hb hx=>((hs.2 b (zcw (zcx (zbv e) (I.ok.cab x c hfn hc)))).trans (I.base.keep b o e n hb hx)),λb o e n hb hx=>?_,I.base.free,λb o e hx=>?_,I.base.tups,I.base.frzs,I.base.tbls⟩,⟨m,hn.sameBut hs (cE (cne x c hc)),λj y v' e1 e2 e3=>?_⟩,λy c' e=>?_,I.free,I.freeC,λp hp=>?_,tracked ⟨oc,hoc,I.freeC x c hc⟩ hs,by simpa using I.len⟩ ⟨c,hs,.inr hc⟩
  .obtain⟨sl,e1⟩:=I.base.slot b o e n hb hx;exact⟨sl,(hs.2 b (zcw (zcx (zbv e) (I.ok.cab x c hfn hc)))).trans e1⟩
  .obtain⟨o',e1⟩:=I.base.there b o e hx;exact⟨o',(hs.2 b (zcw (zcx (zbv e) (I.ok.cab x c hfn hc)))).trans e1⟩
  .by_cases hj:j=i
   .subst hj;rw[hi]at e1;cases e1
    rw[zcz hiZ]at e2;cases e2;exact⟨u,r,.inr ⟨.inl hk,c,hc,hc'⟩⟩
   .rw[zbw (cE hj)]at e2;obtain⟨u',r',q⟩:=hl j y v' e1 e2 e3;refine⟨u',r',?_⟩;rcases q with q|⟨k,c',e,z'⟩
    .exact .inl q
    .refine .inr ⟨k,c',e,z'.sameBut hs ?_⟩;rintro rfl;exact hj (jlj hN e1 (I.ok.inj _ _ _ e hc ▸ hi))
  .by_cases hcc:c'=c
   .grind
   .obtain⟨w2,z2⟩:=I.cell y c' e;exact⟨w2,z2.sameBut hs hcc⟩
  .obtain⟨e,n,ne,nf,d⟩:=I.pin p hp;refine⟨(hs.2 p.1 ?_).trans e,n,ne,nf,d⟩;intro q;rw[q,hoc]at e;exact d w' (by rw[<- (zby e)];exact hocd)
def jfh{M:Model}{A:Around}{E:qe}{i:Nat}{x:Str}{v:V}{u:Value}{Q:Unit->Shared->Prop}(I:Inv X U Z H s)(hN:X.N.Nodup)(hi:X.N[i]?=some x)(hx:Loc X.env.scope x)(r:RelV v u)
  (h:∀s',Inv X U (Z.set i (some v)) H s'->Q () s') (hf:An X x):wpAny M A (storeName X.env x u) Q E s:=
 jnn I hN hi hx r (λs' I' z=>h s' I') hf
def Inv.call'(I:Inv X U Z H s)(ho:s'.os=s.os)(u:Un (frs X.stack) ch H H' s.heap s'.heap)(hok:HOk X.prog X.w H' s'.heap)(hg:AllBare s'.gens)
  (hch:∀b∈ch,(b∈X.ex\/X.s₀.heap.objs.size<=b)/\b≠X.env.locals/\(∀x c,X.env.cells.lookup x=some c->c≠b)/\∀p∈X.pn++U,p.1≠b):Inv X U Z H' s':=by obtain⟨h',g',d',t',o'⟩:=s';subst ho;exact I.call u hok hg hch
end
abbrev XK:=Value->Ag->Hp->Prop
abbrev St:=List (Option V)
abbrev VK:=V->Hp->Prop
abbrev TE:=St->Hp->VK->Prop
abbrev TT:=St->Hp->(Bool->Hp->Prop)->Prop
abbrev TA:=St->Hp->(List V->Hp->Prop)->Prop
structure Ends where
 nx:St->Hp->Prop
 rt:VK
 bk:St->Hp->Prop:=λ_ _=>False
 ct:St->Hp->Prop:=λ_ _=>False
abbrev TS:=Ends->St->Hp->Prop
inductive EP(X:Cx)(U:qd)(Z:St)(Q:VK)(u:Value)(s':Shared):Prop
| mk (v:V) (H':Hp) (h0:Inv X U Z H' s') (h1:RelV v u) (h2:Q v H')
inductive TP(X:Cx)(U:qd)(Z:St)(Q:Bool->Hp->Prop)(b:Bool)(s':Shared):Prop
| mk (H':Hp) (h0:Inv X U Z H' s') (h1:Q b H')
inductive AP(X:Cx)(U:qd)(Z:St)(Q:List V->Hp->Prop)(us:Ac)(s':Shared):Prop
| mk (vs:List V) (H':Hp) (h0:Inv X U Z H' s') (h1:Vals vs us) (h2:Q vs H')
def SP(X:Cx)(U:qd)(D:Ends)(f:Flow)(s':Shared):Prop:=
 match f with
 |.next=>∃Z' H',Inv X U Z' H' s'/\D.nx Z' H'
 |.brk=>∃Z' H',Inv X U Z' H' s'/\D.bk Z' H'
 |.cont=>∃Z' H',Inv X U Z' H' s'/\D.ct Z' H'
 |.ret u=>∃v Z' H',Inv X U Z' H' s'/\RelV v u/\D.rt v H'
def PE(X:Cx)(e:Expr)(t:TE):Prop:=
 ∀(U:qd)(s:Shared)(Z:St)(H:Hp)(Q:VK),Inv X U Z H s->t Z H Q->Am X (eval e X.env) (EP X U Z Q) X.xe s
def PT(X:Cx)(e:Expr)(t:TT):Prop:=
 ∀(U:qd)(s:Shared)(Z:St)(H:Hp)(Q:Bool->Hp->Prop),Inv X U Z H s->t Z H Q->Am X (isTrue e X.env (eval e X.env)) (TP X U Z Q) X.xe s
def PW(X:Cx)(e:Expr)(t:TT):Prop:=
 ∀(whole:Sem Value)(U:qd)(s:Shared)(Z:St)(H:Hp)(Q:Bool->Hp->Prop),Inv X U Z H s->t Z H Q->Am X (isTrue e X.env whole) (TP X U Z Q) X.xe s
def PW.pt(h:PW X e t):PT X e t:=h _
def PA(X:Cx)(es:Ad)(t:TA):Prop:=
 ∀(pos:Pos)(U:qd)(s:Shared)(Z:St)(H:Hp)(Q:List V->Hp->Prop),Inv X U Z H s->t Z H Q->Am X (spliced (backTo pos (starEach es X.env))) (AP X U Z Q) X.xe s
def PS(X:Cx)(st:Stmt)(t:TS):Prop:=
 ∀(U:qd)(s:Shared)(Z:St)(H:Hp)(D:Ends),Inv X U Z H s->t D Z H->Am X (exec st X.env) (SP X U D) X.xe s
def PSs(X:Cx)(st:List Stmt)(t:TS):Prop:=
 ∀(U:qd)(s:Shared)(Z:St)(H:Hp)(D:Ends),Inv X U Z H s->t D Z H->Am X (execs st X.env) (SP X U D) X.xe s
def thn(h:wpAny M A t Q E s)(hQ:∀a s,Q a s->Q' a s):wpAny M A t Q' E s:=fB h hQ λz z x=>x
section
variable {X:Cx}
def bin(ha:PE X a ta)(hb:PE X b tb){R:V->V->Hp->Prop}(I:Inv X U Z H s)(h:ta Z H λx H1=>tb Z H1 λy H2=>R x y H2)
  {f:Value->Value->Sem α}
  (hf:∀v u s2 x y H2,Inv X U Z H2 s2->RelV x v->RelV y u->R x y H2->Am X (f v u) Q X.xe s2):
  Am X (eval a X.env) (λv s₁=>Am X (eval b X.env) (λu s₂=>Am X (f v u) Q X.xe s₂) X.xe s₁) X.xe s:=thn (ha _ s Z H _ I h) λv s1 ⟨x,H1,I1,r1,q1⟩=>thn (hb _ s1 Z H1 _ I1 q1) λu s2 ⟨y,H2,I2,r2,q2⟩=>hf v u s2 x y H2 I2 r1 r2 q2
def tVar(i:Nat):TE:=λZ H Q=>∃v,Z[i]?=some (some v)/\Q v H
def tC(v:V):TE:=λz H Q=>Q v H
def jBp(hN:X.N[i]?=some x)(hv:Vis X.env.scope x)(hd:Aq x)(hcd:(x==("__classdict__":Str))=false):PE X (.Name x pos) (tVar i):=by
 intro U s Z H Q I h;obtain⟨v,e,h⟩:=h;obtain⟨m,hn,hl⟩:=I.loc;obtain⟨u,r,l⟩:=hl i x v hN e hv;have fin:EP X _ Z Q u s:=⟨v,H,I,r,h⟩
 rcases l with ⟨hk,hm⟩|⟨hk,c,hc,hcell⟩
 .exact wpAny_Name (wpAny_loadName_local I.ok.kind hk hn hm fin) hd
 .rcases hk with hk|hk
  .exact wpAny_Name (wpAny_loadName_cell I.ok.kind hk hc hcell fin) hd
  .exact wpAny_Name (wpAny_loadName_free I.ok.kind hk hc hcell fin hcd) hd
def jKs:PE X (.Constant (.int i) j pos) (tC (.int i)):=λz z z H z I h=>wpAny_Constant_int ⟨.int i,H,I.tok _,⟨_,rfl⟩,h⟩
def jPq:PE X (.Constant (.bool b) j pos) (tC (.bl b)):=λz z z H z I h=>Constant_bool ⟨.bl b,H,I,rfl,h⟩
def jKu:PE X (.Constant .none j pos) (tC .non):=λz z z H z I h=>Constant_none ⟨.non,H,I,rfl,h⟩
def jKx:PE X (.Constant (.str x) j pos) (tC (.str x)):=λz z z H z I h=>Calls.Constant_str ⟨.str x,H,I.tok _,⟨_,rfl⟩,h⟩
def Gl(X:Cx)(x:Str):Prop:=X.env.kindOf x=some .globalImplicit
def jge{E:qe}{U:qd}{s:Shared}{Z:St}{H:Hp}{x:Str}{u:Value}{pos:Pos}{Q:qe}(I:Inv X U Z H s)(hg:Gl X x)(hm:X.mg x=some u)(h:Q u s)
  (hd:Aq x):Am X (eval (.Name x pos) X.env) Q E s:=
 Calls.Name_function_global I.ok.kind hg (Calls.loadGlobal_global (by rw[I.ok.glob];exact I.mod.glob.keeps I.bk) hm h) hd
def jko{E:qe}{U:qd}{s:Shared}{Z:St}{H:Hp}{x:Str}{u:Value}{pos:Pos}{Q:qe}(I:Inv X U Z H s)(hg:Gl X x)(hm:X.mg x=none)(hv:bootBuiltins x=some u)(h:Q u s)
  (hn:autoParam (x≠"__name__") zau0._auto_1) (hd:autoParam (Aq x) zau0._auto_1):Am X (eval (.Name x pos) X.env) Q E s:=by obtain⟨mb,h1,h2⟩:=I.mod.blt;exact Calls.Name_function_global I.ok.kind hg (Calls.loadGlobal_builtin (by rw[I.ok.glob];exact I.mod.glob.keeps I.bk) hm (by rw[I.ok.blt];exact h1.keeps I.bk) ((h2 x hn).trans hv) h) hd
def jjs(hg:Gl X x)(hm:X.mg x=some u)(r:RelV v u)(hd:Aq x):PE X (.Name x pos) (tC v):=
 λz z z H z I h=>jge I hg hm ⟨v,H,I,r,h⟩ hd
variable {a b:Expr}{ta tb:TE}{pos:Pos}
def PC(X:Cx)(op:CmpOp)(a b:Expr)(t:TE):Prop:=
 ∀(U:qd)(s:Shared)(Z:St)(H:Hp)(Q:VK),Inv X U Z H s->t Z H Q ->
  Am X (eval a X.env) (λv s₁=>Am X (eval b X.env) (λu s₂=>Am X (compareOp op v u) (EP X U Z Q) X.xe s₂) X.xe s₁) X.xe s
def jBo(h:PC X op a b t)(h1:behindInMarks op b=false):PE X (.Compare a [op] [b] pos) t:=λU s Z H Q I hw=>wpAny_Compare1 (h _ s Z H Q I hw) h1
variable {tA tB':TT}{rest:Ad}
def tAnd(t u:TT):TT:=λZ H Q=>t Z H λc H1=>if c=true then u Z H1 Q else Q false H1
def tOr(t u:TT):TT:=λZ H Q=>t Z H λc H1=>if c=true then Q true H1 else u Z H1 Q
def tNot(t:TT):TT:=λZ H Q=>t Z H λc H1=>Q (!c) H1
def jFo(ha:PT X a tA):PW X (.BoolOp .And [a] pos) tA:=by
 intro wh U s Z H Q I h;refine isTrue_and (thn (ha _ s Z H Q I h) λc s1 e=>?_)
 grind[isTrue_and_nil]
def jLe(ha:PT X a tA):PW X (.BoolOp .Or [a] pos) tA:=by
 intro wh U s Z H Q I h;refine isTrue_or (thn (ha _ s Z H Q I h) λc s1 e=>?_)
 grind[isTrue_or_nil]
def jLd(ha:PT X a tA)(hb:PW X (.BoolOp .And (b::rest) pos) tB'):PW X (.BoolOp .And (a::b::rest) pos) (tAnd tA tB'):=by
 intro wh U s Z H Q I h;refine isTrue_and (thn (ha _ s Z H _ I h) λc s1 hzz=>?_);obtain⟨H1,I1,q1⟩:=hzz
 cases c with
 |true=>exact hb wh _ s1 Z H1 Q I1 q1
 |false=>exact⟨H1,I1,q1⟩
def jPz(ha:PT X a tA)(hb:PW X (.BoolOp .Or (b::rest) pos) tB'):PW X (.BoolOp .Or (a::b::rest) pos) (tOr tA tB'):=by
 intro wh U s Z H Q I h;refine isTrue_or (thn (ha _ s Z H _ I h) λc s1 hzz=>?_);obtain⟨H1,I1,q1⟩:=hzz
 cases c with
 |true=>exact⟨H1,I1,q1⟩
 |false=>exact hb wh _ s1 Z H1 Q I1 q1
def jLa(ha:PT X a tA):PT X (.UnaryOp .Not a pos) (tNot tA):=λU s Z H Q I h=>isTrue_not (thn (ha U s Z H (λc H1=>Q (!c) H1) I h) λc s1 z=>z.casesOn λH1 I1 q1=>⟨H1,I1,q1⟩)
def jQi(ta tb:TE):TE:=λZ H Q=>ta Z H λx H1=>∃c,x=.bl c/\if c=true then tb Z H1 Q else Q (.bl false) H1
def tOrV(ta tb:TE):TE:=λZ H Q=>ta Z H λx H1=>∃c,x=.bl c/\if c=true then Q (.bl true) H1 else tb Z H1 Q
def jQn(ta:TE):TE:=λZ H Q=>ta Z H λx H1=>∃c,x=.bl c/\Q (.bl (!c)) H1
def jKw(h:PE X a t):PE X (.BoolOp op [a] pos) t:=λU s Z H Q I hw=>BoolOp_one (h _ s Z H Q I hw)
def jKp(ha:PE X a ta)(hb:PE X (.BoolOp .And (b::rest) pos) tb):PE X (.BoolOp .And (a::b::rest) pos) (jQi ta tb):=by
 intro U s Z H Q I h;refine BoolOp_and (thn (ha _ s Z H _ I h) λv s1 hzz=>?_);obtain⟨x,H1,I1,r1,q1⟩:=hzz;obtain⟨c,rfl,q1⟩:=q1;cases r1;refine cK ?_
 cases c with
 |true=>exact hb _ s1 Z H1 Q I1 q1
 |false=>exact⟨.bl _,H1,I1,rfl,q1⟩
def jPt(ha:PE X a ta)(hb:PE X (.BoolOp .Or (b::rest) pos) tb):PE X (.BoolOp .Or (a::b::rest) pos) (tOrV ta tb):=by
 intro U s Z H Q I h;refine BoolOp_or (thn (ha _ s Z H _ I h) λv s1 hzz=>?_);obtain⟨x,H1,I1,r1,q1⟩:=hzz;obtain⟨c,rfl,q1⟩:=q1;cases r1;refine cK ?_
 cases c with
 |false=>exact hb _ s1 Z H1 Q I1 q1
 |true=>exact⟨.bl _,H1,I1,rfl,q1⟩
def jKv(ha:PE X a ta):PE X (.UnaryOp .Not a pos) (jQn ta):=by intro U s Z H Q I h;refine UnaryOp_ (thn (ha _ s Z H _ I h) λv s1 hzz=>?_);obtain⟨x,H1,I1,r1,q1⟩:=hzz;obtain⟨c,rfl,q1⟩:=q1;cases r1;exact not_of (cK ⟨.bl _,H1,I1,rfl,q1⟩)
def tIf(t:TT)(ta tb:TE):TE:=λZ H Q=>t Z H λc H1=>if c=true then ta Z H1 Q else tb Z H1 Q
def jy1(hc:PT X c tA)(ha:PE X a ta)(hb:PE X b tb):PE X (.IfExp c a b pos) (tIf tA ta tb):=by
 intro U s Z H Q I h;refine wpAny_IfExp (thn (hc _ s Z H _ I h) λd s1 hzz=>?_);obtain⟨H1,I1,q1⟩:=hzz
 cases d with
 |true=>exact ha _ s1 Z H1 Q I1 q1
 |false=>exact hb _ s1 Z H1 Q I1 q1
end
def SqL(K:Af)(H:Hp)(a:Addr)(xs:List V):Prop:=
 Rd H a (.lst xs) \/
  ∃(o:Obj) (its:Ah) (n:Nat),K.lookup a=some o/\o.cls=.type "list"/\o.dict=none/\o.data=.seq its n/\its.size<=sizeLine/\Vals xs its.toList
def SqT(K:Af)(H:Hp)(a:Addr)(xs:List V):Prop:=
 Rd H a (.tup xs) \/
  ∃(o:Obj) (its:Ah) (n:Nat),K.lookup a=some o/\o.cls=.type "tuple"/\o.data=.seq its n/\its.size<=sizeLine/\Vals xs its.toList
noncomputable def absV:Value->Option V
|.none=>some .non
|.bool b=>some (.bl b)
|.int i _=>some (.int i)
|.str x _=>some (.str x)
|.bytes b _=>some (.byt b)
|.float b _=>some (.flt b)
|.ref a=>some (.ref a)
|.type n=>some (.ty n)
|_=>none
def RelV.abs(r:RelV x u):absV u=some x:=by
 cases x with
 |non=>cases r;rfl
 |bl _=>cases r;rfl
 |int _=>obtain⟨t,rfl⟩:=r;rfl
 |str _=>obtain⟨t,rfl⟩:=r;rfl
 |byt _=>obtain⟨t,rfl⟩:=r;rfl
 |flt _=>obtain⟨t,rfl⟩:=r;rfl
 |ref _=>cases r;rfl
 |ty _=>cases r;rfl
def RelV.inj(r:RelV x u)(q:RelV y u):x=y:=zby (r.abs.symm.trans q.abs)
theorem Vals.inj{xs ys:List V}{us:Ac}(h:Vals xs us)(k:Vals ys us):xs=ys:=by
 induction h generalizing ys with
 |nil=>cases k;rfl
 |cons r t ih=>cases k with|cons r' t'=>rw[r.inj r',ih t']
section
variable {X:Cx}{U:qd}{Z:St}{H:Hp}{s:Shared}{a:Addr}{xs ys:List V}
def SqL.of{K:Af}(h:H a=some (.lst xs)):SqL K H a xs:=.inl (.inl h)
def SqT.of{K:Af}(h:H a=some (.tup xs)):SqT K H a xs:=.inl (.inl h)
def Inv.list(I:Inv X U Z H s)(h:SqL X.K H a xs):∃its:Ac,Vals xs its/\PlainL s.heap a its.toArray/\xs.length<=sizeLine:=by
 rcases h with h|⟨o,its,n,hk,hc,hd,hs,hz,r⟩
 .obtain⟨z,its,n,r,e⟩:=h.ok I.hok;exact⟨its,r,⟨_,n,e,rfl,rfl,rfl⟩,z⟩
 .refine⟨_,r,⟨o,n,I.kIn a o hk,hc,hd,by omega⟩,?_⟩;have e:=r.length
  simp_all
def Inv.tuple(I:Inv X U Z H s)(h:SqT X.K H a xs):∃its:Ac,Vals xs its/\IsTup s.heap a its.toArray/\xs.length<=sizeLine:=by
 rcases h with h|⟨o,its,n,hk,hc,hs,hz,r⟩
 .obtain⟨z,its,r,p⟩:=h.ok I.hok
  clear h;grind
 .refine⟨_,r,⟨o,I.kIn a o hk,hc,n,by omega⟩,?_⟩;have e:=r.length
  simp_all
def Inv.list_inj(I:Inv X U Z H s)(h:SqL X.K H a xs)(h':SqL X.K H a ys):xs=ys:=by
 obtain⟨its,r,⟨o,n,e,_,_,d⟩,_⟩:=I.list h;obtain⟨its',r',⟨o',n',e',_,_,d'⟩,_⟩:=I.list h';rw[e]at e';cases e'
 rw[d]at d';injection d' with d1 _
 have:=by simpa using congrArg Array.toList d1
 subst this;exact r.inj r'
def Inv.tuple_inj(I:Inv X U Z H s)(h:SqT X.K H a xs)(h':SqT X.K H a ys):xs=ys:=by
 obtain⟨its,r,⟨o,e,_,n,d⟩,_⟩:=I.tuple h;obtain⟨its',r',⟨o',e',_,n',d'⟩,_⟩:=I.tuple h';rw[e]at e';cases e'
 rw[d]at d';injection d' with d1 _
 have:=by simpa using congrArg Array.toList d1
 subst this;exact r.inj r'
end
noncomputable abbrev Cx.wish(X:Cx)(E:qe):Cx:={ X with xe:=E }
def Cx.Ok.wish{X:Cx}(ok:X.Ok)(E:qe):(X.wish E).Ok:=
 ⟨ok.mod,ok.kind,ok.glob,ok.blt,ok.above,ok.inj,ok.has,ok.cab,ok.hd,ok.frames,ok.stk,ok.exf,ok.bs,ok.bsz,ok.noex,ok.exfs,ok.funs,ok.frf⟩
def Cx.Ok.unwish{X:Cx}(ok:(X.wish E).Ok):X.Ok:=
 ⟨ok.mod,ok.kind,ok.glob,ok.blt,ok.above,ok.inj,ok.has,ok.cab,ok.hd,ok.frames,ok.stk,ok.exf,ok.bs,ok.bsz,ok.noex,ok.exfs,ok.funs,ok.frf⟩
section
variable {X:Cx}{U:qd}{Z:St}{H:Hp}{s:Shared}{E:qe}
def Inv.wish(I:Inv X U Z H s)(E:qe):Inv (X.wish E) U Z H s:=⟨I.ok.wish E,I.os,I.bare,I.base,I.loc,I.cell,I.free,I.freeC,I.pin,I.hok,I.len⟩
def Inv.unwish(I:Inv (X.wish E) U Z H s):Inv X U Z H s:=⟨I.ok.unwish,I.os,I.bare,I.base,I.loc,I.cell,I.free,I.freeC,I.pin,I.hok,I.len⟩
theorem SP.unwish(h:SP (X.wish E) U D f s'):SP X U D f s':=by
 cases f with
 |next=>obtain⟨Z',H',I,q⟩:=h;exact⟨Z',H',I.unwish,q⟩
 |brk=>obtain⟨Z',H',I,q⟩:=h;exact⟨Z',H',I.unwish,q⟩
 |cont=>obtain⟨Z',H',I,q⟩:=h;exact⟨Z',H',I.unwish,q⟩
 |ret u=>obtain⟨v,Z',H',I,r,q⟩:=h;exact⟨v,Z',H',I.unwish,r,q⟩
end
section
variable {X:Cx}{st:Stmt}{rest:List Stmt}{t u:TS}{e:Expr}{te:TE}{pos:Pos}
def jQm:TS:=λD Z H=>D.nx Z H
def tSeq(t u:TS):TS:=λD Z H=>t { D with nx:=u D } Z H
def jFk:PSs X [] jQm:=λz z Z H z I h=>dM ⟨Z,H,I,h⟩
def jzc(h1:PS X st t)(h2:PSs X rest u):PSs X (st::rest) (tSeq t u):=by
 intro U s Z H D I h;refine gr (thn (h1 _ s Z H _ I h) λf s1 q=>?_)
 cases f with
 |next=>obtain⟨Z',H',I',q⟩:=q;exact h2 _ s1 Z' H' D I' q
 |ret v=>exact q
 |brk=>exact q
 |cont=>exact q
def jvk(h1:PS X st t):PSs X [st] t:=by
 intro U s Z H D I h;refine gr (thn (h1 _ s Z H D I h) λf s1 q=>?_)
 grind[wpAny_execs_nil,ret]
def Inv.quiet(I:Inv X U Z H s):interactive X.env=false:=by simp[interactive,I.ok.kind]
def jQk(te:TE):TS:=λD Z H=>te Z H λz H1=>D.nx Z H1
def jFg(he:PE X e te)(hs:swapsWith e none pos.line X.env=pure false):PS X (.Expr e pos) (jQk te):=λU s Z H D I h=>wpAny_Expr_any (thn (he _ s Z H _ I h) λv s1 ⟨x,H1,I1,r1,q1⟩=>⟨Z,H1,I1,q1⟩) I.quiet hs
def tRet(te:TE):TS:=λD Z H=>te Z H D.rt
def jK9(he:PE X e te):PS X (.Return (some e) pos) (tRet te):=λU s Z H D I h=>wpAny_Return_some (thn (he _ s Z H _ I h) λv s1 ⟨x,H1,I1,r1,q1⟩=>⟨x,Z,H1,I1,r1,q1⟩)
def tIfS(c:TT)(t u:TS):TS:=λD Z H=>c Z H λb H1=>if b=true then t D Z H1 else u D Z H1
def jPv(hc:PT X c tc)(ha:PSs X a t)(hb:PSs X b u):PS X (.If c a b pos) (tIfS tc t u):=by
 intro U s Z H D I h;refine wpAny_If (thn (hc _ s Z H _ I h) λd s1 hzz=>?_);obtain⟨H1,I1,q1⟩:=hzz
 cases d with
 |true=>exact ha _ s1 Z H1 D I1 q1
 |false=>exact hb _ s1 Z H1 D I1 q1
end
abbrev TG:=V->St->Hp->(St->Hp->Prop)->Prop
abbrev TGs:=List V->St->Hp->(St->Hp->Prop)->Prop
def PG(X:Cx)(target:Expr)(t:TG):Prop:=
 ∀(U:qd)(s:Shared)(Z:St)(H:Hp)(v:V)(u:Value)(Q:St->Hp->Prop),Inv X U Z H s->RelV v u->t v Z H Q ->
  Am X (assign target X.env u) (λz s'=>∃Z' H',Inv X U Z' H' s'/\Q Z' H') X.xe s
def PGs(X:Cx)(ts:Ad)(t:TGs):Prop:=
 ∀(U:qd)(s:Shared)(Z:St)(H:Hp)(vs:List V)(us:Ac)(Q:St->Hp->Prop),Inv X U Z H s->Vals vs us->t vs Z H Q ->
  Am X (assignInOrder ((assignEach ts X.env).map (·.2)) us) (λz s'=>∃Z' H',Inv X U Z' H' s'/\Q Z' H') X.xe s
abbrev TSet:=V->V->V->Hp->(Hp->Prop)->Prop
def PSet(X:Cx)(t:TSet):Prop:=
 ∀(U:qd)(s:Shared)(Z:St)(H:Hp)(o i v:V)(ov iv u:Value)(Q:Hp->Prop),Inv X U Z H s->RelV o ov->RelV i iv->RelV v u->t o i v H Q ->
  Am X (setItem ov iv u) (λz s'=>∃H',Inv X U Z H' s'/\Q H') X.xe s
abbrev TIp:=V->V->Hp->VK->Prop
def PIp(X:Cx)(op:Operator)(t:TIp):Prop:=
 ∀(U:qd)(s:Shared)(Z:St)(H:Hp)(x y:V)(v u:Value)(Q:VK),Inv X U Z H s->RelV x v->RelV y u->t x y H Q ->
  Am X (inplaceOp op v u) (EP X U Z Q) X.xe s
section
variable {X:Cx}{pos:Pos}
def gName(i:Nat):TG:=λv Z H Q=>Q (Z.set i (some v)) H
def jvc(hN:X.N.Nodup)(hi:X.N[i]?=some x)(hx:Loc X.env.scope x)(hf:An X x):PG X (.Name x pos) (gName i):=λU s Z H v u Q I r h=>wpAny_assign_Name (jfh I hN hi hx r (λs' I'=>⟨_,H,I',h⟩) hf)
def gNil:TGs:=λvs Z H Q=>vs=[]/\Q Z H
def jOt(t:TG)(u:TGs):TGs:=λvs Z H Q=>∃v r,vs=v::r/\t v Z H λZ' H'=>u r Z' H' Q
def jE9:PGs X [] gNil:=by intro U s Z H vs us Q I r h;obtain⟨e,h⟩:=h;exact assignInOrder_nil ⟨Z,H,I,h⟩
def jy5(h1:PG X e t)(h2:PGs X es u)
  (hs:(assignEach (e::es) X.env).map (·.2)=assign e X.env::(assignEach es X.env).map (·.2)):PGs X (e::es) (jOt t u):=by
 intro U s Z H vs us Q I r h;obtain⟨v,vr,e1,h⟩:=h;subst e1
 cases r with
|cons r rr=>rw[hs];exact assignInOrder_cons (thn (h1 _ s Z H _ _ _ I r h) λ_ s1 ⟨Z1,H1,I1,q1⟩=>(h2 _ s1 Z1 H1 _ _ Q I1 rr q1))
def gTup(K:Af)(n:Nat)(t:TGs):TG:=λv Z H Q=>∃a xs,v=.ref a/\SqT K H a xs/\xs.length=n/\t xs Z H Q
def jK1(hc:X.calm=true)(h:PGs X es t)
  (hn:(assignEach es X.env).length=n) (hst:(assignEach es X.env).findIdx? (·.1)=none):PG X (.Tuple es k pos) (gTup X.K n t):=by intro U s Z H v u Q I r hw;obtain⟨a,xs,e1,hq,hl,hw⟩:=hw;subst e1;cases r;obtain⟨its,rv,ht,hz⟩:=I.tuple hq;exact assign_Tuple_tuple (I.ok.hd hc) ht (by simp[hn,<- hl,rv.length]) hst λh' hx=>h _ _ Z H xs _ Q (I.kept λb o e=>hx b o (zcw (zbv e)) e) (by omega) hw
def gSub(to ti:TE)(t:TSet):TG:=λv Z H Q=>to Z H λo H1=>ti Z H1 λi H2=>t o i v H2 λH3=>Q Z H3
def jK0(ho:PE X o to)(hi:PE X i ti)(hs:PSet X t)
  (ha:∀v,assign (.Subscript o i pos) X.env v=(do
   let ov <- holding [v] (eval o X.env)
   let iv <- holding [v,ov] (eval i X.env)
   standAt pos
   holding [v,ov,iv] (setItem ov iv v)
   release [v,ov,iv] [])):PG X (.Subscript o i pos) (gSub to ti t):=λU s Z H v u Q I r h=>zay (cA (thn (ho _ s Z H _ I h) λov s1 ⟨x,H1,I1,r1,q1⟩=>(zay (cA (thn (hi _ s1 Z H1 _ I1 q1) λiv s2 ⟨y,H2,I2,r2,q2⟩=>(zay (eV (zay (cA (thn (hs _ s2 Z H2 x y v ov iv u _ I2 r1 r2 r q2) λ_ s3 ⟨H3,I3,q3⟩=>(wpAny_release ⟨Z,H3,I3,q3⟩)))))))))))
def tAsg(te:TE)(g:TG):TS:=λD Z H=>te Z H λx H1=>g x Z H1 D.nx
def jBq(he:PE X e te)(hg:PG X tg g)(hs:swapsWithSole [tg] e pos.line X.env=pure false)(hw:swappedStores [tg] e X.env=pure none)
  (h1:(assignEach [tg] X.env).map (·.2)=[assign tg X.env]):PS X (.Assign [tg] e pos) (tAsg te g):=by intro U s Z H D I h;refine wpAny_Assign_stores (thn (he _ s Z H _ I h) λv s1 hzz=>?_) hs hw;obtain⟨x,H1,I1,r1,q1⟩:=hzz;rw[h1];exact thn (hg _ s1 Z H1 x v _ I1 r1 q1) λz s2 q=>q
def jBr(hN:X.N.Nodup)(hi:X.N[i]?=some x)(hx:Loc X.env.scope x)(he:PE X e te)(hs:swapsWith e (some (.Name x pos')) pos.line X.env=pure false)(hf:An X x):
  PS X (.Assign [.Name x pos'] e pos) (tAsg te (gName i)):=λU s Z H D I h=>wpAny_Assign_Name (thn (he _ s Z H _ I h) λv s1 ⟨y,H1,I1,r1,q1⟩=>(jfh I1 hN hi hx r1 (λs2 I2=>⟨_,H1,I2,q1⟩) hf)) hs
def tAug(i:Nat)(te:TE)(ti:TIp):TS:=λD Z H=>∃x,Z[i]?=some (some x)/\te Z H λy H1=>ti x y H1 λz H2=>D.nx (Z.set i (some z)) H2
def jK6(hN:X.N.Nodup)(hi:X.N[i]?=some x)(hx:Loc X.env.scope x)(he:PE X e te)(ho:PIp X op ti)(hf:An X x):
  PS X (.AugAssign (.Name x pos') op e pos) (tAug i te ti):=by
 intro U s Z H D I h;obtain⟨v,e1,h⟩:=h;obtain⟨m,hn,hl⟩:=I.loc;obtain⟨u,r,l⟩:=hl i x v hi e1 (by rcases hx with k|k;exact .inl k;exact .inr (.inl k));refine wpAny_AugAssign_Name ?_;have go:wpAny _ X.A _ (λw s₂=>wpAny _ X.A _ (λr s₃=>Am X _ (λt=>SP X _ D .next) X.xe _) _ _) _ s:=thn (he _ s Z H _ I h) λw s1 ⟨y,H1,I1,r1,q1⟩=>thn (ho _ s1 Z H1 v y u w _ I1 r r1 q1) λz s2 ⟨zv,H2,I2,r2,q2⟩=>jfh I2 hN hi hx r2 (λs3 I3=>⟨_,H2,I3,q2⟩) hf
 rcases l with ⟨hk,hm⟩|⟨hk,c,hc,hcell⟩
 .exact wpAny_loadName_local I.ok.kind hk hn hm go
 .rcases hk with hk|hk
  .exact wpAny_loadName_cell I.ok.kind hk hc hcell go
  .rcases hx with k|k
   .have:X.env.scope.names.lookup x=some _:=hk;rw[k]at this;cases this
   .have:X.env.scope.names.lookup x=some _:=hk;rw[k]at this;cases this
def jNf(c:TT)(tb:TS):TS:=λD Z H=>∃W:Nat->St->Hp->Prop,(∃m,W m Z H)/\∀m Z H,W m Z H ->
 c Z H λb H1=>if b=true then∃N:St->Hp->Prop,(∀Z' H',N Z' H'->∃m',m'<m/\W m' Z' H')/\tb { D with nx:=N,ct:=N,bk:=D.nx } Z H1 else D.nx Z H1
def jzb(hp:PassesOwn (model X.prog X.w) X.A X.env X.xe)(hc:PT X c tc)(hb:PSs X body tb):PS X (.While c body [] pos) (jNf tc tb):=by
 intro U s Z H D I h;obtain⟨W,⟨m0,w0⟩,turn⟩:=h;refine wpAny_While (codeAny_whileLoop (λn s'=>∃Z' H',Inv X _ Z' H' s'/\W n Z' H') ?_ m0 ⟨Z,H,I,w0⟩);rintro n s1 ⟨Z1,H1,I1,w1⟩;refine cW hp (thn (hc _ s1 Z1 H1 _ I1 (turn n Z1 H1 w1)) λb s2 hzz=>?_);obtain⟨H2,I2,q2⟩:=hzz
 cases b with
 |true=>
  obtain⟨N,hN,q2⟩:=q2;refine cW hp (thn (hb _ s2 Z1 H2 _ I2 q2) λf s3 q3=>?_)
  cases f with
  |next=>obtain⟨Z3,H3,I3,n3⟩:=q3;obtain⟨m',hm,w3⟩:=hN Z3 H3 n3;exact⟨m',hm,Z3,H3,I3,w3⟩
  |cont=>obtain⟨Z3,H3,I3,n3⟩:=q3;obtain⟨m',hm,w3⟩:=hN Z3 H3 n3;exact⟨m',hm,Z3,H3,I3,w3⟩
  |brk=>exact q3
  |ret v=>exact q3
 |false=>exact dM ⟨Z1,H2,I2,q2⟩
end
structure It where
 go:Nat->Hp->Prop
 yld:Nat->Hp->V->Hp->Prop
 stop:Nat->Hp->Prop
def FpOk(X:Cx)(U:qd)(H:Hp)(b:Addr):Prop:=
 H b=none/\b≠X.env.locals/\b∉X.fs/\(b∈X.ex\/X.s₀.heap.objs.size<=b)/\(∀x c,X.env.cells.lookup x=some c->c≠b)/\∀p∈X.pn++U,p.1≠b
def Inv.fpOk{X:Cx}{U:qd}{Z:St}{H H':Hp}{s:Shared}{b:Addr}(I:Inv X U Z H s)(hb:s.heap.objs.size<=b)(hn:H' b=none):FpOk X U H' b:=by
 refine⟨hn,cQ (zcx I.lt hb),I.nofs hb,.inr (zdz I.sz hb),λx c e z=>?_,λp hp z=>(absurd (zcx (zbv (I.pin p hp).1) (by rw[z];exact hb)) (bH _))⟩
 .obtain⟨v,q⟩:=I.cell x c e;exact absurd (zcx q.lt (by rw[z];exact hb)) (bH _)
structure Turn(P:Program)(w:World)(K:Af)(tg:Expr)(Jq:It)(fp:Ak)(it:Addr)(tn:Nat->Heap->Prop):Prop where
 mem:it∈fp
 obj:∀i h,tn i h->∀b∈fp,∃o,h.get? b=some o/\∀v,o.data≠.cell v
 keep:∀i h h',tn i h->(∀b∈fp,∀o,h.get? b=some o->h'.get? b=some o)->tn i h'
 item:∀(X:Cx),X.prog=P->X.w=w->X.K=K->X.calm=true->∀(i:Nat)(U:qd)(s:Shared)(Z:St)(H:Hp)(E:qe),Inv X U Z H s->(∀b∈fp,FpOk X U H b)->tn i s.heap->Jq.go i H ->
  wpAny (model P w) X.A (pyNext (.ref it)) (λr s1=>∃u,r=some u /\
   wpAny (model P w) X.A (letOwnedTupleGo tg (.ref it) u) (λ_ s2=>∃x H',Inv X U Z H' s2/\RelV x u/\Jq.yld i H x H'/\tn (i+1) s2.heap/\∀b∈fp,H' b=none) E s1) E s
 done:∀(X:Cx),X.prog=P->X.w=w->X.K=K->X.calm=true->∀(i:Nat)(U:qd)(s:Shared)(Z:St)(H:Hp)(E:qe),Inv X U Z H s->(∀b∈fp,FpOk X U H b)->tn i s.heap->Jq.stop i H ->
  wpAny (model P w) X.A (pyNext (.ref it)) (λr s1=>r=none/\Inv X U Z H s1) E s
 self:∀(A:Around)(i:Nat)(s:Shared)(Q:qe)(E:qe),tn i s.heap->Q (.ref it) s->wpAny (model P w) A (pyIter (.ref it)) Q E s
abbrev TI:=St->Hp->(It->Hp->Prop)->Prop
def PIE(X:Cx)(U:qd)(Z:St)(tg:Expr)(R:It->Hp->Prop)(itv:Value)(s2:Shared):Prop:=
 ∃(it:Addr) (fp:Ak) (tn:Nat->Heap->Prop) (Jq:It) (H':Hp),itv=.ref it/\Inv X U Z H' s2/\Turn X.prog X.w X.K tg Jq fp it tn/\tn 0 s2.heap/\(∀b∈fp,FpOk X U H' b)/\R Jq H'
def PI(X:Cx)(tg iter:Expr)(wi:TI):Prop:=
 ∀(U:qd)(s:Shared)(Z:St)(H:Hp)(R:It->Hp->Prop),Inv X U Z H s->wi Z H R ->
  Am X (eval iter X.env) (λv s1=>Am X (pyIter v) (PIE X U Z tg R) X.xe s1) X.xe s
def jDw{M:Model}{A:Around}{E:qe}{s:Shared}{tg:Expr}{it:Addr}{u:Value}{o:Obj}{n:String}{vs:Ah}{Q:Unit->Shared->Prop}(ho:s.heap.get? it=some o)(hc:o.cls=.type n)(hd:o.data=.fields vs)
    (hn:["enumerate","zip","dict_itemiterator","dict_reverseitemiterator","odict_iterator","itertools.zip_longest","itertools.pairwise"].contains n=false) (hQ:Q () s):wpAny M A (letOwnedTupleGo tg (.ref it) u) Q E s:=by
  cases tg<;>first
    | exact zab hQ
    | (cases u<;>first
        | exact zab hQ
        | (refine zay (wpAny_load ho ?_)
           rw[hc,hd];show wpAny M A (if(["enumerate","zip","dict_itemiterator","dict_reverseitemiterator","odict_iterator","itertools.zip_longest","itertools.pairwise"].contains n&&vs[0]? == some _)=true then _ else _) Q E s;rw[aJ (by grind)];exact zab hQ))
def Itl(K:Af)(a:Addr):It:=
 ⟨λi H=>∃xs x,SqL K H a xs/\xs[i]?=some x,λi H x H'=>H'=H/\∀xs,SqL K H a xs->xs[i]?=some x,λi H=>∃xs,SqL K H a xs/\xs.length<=i⟩
def Itt(K:Af)(a:Addr):It:=
 ⟨λi H=>∃xs x,SqT K H a xs/\xs[i]?=some x,λi H x H'=>H'=H/\∀xs,SqT K H a xs->xs[i]?=some x,λi H=>∃xs,SqT K H a xs/\xs.length<=i⟩
def jww{K:Af}(a it:Addr):Turn P w K tg (Itl K a) [it] it (λi h=>h.IsListIter it a i) where
 mem:=by simp
 obj:=λi h st b hb=>by
  have e:=by simpa using hb
  subst e;obtain⟨o,e,c,d⟩:=st;exact⟨o,e,λv z=>by rw[d]at z;cases z⟩
 keep:=λi h h' st k=>st.at λo e=>k it (by simp) o e
 item:=by
  intro X hP hw hK hc i U s Z H E I hf st hg;subst hP hw hK;obtain⟨xs,x,hq,hx⟩:=hg;obtain⟨its,rv,p,hz⟩:=I.list hq;obtain⟨u,hu,ru⟩:=rv.get hx;obtain⟨f0,f1,f2,f3,f4,f5⟩:=hf it (by simp);refine wpAny_pyNext_list_item st p.isList (by simpa using hu) λh' st' sb=>?_
  obtain⟨o,e,c,d⟩:=id st';exact⟨u,rfl,jDw e c d rfl ⟨x,H,(I.turned (λb o hb e=>(sb.2 b hb).trans e) f0 f1 f3 f4 f5),ru,⟨rfl,λys hy=>by rw[I.list_inj hy hq];exact hx⟩,st',λb hb=>(hf b hb).1⟩⟩
 done:=by intro X hP hw hK hc i U s Z H E I hf st hg;subst hP hw hK;obtain⟨xs,hq,hx⟩:=hg;obtain⟨its,rv,p,hz⟩:=I.list hq;obtain⟨f0,f1,f2,f3,f4,f5⟩:=hf it (by simp);have hl:=rv.length;exact wpAny_pyNext_list_end (I.ok.hd hc) st p.isList (by simp;simp_all) λh' eb=>⟨rfl,I.turned (λb o hb e=>eb b o hb e) f0 f1 f3 f4 f5⟩
 self:=λy y y y y st h=>wpAny_pyIter_listiter st h
def jsh{K:Af}(a it:Addr):Turn P w K tg (Itt K a) [it] it (λi h=>h.IsTupleIter it a i) where
 mem:=by simp
 obj:=λi h st b hb=>by
  have e:=by simpa using hb
  subst e;obtain⟨o,e,c,d⟩:=st;exact⟨o,e,λv z=>by rw[d]at z;cases z⟩
 keep:=λi h h' st k=>st.at λo e=>k it (by simp) o e
 item:=by
  intro X hP hw hK hc i U s Z H E I hf st hg;subst hP hw hK;obtain⟨xs,x,hq,hx⟩:=hg;obtain⟨its,rv,p,hz⟩:=I.tuple hq;obtain⟨u,hu,ru⟩:=rv.get hx;obtain⟨f0,f1,f2,f3,f4,f5⟩:=hf it (by simp);refine wpAny_pyNext_tuple_item st (p) (by simpa using hu) λh' st' sb=>?_
  obtain⟨o,e,c,d⟩:=id st';exact⟨u,rfl,jDw e c d rfl ⟨x,H,(I.turned (λb o hb e=>(sb.2 b hb).trans e) f0 f1 f3 f4 f5),ru,⟨rfl,λys hy=>by rw[I.tuple_inj hy hq];exact hx⟩,st',λb hb=>(hf b hb).1⟩⟩
 done:=by intro X hP hw hK hc i U s Z H E I hf st hg;subst hP hw hK;obtain⟨xs,hq,hx⟩:=hg;obtain⟨its,rv,p,hz⟩:=I.tuple hq;obtain⟨f0,f1,f2,f3,f4,f5⟩:=hf it (by simp);have hl:=rv.length;exact wpAny_pyNext_tuple_end (I.ok.hd hc) st (p) (by simp;simp_all) λh' eb=>⟨rfl,I.turned (λb o hb e=>eb b o hb e) f0 f1 f3 f4 f5⟩
 self:=λy y y y y st h=>wpAny_pyIter_tupleiter st h
section
variable {X:Cx}{tg:Expr}
def tFor(wi:TI)(g:TG)(tb:TS):TS:=λD Z H=>wi Z H λJq H1=>∃W:Nat->Nat->St->Hp->Prop,(∃m,W 0 m Z H1)/\∀i m Z H,W i m Z H ->
 (Jq.stop i H/\D.nx Z H)\/(Jq.go i H/\∃N:St->Hp->Prop,(∀Z' H',N Z' H'->∃m',m'<m/\W (i+1) m' Z' H')/\∀x H',Jq.yld i H x H'->g x Z H' λZ2 H2=>tb { D with nx:=N,ct:=N,bk:=D.nx } Z2 H2)
def jve(fp:Ak)(h:Heap):qd:=fp.filterMap λb=>(h.get? b).map λo=>(b,o)
def jfe(hb:b∈fp)(e:h.get? b=some o):(b,o)∈jve fp h:=dA.mpr ⟨b,hb,by rw[e];rfl⟩
def ju0(hp:p∈jve fp h):p.1∈fp/\h.get? p.1=some p.2:=by
 obtain⟨b,hb,e⟩:=dA.mp hp
 cases q:h.get? b with
 |none=>rw[q]at e;cases e
 |some o=>rw[q]at e;have e':=zby e;subst e';exact⟨hb,q⟩
def Inv.pinned(I:Inv X U Z H s)(hf:∀b∈fp,FpOk X U H b)(ho:∀b∈fp,∃o,s.heap.get? b=some o/\∀v,o.data≠.cell v):Inv X (U++jve fp s.heap) Z H s:=
 I.pins_of λp hp=>(zdy.mp hp).elim (λz=>I.pin p (zcy _ z)) λz=>by
  obtain⟨hb,e⟩:=ju0 z;obtain⟨f0,f1,f2,_⟩:=hf p.1 hb;grind
def Inv.unpinned(I:Inv X (U++pl) Z H s):Inv X U Z H s:=I.pins_of λp hp=>I.pin p (zcy _ (ge _ hp))
def jK8(hp:PassesOwn (model X.prog X.w) X.A X.env X.xe)(hc:X.calm=true)(hi:PI X tg iter wi)(hg:PG X tg g)(hb:PSs X body tb)
  (hs:Ao X iter):PS X (.For tg iter body [] pos) (tFor wi g tb):=by
 intro U s Z H D I h;refine wpAny_For (thn (hi _ s Z H _ I h) λv s1 h1=>thn h1 λitv s2 h2=>?_) hs;obtain⟨it,fp,tn,Jq,H2,e,I2,T,st2,f2,W,⟨m0,w0⟩,turn⟩:=h2;subst e;have stat:∀{H':Hp},(∀b∈fp,H' b=none)->∀b∈fp,FpOk X _ H' b:=λhn b hb=>⟨hn b hb,(f2 b hb).2⟩
 refine codeAny_forLoop_any (λn s'=>∃i Z' H',Inv X _ Z' H' s'/\tn i s'.heap/\(∀b∈fp,H' b=none)/\W i n Z' H') ?_ m0 ⟨0,Z,H2,I2,st2,λb hb=>(f2 b hb).1,w0⟩;rintro n s3 ⟨i,Z3,H3,I3,st3,fr3,w3⟩;rcases turn i n Z3 H3 w3 with ⟨stop,qn⟩|⟨go,N,hN,step⟩
 .refine cW hp (thn (T.done X rfl rfl rfl hc i _ s3 Z3 H3 _ I3 (stat fr3) st3 stop) λr s4 hzz=>?_);obtain⟨hr,I4⟩:=hzz;subst hr;exact dM ⟨Z3,H3,I4,qn⟩
 .refine cW hp (thn (T.item X rfl rfl rfl hc i _ s3 Z3 H3 _ I3 (stat fr3) st3 go) λr s4 hzz=>?_);obtain⟨u,hr,h4⟩:=hzz;subst hr;refine cW hp (thn h4 λz s5 hzz=>?_);obtain⟨x,H5,I5,r5,y5,st5,fr5⟩:=hzz;refine cW hp (thn (hg _ s5 Z3 H5 x u _ (I5.pinned (stat fr5) (T.obj _ _ st5)) r5 (step x H5 y5)) λz s6 hzz=>?_);obtain⟨Z6,H6,I6,q6⟩:=hzz;refine cW hp (thn (hb _ s6 Z6 H6 _ I6 q6) λf s7 q7=>?_);have again:∀{Z7:St}{H7:Hp},Inv X _ Z7 H7 s7->N Z7 H7->∃m,m<n/\∃i Z' H',Inv X U Z' H' s7/\tn i _/\(∀b∈fp,H' b=none)/\W i m Z' H':=λ{Z7 H7} I7 n7=>by obtain⟨m',hm,w7⟩:=hN Z7 H7 n7;refine⟨m',hm,_,Z7,H7,I7.unpinned,T.keep _ _ _ st5 λb hb o e=>(I7.pin _ (zcy _ (zcy _ (jfe hb e)))).1,λb hb=>?_,w7⟩;obtain⟨o,e,d⟩:=T.obj _ _ st5 b hb;exact(I7.pin _ (zcy _ (zcy _ (jfe hb e)))).2.1
  cases f with
  |next=>obtain⟨Z7,H7,I7,n7⟩:=q7;exact again I7 n7
  |cont=>obtain⟨Z7,H7,I7,n7⟩:=q7;exact again I7 n7
  |brk=>obtain⟨Z7,H7,I7,q7⟩:=q7;exact⟨Z7,H7,I7.unpinned,q7⟩
  |ret v=>obtain⟨x7,Z7,H7,I7,r7,q7⟩:=q7;exact⟨x7,Z7,H7,I7.unpinned,r7,q7⟩
end
abbrev R2:=V->V->Hp->VK->Prop
def OpR(X:Cx)(f:Value->Value->Sem Value)(r:R2):Prop:=
 ∀(U:qd)(s:Shared)(Z:St)(H:Hp)(x y:V)(v u:Value)(Q:VK),Inv X U Z H s->RelV x v->RelV y u->r x y H Q ->
  Am X (f v u) (EP X U Z Q) X.xe s
def UnR(X:Cx)(f:Value->Sem Value)(r:V->Hp->VK->Prop):Prop:=
 ∀(U:qd)(s:Shared)(Z:St)(H:Hp)(x:V)(v:Value)(Q:VK),Inv X U Z H s->RelV x v->r x H Q ->
  Am X (f v) (EP X U Z Q) X.xe s
def CallR(X:Cx)(f:Value)(r:List V->Hp->VK->Prop):Prop:=
 ∀(U:qd)(s:Shared)(Z:St)(H:Hp)(xs:List V)(us:Ac)(Q:VK),Inv X U Z H s->Vals xs us->r xs H Q ->
  Am X (call f us) (EP X U Z Q) X.xe s
def TruR(X:Cx)(r:V->Hp->(Bool->Hp->Prop)->Prop):Prop:=
 ∀(U:qd)(s:Shared)(Z:St)(H:Hp)(x:V)(v:Value)(Q:Bool->Hp->Prop),Inv X U Z H s->RelV x v->r x H Q ->
  Am X (truthy v) (TP X U Z Q) X.xe s
def tOp(r:R2)(ta tb:TE):TE:=λZ H Q=>ta Z H λx H1=>tb Z H1 λy H2=>r x y H2 Q
def tUn(r:V->Hp->VK->Prop)(ta:TE):TE:=λZ H Q=>ta Z H λx H1=>r x H1 Q
def rI(C:Int->Int->Prop)(g:Int->Int->V):R2:=λx y H Q=>∃i j,x=.int i/\y=.int j/\C i j/\Q (g i j) H
def rI0(g:Int->Int->V):R2:=λx y H Q=>∃i j,x=.int i/\y=.int j/\Q (g i j) H
def rU(g:Int->V):V->Hp->VK->Prop:=λx H Q=>∃i,x=.int i/\Q (g i) H
section
variable {X:Cx}{a b:Expr}{ta tb:TE}{pos:Pos}
def binT(ha:PE X a ta)(hb:PE X b tb){R:V->V->Hp->Prop}(I:Inv X U Z H s)
  (h:ta Z H λx H1=>tb Z H1 λy H2=>R x y H2) {f:Value->Value->Sem Value}
  (hf:∀v u s2 x y H2,Inv X U Z H2 s2->RelV x v->RelV y u->R x y H2->Am X (f v u) Q X.xe s2):
  Am X (eval a X.env) (λv s₁=>Am X (eval b X.env) (λu s₂=>Am X (f v u) Q X.xe s₂) X.xe s₁) X.xe s:=thn (ha _ s Z H _ I h) λv s1 ⟨x,H1,I1,r1,q1⟩=>thn (hb _ s1 Z H1 _ I1 q1) λu s2 ⟨y,H2,I2,r2,q2⟩=>hf v u s2 x y H2 I2 r1 r2 q2
def jPs(ho:OpR X (binaryOp op) r)(ha:PE X a ta)(hb:PE X b tb):PE X (.BinOp a op b pos) (tOp r ta tb):=λU s Z H Q I h=>wpAny_BinOp (binT ha hb I h λv u s2 x y H2 I2 rx ry q=>ho _ s2 Z H2 x y v u Q I2 rx ry q)
def jPu(ho:UnR X (unaryOp op) r)(ha:PE X a ta):PE X (.UnaryOp op a pos) (tUn r ta):=λU s Z H Q I h=>UnaryOp_ (thn (ha _ s Z H _ I h) λv s1 ⟨x,H1,I1,r1,q1⟩=>ho _ s1 Z H1 x v Q I1 r1 q1)
def opI{f:Value->Value->Sem Value}{C:Int->Int->Prop}{g:Int->Int->Int}
  (rule:∀(i j:Int)(t u:Tok)(s:Shared)(Q:qe)(E:qe),C i j->Q (.int (g i j) s.toks) { s with toks:=s.toks+1 }->Am X (f (.int i t) (.int j u)) Q E s):
  OpR X f (rI C λi j=>.int (g i j)):=by intro U s Z H x y v u Q I rx ry h;obtain⟨i,j,rfl,rfl,hc,q⟩:=h;obtain⟨t,rfl⟩:=rx;obtain⟨t',rfl⟩:=ry;exact rule i j t t' s _ _ hc ⟨.int _,H,I.tok _,⟨_,rfl⟩,q⟩
def opI0{f:Value->Value->Sem Value}{g:Int->Int->Int}
  (rule:∀(i j:Int)(t u:Tok)(s:Shared)(Q:qe)(E:qe),Q (.int (g i j) s.toks) { s with toks:=s.toks+1 }->Am X (f (.int i t) (.int j u)) Q E s):
  OpR X f (rI0 λi j=>.int (g i j)):=by intro U s Z H x y v u Q I rx ry h;obtain⟨i,j,rfl,rfl,q⟩:=h;obtain⟨t,rfl⟩:=rx;obtain⟨t',rfl⟩:=ry;exact rule i j t t' s _ _ ⟨.int _,H,I.tok _,⟨_,rfl⟩,q⟩
def opB0{f:Value->Value->Sem Value}{g:Int->Int->Bool}
  (rule:∀(i j:Int)(t u:Tok)(s:Shared)(Q:qe)(E:qe),Q (.bool (g i j)) s->Am X (f (.int i t) (.int j u)) Q E s):
  OpR X f (rI0 λi j=>.bl (g i j)):=by intro U s Z H x y v u Q I rx ry h;obtain⟨i,j,rfl,rfl,q⟩:=h;obtain⟨t,rfl⟩:=rx;obtain⟨t',rfl⟩:=ry;exact rule i j t t' s _ _ ⟨.bl _,H,I,rfl,q⟩
def CPow(i j:Int):Prop:=0<=j/\j<=1000000/\i.natAbs<2^64
def op_add:OpR X (binaryOp .Add) (rI0 λi j=>.int (i+j)):=opI0 λz z z z z z z q=>add_int q
def jKj:OpR X (binaryOp .Sub) (rI0 λi j=>.int (i-j)):=opI0 λz z z z z z z q=>sub_int q
def jKg:OpR X (binaryOp .Mod) (rI (λz j=>0<j) λi j=>.int (i % j)):=opI λi j z z z z z hc q=>mod_int' (by lia) (by grind)
def jKh:OpR X (binaryOp .Pow) (rI CPow λi j=>.int (i ^ j.toNat)):=opI λz z z z z z z hc q=>pow_int_small hc.1 hc.2.1 hc.2.2 q
def iop_add:OpR X (inplaceOp .Add) (rI0 λi j=>.int (i+j)):=opI0 λz z z z z z z q=>iadd_int q
def unI{f:Value->Sem Value}{g:Int->Int}
  (rule:∀(i:Int)(t:Tok)(s:Shared)(Q:qe)(E:qe),Q (.int (g i) s.toks) { s with toks:=s.toks+1 }->Am X (f (.int i t)) Q E s):
  UnR X f (rU λi=>.int (g i)):=by intro U s Z H x v Q I rx h;obtain⟨i,rfl,q⟩:=h;obtain⟨t,rfl⟩:=rx;exact rule i t s _ _ ⟨.int _,H,I.tok _,⟨_,rfl⟩,q⟩
def jNn:UnR X (unaryOp .USub) (rU λi=>.int (-i)):=unI λz z z z z q=>neg_int q
end
section
variable {X:Cx}{a b c:Expr}{ta tb tc:TE}{pos:Pos}
def jBe{U:qd}{Z:St}{H:Hp}{s:Shared}{Q:VK}{k k':Bool}(I:Inv X U Z H s)(q:Q (.bl k) H)(e:k=k'):EP X U Z Q (.bool k') s:=by subst e;exact⟨.bl k,H,I,rfl,q⟩
def op_lt:OpR X (compareOp .Lt) (rI0 λi j=>.bl (decide (i<j))):=opB0 λz z z z z z z q=>lt_int q
def op_le:OpR X (compareOp .LtE) (rI0 λi j=>.bl (decide (i<=j))):=opB0 λz z z z z z z q=>le_int q
def op_gt:OpR X (compareOp .Gt) (rI0 λi j=>.bl (decide (j<i))):=opB0 λz z z z z z z q=>gt_int q
def op_ge:OpR X (compareOp .GtE) (rI0 λi j=>.bl (decide (j<=i))):=opB0 λz z z z z z z q=>ge_int q
def ju6:OpR X (compareOp .Lt) (λx y H Q=>∃i j,x=.str i/\y=.str j/\Q (.bl (decide (i.cps.toList<j.cps.toList))) H):=by intro U s Z H x y v u Q I rx ry h;obtain⟨i,j,rfl,rfl,q⟩:=h;obtain⟨t,rfl⟩:=rx;obtain⟨t',rfl⟩:=ry;exact lt_str (jBe I q rfl)
def jKf:OpR X (compareOp .Is) (λx y H Q=>y=.non/\Q (.bl (decide (x=.non))) H):=by
 intro U s Z H x y v u Q I rx ry h;obtain⟨rfl,q⟩:=h;cases ry;refine is_none_gen (jBe I q ?_);cases x<;>first
  | (rfl)
  | (obtain⟨t,rfl⟩:=rx;rfl)
def OpR.or(h:OpR X f r)(h':OpR X f r'):OpR X f (λx y H Q=>r x y H Q\/r' x y H Q):=by
 intro U s Z H x y v u Q I rx ry q;rcases q with q|q
 .exact h _ s Z H x y v u Q I rx ry q
 .exact h' _ s Z H x y v u Q I rx ry q
def jvb(ho:OpR X (compareOp op) r)(ha:PE X a ta)(hb:PE X b tb)(hm:behindInMarks op b=false):PE X (.Compare a [op] [b] pos) (tOp r ta tb):=λU s Z H Q I h=>wpAny_Compare1 (binT ha hb I h λv u s2 x y H2 I2 rx ry q=>ho _ s2 Z H2 x y v u Q I2 rx ry q) hm
def jQp(t:TE):TT:=λZ H Q=>t Z H λx H'=>∃k,x=.bl k/\Q k H'
def jFl(ho:OpR X (compareOp op) r)(ha:PE X a ta)(hb:PE X b tb)(hm:behindInMarks op b=false):PT X (.Compare a [op] [b] pos) (jQp (tOp r ta tb)):=by
 intro U s Z H Q I h;refine wpAny_isTrue_Compare1 (thn (ha _ s Z H _ I h) λv s1 ⟨x,H1,I1,r1,q1⟩=>thn (hb _ s1 Z H1 _ I1 q1) λu s2 ⟨y,H2,I2,r2,q2⟩ =>
  thn (ho _ s2 Z H2 x y v u _ I2 r1 r2 q2) λc s3 ⟨z,H3,I3,r3,k,e,q3⟩=>?_) hm
 subst e;cases r3;exact cK ⟨H3,I3,q3⟩
def jNc(r r':R2)(ta tb tc:TE):TE:=λZ H Q=>ta Z H λx H1=>tb Z H1 λy H2=>r x y H2 λz H3=>∃k,z=.bl k /\
 (if k=true then tc Z H3 λw' H4=>r' y w' H4 Q else Q (.bl false) H3)
def jyy(ho:OpR X (compareOp op) r)(ho':OpR X (compareOp op') r')(ha:PE X a ta)(hb:PE X b tb)(hc:PE X c tc)
  (hm:lastMarks [op,op'] [b,c]=false):PE X (.Compare a [op,op'] [b,c] pos) (jNc r r' ta tb tc):=by
 intro U s Z H Q I h;refine Compare_chain (thn (ha _ s Z H _ I h) λv s1 ⟨x,H1,I1,r1,q1⟩=>chain_link (thn (hb _ s1 Z H1 _ I1 q1) λu s2 ⟨y,H2,I2,r2,q2⟩ =>
  thn (ho _ s2 Z H2 x y v u _ I2 r1 r2 q2) λd s3 ⟨z,H3,I3,r3,k,e,q3⟩=>?_)) hm
 subst e;cases r3;refine cK ?_
 cases k with
|false=>exact ite_ff ⟨.bl _,H3,I3,rfl,q3⟩
|true=>exact ite_tt (chain_last (thn (hc _ s3 Z H3 _ I3 q3) λw' s4 ⟨z',H4,I4,r4,q4⟩=>ho' _ s4 Z H4 y z' u w' Q I4 r2 r4 q4))
def TruV(K:Af)(x:V)(H:Hp)(k:Bool):Prop:=
 match x with
 |.non=>k=false
 |.bl b=>k=b
 |.int i=>k=(i != 0)
 |.str y=>y.length<=sizeLine/\k=((y.length:Int) != 0)
 |.byt y=>y.size<=sizeLine/\k=((y.size:Int) != 0)
 |.ref p=>(∃xs,SqL K H p xs/\k=!xs.isEmpty)\/(∃xs,SqT K H p xs/\k=!xs.isEmpty)\/∃kvs,H p=some (.dK kvs)/\k=!kvs.isEmpty
 |_=>False
theorem jrs(r:KV kvs vs):(!vs.isEmpty)=!kvs.isEmpty:=by cases r<;>rfl
def jkl(r:Vals xs its):(!its.toArray.isEmpty)=!xs.isEmpty:=by cases r<;>rfl
def jkr:(sizeLine:Nat)<2^63:=by decide
def jNj:TruR X (λx H Q=>∃k,TruV X.K x H k/\Q k H):=by
 intro U s Z H x v Q I rx h;obtain⟨k,e,q⟩:=h;have hs:=bG
 cases x with
 |non=>cases rx;subst e;exact truthy_none ⟨H,I,q⟩
 |bl b=>cases rx;subst e;exact cK ⟨H,I,q⟩
 |int i=>obtain⟨t,rfl⟩:=rx;subst e;exact PySem.P.truthy_int ⟨H,I,q⟩
 |str y=>obtain⟨t,rfl⟩:=rx;obtain⟨hy,e'⟩:y.length<=sizeLine/\k=((y.length:Int) != 0):=e;subst e';exact PySem.P.truthy_str (by lia) ⟨H,I.tok _,q⟩
 |byt y=>obtain⟨t,rfl⟩:=rx;obtain⟨hy,e'⟩:y.size<=sizeLine/\k=((y.size:Int) != 0):=e;subst e';exact W.truthy_bytes (by lia) ⟨H,I.tok _,q⟩
 |ref p=>
  cases rx;have e':=e;rcases e' with ⟨xs,hx,e'⟩|⟨xs,hx,e'⟩|⟨kvs,hx,e'⟩
  .subst e';obtain⟨its,r,pl,hz⟩:=I.list hx;have hlen:=r.length;exact wpAny_truthy_list pl.isList (by simp only[zbx];lia) ⟨H,I.tok _,by rw[jkl r];exact q⟩
  .subst e';obtain⟨its,r,pl,hz⟩:=I.tuple hx;have hlen:=r.length;exact truthy_tuple pl (by simp only[zbx];lia) ⟨H,I.tok _,by rw[jkl r];exact q⟩
  .subst e';obtain⟨hz,hS,vs,r,m⟩:kvs.length<=sizeLine/\(p==sysModules)=false/\∃vs,KV kvs vs/\s.heap.DictOf _ p vs:=I.hok p _ hx;have hlen:=Paired.length r;exact wpAny_truthy_dict hS m (by lia) ⟨H,I.tok _,by grind[jrs]⟩
 |_=>exact(e).elim
def jze(ha:PE X a ta)(he:∀whole,isTrue a X.env whole=(do let v <- whole;standAt a.pos;holding [v] (truthy v))):
  PT X a (λZ H Q=>ta Z H λx H'=>∃k,TruV X.K x H' k/\Q k H'):=λU s Z H Q I h=>isTrue_plain (thn (ha _ s Z H _ I h) λv s1 ⟨x,H1,I1,r1,q1⟩=>jNj _ s1 Z H1 x v Q I1 r1 q1) (he _)
def jr2:OpR X (binaryOp .Add) (λx y H Q=>∃i j,x=.str i/\y=.str j/\i.length+j.length<=sizeLine/\Q (.str (i++j)) H):=by intro U s Z H x y v u Q I rx ry h;obtain⟨i,j,rfl,rfl,hz,q⟩:=h;obtain⟨t,rfl⟩:=rx;obtain⟨t',rfl⟩:=ry;exact add_str (λt' tk=>⟨.str _,H,I.tok _,⟨_,rfl⟩,q⟩) hz
def joc:OpR X (inplaceOp .Add) (λx y H Q=>∃i j,x=.str i/\y=.str j/\i.length+j.length<=sizeLine/\Q (.str (i++j)) H):=by intro U s Z H x y v u Q I rx ry h;obtain⟨i,j,rfl,rfl,hz,q⟩:=h;obtain⟨t,rfl⟩:=rx;obtain⟨t',rfl⟩:=ry;exact iadd_str (λt' tk=>⟨.str _,H,I.tok _,⟨_,rfl⟩,q⟩) hz
def jl0(r:Vals [x] us):∃u,us=[u]/\RelV x u:=by
 cases r with
 |cons r1 r2=>cases r2;simp_all
def jxl:CallR X (.builtin "abs") (λxs H Q=>∃i,xs=[.int i]/\Q (.int (if i<0 then -i else i)) H):=by intro U s Z H xs us Q I r h;obtain⟨i,rfl,q⟩:=h;obtain⟨u,rfl,t,rfl⟩:=jl0 r;exact call_abs_int λu tk=>⟨.int _,H,I.tok _,⟨_,rfl⟩,q⟩
def call_int1:CallR X (.type "int") (λxs H Q=>(∃i,xs=[.int i]/\Q (.int i) H)\/∃k,xs=[.bl k]/\Q (.int (if k then 1 else 0)) H):=by
 intro U s Z H xs us Q I r h;rcases h with ⟨i,rfl,q⟩|⟨k,rfl,q⟩
 .obtain⟨u,rfl,t,rfl⟩:=jl0 r;exact call_int_int ⟨.int i,H,I,⟨_,rfl⟩,q⟩
 .obtain⟨u,rfl,r1⟩:=jl0 r;cases r1;exact call_int_bool ⟨.int _,H,I.tok _,⟨_,rfl⟩,q⟩
def jl9:CallR X (.type "str") (λxs H Q=>∃i,xs=[.int i]/\i.natAbs.log2<1920/\Q (.str (toString i)) H):=by intro U s Z H xs us Q I r h;obtain⟨i,rfl,hz,q⟩:=h;obtain⟨u,rfl,t,rfl⟩:=jl0 r;exact PySem.P.str_of_int hz ⟨.str _,H,I.tok _,⟨_,rfl⟩,q⟩
end
structure ObjM(h:Heap)(x dx C:Addr)(mA:qc):Prop where
 obj:h.get? x=some (W.instObj C dx)
 ns:h.Ns1 dx mA
 ne:dx≠x
set_option tactic.hygienic true in
def jm3{h:Heap}(n:h.Ns1 dx mA):∃od,h.get? dx=some od/\∀name,W.lookIn name od=some (mA name):=by
 obtain⟨o,es,ep,ho,hd,hk,_,hm⟩:=n;refine⟨o,ho,λname=>?_⟩;have e:=hm name;unfold nsFind findBy at e;rw[<- Array.find?_toList]at e;unfold W.lookIn;rw[hd];dsimp only
 split
 .rename_i y q;rw[q]at e;exact congrArg _ e
 .rename_i q;rw[q]at e;have a:es.toList.any (·.refKey)=false:=by rw[List.any_eq_false];intro y hy;obtain⟨z,t,hkey⟩:=hk y (Array.mem_toList_iff.mp hy);simp[DictEntry.refKey,hkey]
  rw[aJ (by rw[a];exact bD)];exact congrArg _ e
def ObjM.look(I:ObjM h x dx C mA):∃od,W.InstAt h x (W.instObj C dx) C (some od)/\∀name,W.lookIn name od=some (mA name):=
 let ⟨od,ho,hl⟩:=jm3 I.ns
 ⟨od,⟨I.obj,rfl,rfl,ho⟩,hl⟩
section
variable {prog:Program}{w:World}{A:Around}{E:qe}{s:Shared}{K:Af}{x dx C f:Addr}{mA:qc}{name:Str}{v:Value}
def jDv{expr:Bool}{Q:qe}(X:K.In s.heap)(I:ObjM s.heap x dx C mA)(hg:W.plainGet K C name=true)(hh:W.hasDictIn K C=true)
  (ha:W.findIn K (.ref C) name=some none) (hv:mA name=some v) (hv':W.handedIn v=true) (h:Q v { s with toks:=s.toks+1 }):
  wpAny (model prog w) A (getAttr (.ref x) name expr) Q E s:=by obtain⟨od,Jq,hl⟩:=I.look;exact W.get_value X Jq (W.plainGet_of hg).1 (W.findObj_own hh ha rfl (by rw[hl,hv])) hv' h
def jx9{pl:Sem Bool}{Q:Value×Ac->Shared->Prop}(X:K.In s.heap)(I:ObjM s.heap x dx C mA)(hg:W.plainGet K C name=true)
  (hf:W.findIn K (.ref C) name=some (some (.ref f))) (ht:W.isFn K (.ref f)=true) (hv:mA name=none) (h:Q (.ref f,[.ref x]) s):
  wpAny (model prog w) A (getMethod (.ref x) name pl) Q E s:=by obtain⟨od,Jq,hl⟩:=I.look;exact W.method_fn X Jq (W.plainGet_of hg).1 (W.plainGet_of hg).2 hf (bB.mp ht) (by show(W.lookIn _ od).map _=some _;simp_all) h
def jGc{ns:Ab}{Q:Unit->Shared->Prop}(X:K.In s.heap)(I:ObjM s.heap x dx C mA)
  (hs:W.findIn K (.ref C) "__setattr__"=some (some (.builtin "object.__setattr__"))) (hp:W.plainOver K C=true) (ht:W.takerIn K C name=some none) (hh:W.hasDictIn K C=true)
  (hw:PySem.Within mA ns) (hsz:ns.length<=sizeLine)
  (h:∀h',ObjM h' x dx C (λy=>if y=name then some v else mA y)->Heap.SameBut dx s.heap h'->Q () { s with heap:=h',toks:=s.toks+2 }):
  wpAny (model prog w) A (setAttr (.ref x) name v) Q E s:=by
 obtain⟨od,Jq,hl⟩:=I.look;refine W.set_plain X Jq hs (W.osa_open X Jq hp ht λb=>?_);obtain⟨cd,hc,hd'⟩:=W.any_some hh;refine zay (zab (zay (zay (fR I.obj (zay (W.Looks.here (W.looks_clsIn X hc) ?_))))));rw[hd'];refine zab (zay (zab (zay ?_)));refine wpAny_nsSet1 I.ns λh' hn2 hs2=>?_
 obtain⟨oD,esD,epD,hoD,hdD,hcD⟩:=hn2.count (PySem.Within.cons _ v hw);exact zay (wpAny_lookBehind hoD (by rw[hdD];exact pastItsLine_dict (zdz hcD (by simp_all))) (zab (h _ ⟨(hs2.2 _ (cE I.ne)).trans I.obj,hn2,I.ne⟩ hs2)))
def jyp(X:K.In s.heap)(hm:W.makesIn K C=true)
  (hi:W.findIn K (.ref C) "__init__"=some (some (.ref f))) (hf:W.typeIn K (.ref f)=some (.type "function"))
  (h:codeAny (model prog w) (A.under (.builtin "type.__call__" ⟨.ref C::vs,kw⟩)) (.call (.ref f) ⟨.ref (s.heap.objs.size+1)::vs,kw⟩) (W.InitBack (s.heap.objs.size+1) R)
   { s with heap:=(s.heap.push W.emptyDict).push (W.instObj C s.heap.objs.size)}):
  codeAny (model prog w) A (.call (.ref C) ⟨vs,kw⟩) R s:=W.make_core (W.makes_of X hm) (fU X hi) (λself=>W.bind_fn X _ hf) (.inl rfl) h
end
noncomputable def putF(f:Str)(v:V):List (Str×V)->List (Str×V)
|[]=>[(f,v)]
|(g,x)::r=>if g=f then(g,v)::r else(g,x)::putF f v r
theorem jji(f g:Str)(v:V):∀fs:List (Str×V),(putF f v fs).lookup g=if g=f then some v else fs.lookup g
|[]=>by
  show List.lookup g [(f,v)]=_
  by_cases h:g=f
  .simp only[List.lookup,(bB.mpr h),aD h]
  .simp only[List.lookup,(aH.mpr h),aJ h]
|(k,x)::r=>by
  rw[show putF f v _=(if k=f then(k,v)::r else(k,x)::putF f v r)from rfl]
  by_cases hk:k=f
  .rw[aD hk]
   by_cases h:g=k
   .simp only[List.lookup,(bB.mpr h),aD (h.trans hk)]
   .simp only[List.lookup,(aH.mpr h),aJ (λe:g=f=>h (e.trans hk.symm))]
  .rw[aJ hk]
   by_cases h:g=k
   .simp only[List.lookup,(bB.mpr h),aJ (λe=>hk (h.symm.trans e))]
   .simp only[List.lookup,(aH.mpr h)];exact(jji f g v r)
theorem jjf(f:Str)(v:V):∀fs:List (Str×V),f∈(putF f v fs).map (·.1)/\∀g,g∈fs.map (·.1)->g∈(putF f v fs).map (·.1)
|[]=>⟨by simp[putF],λg h=>by simp at h⟩
|(k,x)::r=>by
  obtain⟨i1,i2⟩:=jjf f v r;rw[show putF f v _=(if k=f then(k,v)::r else(k,x)::putF f v r)from rfl]
  by_cases hk:k=f
  .subst hk;exact⟨by simp,λg h=>by simpa using h⟩
  .rw[aJ hk];refine⟨(zaw _ i1),λg h=>?_⟩
   .rcases aM.mp h with e|e
    .exact aM.mpr (.inl e)
    .exact zaw _ (i2 g e)
theorem jjg(f:Str)(v:V):∀fs:List (Str×V),(putF f v fs).length<=fs.length+1
|[]=>by simp[putF]
|(k,x)::r=>by
  have ih:=jjg f v r;rw[show putF f v _=(if k=f then(k,v)::r else(k,x)::putF f v r)from rfl];grind
def RelO.some_of(r:RelO (some v) o):∃u,o=some u/\RelV v u:=by
 cases o with
 |none=>exact(r).elim
 |some u=>exact⟨u,rfl,r⟩
def RelO.none_of(r:RelO none o):o=none:=by
 cases o with
 |none=>rfl
 |some u=>exact(r).elim
def jmu(r:RelV v u):W.handedIn u=true:=by
 cases v with
 |non=>cases (r);rfl
 |bl b=>cases (r);rfl
 |int i=>obtain⟨t,e⟩:=(r);cases e;rfl
 |str x=>obtain⟨t,e⟩:=(r);cases e;rfl
 |byt b=>obtain⟨t,e⟩:=(r);cases e;rfl
 |flt b=>obtain⟨t,e⟩:=(r);cases e;rfl
 |ref a=>cases (r);rfl
 |ty n=>cases (r);rfl
section
variable {P:Program}{w:World}{H:Hp}{h:Heap}{a C dx:Addr}{fs:List (Str×V)}
def job(hok:HOk P w H h)(e:H a=some (.ins C dx fs)):∃mA,ObjM h a dx C mA/\(∀f,RelO (fs.lookup f) (mA f))/\PySem.Within mA (fs.map (·.1))/\fs.length<=1000/\H dx=some (.own a):=by
 obtain⟨d,z,ne,ob,mA,n,r,q⟩:=(hok a _ e)
 exact⟨mA,⟨ob,n,ne⟩,r,q,z,d⟩
end
structure Cls(K:Af)(C:Addr):Prop where
 pg:W.plainGet K C Str.empty=true
 hd:W.hasDictIn K C=true
 po:W.plainOver K C=true
 sa:W.findIn K (.ref C) "__setattr__"=some (some (.builtin "object.__setattr__"))
def Cls.get{K:Af}(c:Cls K C)(f:Str):W.plainGet K C f=true:=c.pg
def NoAttr(K:Af)(C:Addr)(f:Str):Prop:=W.findIn K (.ref C) f=some none
def NoAttr.taker{K:Af}(n:NoAttr K C f):W.takerIn K C f=some none:=by unfold W.takerIn;rw[n];rfl
structure Meth(K:Af)(C:Addr)(m:Str)(f:Addr):Prop where
 at_:W.findIn K (.ref C) m=some (some (.ref f))
 fn:W.isFn K (.ref f)=true
 kp:W.keepIn K (.ref f)=true
section
variable {X:Cx}{U:qd}{Z:St}{H:Hp}{s:Shared}{a C dx:Addr}{fs:List (Str×V)}{f:Str}{v:V}{A:Around}{E:qe}
def jrr(I:Inv X U Z H s)(e:H a=some (.ins C dx fs))(c:Cls X.K C)(n:NoAttr X.K C f)(l:fs.lookup f=some v)
  (h:∀u s',Inv X U Z H s'->RelV v u->Q u s'):wpAny (model X.prog X.w) A (getAttr (.ref a) f b) Q E s:=by obtain⟨mA,O,r,_,_,_⟩:=job I.hok e;obtain⟨u,hu,ru⟩:=RelO.some_of (by rw[<- l];exact r f);exact jDv I.kIn O (c.get f) c.hd n hu (jmu ru) (h u _ (I.tok _) ru)
def jkj{m:Str}{g:Addr}{pl:Sem Bool}{Q:Value×Ac->Shared->Prop}(I:Inv X U Z H s)(e:H a=some (.ins C dx fs))(c:Cls X.K C)(k:Meth X.K C m g)(l:fs.lookup m=none)
  (h:Q (.ref g,[.ref a]) s):wpAny (model X.prog X.w) A (getMethod (.ref a) m pl) Q E s:=by obtain⟨mA,O,r,_,_,_⟩:=job I.hok e;exact jx9 I.kIn O (c.get m) k.at_ k.fn (RelO.none_of (by grind)) h
def jr9{y:V}{u:Value}{Q:Unit->Shared->Prop}(I:Inv X U Z H s)(e:H a=some (.ins C dx fs))(c:Cls X.K C)(n:NoAttr X.K C f)(hl:fs.length<1000)(ry:RelV y u)
  (h:∀s',Inv X U Z (upd H a (.ins C dx (putF f y fs))) s'->Q () s'):wpAny (model X.prog X.w) A (setAttr (.ref a) f u) Q E s:=by
 obtain⟨mA,O,r,wi,_,ho⟩:=job I.hok e;refine jGc I.kIn O c.sa c.po n.taker c.hd wi (by rw[zav,bG];clear hl;lia) λh' O' sb=>h _ ?_
 refine I.write (by rw[e];exact True.intro) (.inr ho) (λb q hb z=>(sb.2 b hb).trans z) (let ⟨o,_,_,e',_⟩:=O'.ns;⟨o,e'⟩) ?_;refine⟨by grind[jae],?_,O.ne,O'.obj,_,O'.ns,λg=>?_,λg hg=>?_⟩
 .have:=jjg f y fs;lia
 .rw[jji]
  by_cases q:g=f
  .rw[aD q,aD q];exact ry
  simp_all
 .by_cases q:g=f
  .rw[q];exact(jjf f y fs).1
  .refine (jjf f y fs).2 g (wi g λz=>hg ?_)
   clear hg ho;simp_all
def Inv.made(I:Inv X U Z H s):Inv X U Z (upd (upd H s.heap.objs.size (.own (s.heap.objs.size+1))) (s.heap.objs.size+1) (.ins C s.heap.objs.size []))
  { s with heap:=(s.heap.push W.emptyDict).push (W.instObj C s.heap.objs.size)}:=by
 have e1:(s.heap.push W.emptyDict).get? _=some _:=zbz _ rfl;have e2:=by
  have:=zbz (s.heap.push W.emptyDict) (o:=W.instObj C s.heap.objs.size) rfl
  rwa [bR]at this
 refine(I.laid (o:=.own (s.heap.objs.size+1)) (t':=s.toks) (λb u q=>zaz _ q) (zac _) ⟨_,e1⟩).laid (λb u q=>zaz _ q) (dI (bR _ _)) ?_;have ne:s.heap.objs.size≠s.heap.objs.size+1:=zcw (cM _);refine⟨by rw[jae ne,jad],aY _,ne,e2,_,(Heap.Ns1.of_empty (⟨_,#[],_,e1,rfl,(λe he=>absurd he (by simp)),λz=>rfl⟩)).at λo q=>zaz _ q,λz=>True.intro,λy hy=>absurd rfl hy⟩
def jsr(hb:attributeBase e f env (eval e env)=eval e env)
  (h:wpAny (model prog w) A (eval e env) (λo s₁=>wpAny (model prog w) A (getAttr o f true) Q E s₁) E s):wpAny (model prog w) A (eval (.Attribute e f pos) env) Q E s:=
 Attribute_any_ h (by rw[arm_eval_Attribute,hb])
end
inductive FldP(K:Af)(f:Str)(Q:VK)(x:V)(H1:Hp):Prop
| mk (a C dx:Addr) (fs:List (Str×V)) (v:V) (h1:x=.ref a) (h2:H1 a=some (.ins C dx fs)) (h3:Cls K C) (h4:NoAttr K C f) (h5:fs.lookup f=some v) (h6:Q v H1)
def tFld(K:Af)(ta:TE)(f:Str):TE:=λZ H Q=>ta Z H (FldP K f Q)
def sFld(K:Af)(ta tv:TE)(f:Str):TS:=λD Z H=>tv Z H λy H1=>ta Z H1 λx H2=>∃a C dx fs,x=.ref a/\H2 a=some (.ins C dx fs)/\Cls K C/\NoAttr K C f/\fs.length<1000 /\
 D.nx Z (upd H2 a (.ins C dx (putF f y fs)))
section
variable {X:Cx}{o e value:Expr}{f:Str}{pos pos':Pos}{ta tv:TE}
def jKr(he:PE X e ta)(hb:attributeBase e f X.env (eval e X.env)=eval e X.env):PE X (.Attribute e f pos) (tFld X.K ta f):=by intro U s Z H Q I h;refine jsr hb (thn (he _ s Z H _ I h) λu s1 hzz=>?_);obtain⟨x,H1,I1,rx,a,C,dx,fs,v,ex,ea,c,n,l,q⟩:=hzz;subst ex;obtain rfl:u=Value.ref a:=rx;exact jrr I1 ea c n l λu' s2 I2 ru=>⟨v,H1,I2,ru,q⟩
def jK7(ha:PE X o ta)(hv:PE X value tv)(hs:swapsWith value (some (.Attribute o f pos')) pos.line X.env=pure false):PS X (.Assign [.Attribute o f pos'] value pos) (sFld X.K ta tv f):=by intro U s Z H D I h;refine gn (thn (hv _ s Z H _ I h) λu s1 ⟨y,H1,I1,ry,q⟩=>thn (ha _ s1 Z H1 _ I1 q) λov s2 hzz=>?_) hs;obtain⟨x,H2,I2,rx,a,C,dx,fs,ex,ea,c,n,l,q2⟩:=hzz;subst ex;obtain rfl:ov=Value.ref a:=rx;exact jr9 I2 ea c n l ry λs3 I3=>⟨Z,_,I3,q2⟩
end
structure Room(k:Nat)(A:Around):Prop where
 hd:A.handled=none
 dp:A.depth+3*k+5<recursionLimit
 un:A.units+16*k+200<cLine
def Room.mono(r:Room k A)(h:j<=k):Room j A:=⟨r.hd,by have:=r.dp;lia,by have:=r.un;lia⟩
def Room.deeper(r:Room (k+1) A)(env:Env):Room k (A.deeper env):=
 ⟨r.hd,by have:=r.dp;show A.depth+1+3*k+5<_;lia,by have:=r.un;show A.units+3+16*k+200<_;lia⟩
def jrx{A:Around}:(A.under (.builtin "type.__call__" ⟨.ref C::us,kw⟩)).depth=A.depth+1:=by first|rfl|simp[guardIds]
def jry{A:Around}:(A.under (.builtin "type.__call__" ⟨.ref C::us,kw⟩)).units=A.units+1:=by first|rfl|simp[Code.cUnits]
def Room.make(r:Room (k+1) A)(C:Addr)(us:Ac)(kw:List (Str×Value)):Room k (A.under (.builtin "type.__call__" ⟨.ref C::us,kw⟩)):=
 ⟨r.hd,by have:=r.dp;rw[jrx];lia,by have:=r.un;rw[jry];clear r;grind⟩
def Room.depth(r:Room k A):A.depth<recursionLimit:=by have:=r.dp;lia
def Room.units(r:Room k A):A.units+64<cLine:=by have:=r.un;lia
def tNil:TA:=λz H Q=>Q [] H
def jQj(ta:TE)(tr:TA):TA:=λZ H Q=>ta Z H λx H1=>tr Z H1 λxs H2=>Q (x::xs) H2
section
variable {X:Cx}{e:Expr}{es:Ad}{te:TE}{t:TA}{pos:Pos}
def jks:PA X [] tNil:=λz z z z H Q I h=>Calls.spliced_nil ⟨[],H,I,.nil,h⟩
def jgr(ha:PE X e te)(hr:PA X es t)(hs:zsE e es X.env):PA X (e::es) (jQj te t):=by intro pos U s Z H Q I h;rw[hs];exact gi (thn (ha _ s Z H _ I h) λu s1 ⟨x,H1,I1,r1,q1⟩=>(thn (hr pos _ s1 Z H1 _ I1 q1) λus s2 ⟨xs,H2,I2,r2,q2⟩=>⟨_,H2,I2,.cons r1 r2,q2⟩))
def tTup(t:TA):TE:=λZ H Q=>t Z H λxs H1=>xs.length<=sizeLine/\∀p,H1 p=none->Q (.ref p) (upd H1 p (.tup xs))
def tLst(t:TA):TE:=λZ H Q=>t Z H λxs H1=>xs.length<=sizeLine/\∀p,H1 p=none->Q (.ref p) (upd H1 p (.lst xs))
def jKy(h:PA X es t):PE X (.Tuple es x1 pos) (tTup t):=by intro U s Z H Q I hq;refine wpAny_Tuple_spliced (thn (h pos _ s Z H _ I hq) λus s1 ⟨xs,H1,I1,r,z,q⟩=>⟨by rw[<- r.length];exact z,?_⟩);refine⟨.ref _,_,I1.laid (λb u e=>zaz _ e) (zac _) ?_,rfl,q _ (I1.hok.fresh (zac _))⟩;exact⟨z,us,r,⟨_,zbz _ rfl,rfl,_,rfl⟩⟩
def jKt(h:PA X es t):PE X (.List es pos) (tLst t):=by intro U s Z H Q I hq;refine wpAny_List_spliced (thn (h pos _ s Z H _ I hq) λus s1 ⟨xs,H1,I1,r,z,q⟩=>⟨by rw[<- r.length];exact z,?_⟩);refine⟨.ref _,_,I1.laid (λb u e=>zaz _ e) (zac _) ?_,rfl,q _ (I1.hok.fresh (zac _))⟩;exact⟨z,us,0,r,zbz _ rfl⟩
end
abbrev Sp:=List V->Hp->VK->XK->Prop
abbrev CXT:=Aj->Hp->Shared->XK->qe
structure Env0(P:Program)(w:World)(K:Af)(mg:qc)(base:Heap)(A:Around)(outer:Aj)(s:Shared)(H:Hp):Prop where
 frames:A.frames=some outer
 mod:Mod K mg base
 bs:∀b o,base.get? b=some o->s.heap.get? b=some o/\H b=none
 bsz:base.objs.size<=s.heap.objs.size
 funs:s.heap.FunFrames base outer
 frf:∀b∈frs outer,H b=none
 hok:HOk P w H s.heap
 bare:AllBare s.gens
def CE(outer:Aj)(P:Program)(w:World)(H:Hp)(s:Shared)(Q:VK)(u:Value)(s':Shared):Prop:=
 ∃v H',s'.os=s.os/\AllBare s'.gens/\Un (frs outer) [] H H' s.heap s'.heap/\HOk P w H' s'.heap/\RelV v u/\Q v H'
def CR(CX:CXT)(outer:Aj)(P:Program)(w:World)(H:Hp)(s:Shared)(Q:VK)(E:XK)(r:Result)(s':Shared):Prop:=
 match r with
 |.ok (.ret u)=>CE outer P w H s Q u s'
 |.ok _=>False
 |.error e=>CX outer H s E e s'
structure FnOk(P:Program)(w:World)(K:Af)(mg:qc)(base:Heap)(CX:CXT)(k:Nat)(f:Addr)(fd:FuncData)(ps:Ab)(sp:Sp):Prop where
 len:∀vs H Q E,sp vs H Q E->vs.length=ps.length
 run:∀(A:Around)(outer:Aj)(s:Shared)(H:Hp)(args:Args)(us:Ac)(vs:List V) (Q:VK) (E:XK),Room k A->Env0 P w K mg base A outer s H->BindsTo s fd args (ps.zip us)->Vals vs us->sp vs H Q E ->
  codeAny (model P w) A (.call (.ref f) args) (CR CX outer P w H s Q E) s
abbrev Ap(X:Cx):=FnOk X.prog X.w X.K X.mg X.base
def FnOk.imp{K:Af}(F:FnOk P w K mg base CX k f fd ps sp)
  (h:∀vs H Q E,sp' vs H Q E->sp vs H Q E):FnOk P w K mg base CX k f fd ps sp' :=
 ⟨λvs H Q E q=>F.len vs H Q E (h _ _ _ _ q),λA outer s H args us vs Q E hr he hb hv hs=>F.run A _ s H _ us vs Q E hr he hb hv (h _ _ _ _ hs)⟩
def Env0.make{K:Af}(e:Env0 P w K mg base A outer s H)(C:Addr)(us:Ac)(kw:List (Str×Value)):
  Env0 P w K mg base (A.under (.builtin "type.__call__" ⟨.ref C::us,kw⟩)) outer s H:=⟨by first|exact e.frames|(simpa[pushEnvs]using e.frames),e.mod,e.bs,e.bsz,e.funs,e.frf,e.hok,e.bare⟩
section
variable {X:Cx}{U:qd}{Z:St}{H:Hp}{s s':Shared}
def Inv.env0(I:Inv X U Z H s):Env0 X.prog X.w X.K X.mg X.base X.A X.stack s H:=
 ⟨I.ok.frames,I.ok.mod,I.bs,zdz I.ok.bsz I.sz,I.stack,I.stkFree,I.hok,I.bare⟩
def Inv.after(I:Inv X U Z H s)(h:CE X.stack X.prog X.w H s Q u s'):EP X U Z Q u s':=by obtain⟨v,H',os,bare,un,hok,r,q⟩:=h;obtain⟨hh,g,d,t,os'⟩:=s';obtain rfl:os'=s.os:=os;exact⟨v,H',I.call un hok bare (λb z=>absurd z (by simp)),r,q⟩
end
def jG9(sp:Sp)(dvs:List V)(E:XK)(t:TA):TE:=λZ H Q=>t Z H λvs H1=>sp (vs++dvs) H1 Q E
def jHb(C:Addr)(m:Str)(sp:Sp)(dvs:List V)(E:XK)(ta:TE)(t:TA):TE:=λZ H Q=>ta Z H λx H1=>∃a dx fs,x=.ref a/\H1 a=some (.ins C dx fs)/\fs.lookup m=none /\
 t Z H1 λvs H2=>sp (x::(vs++dvs)) H2 Q E
def jQl(C:Addr)(sp:Sp)(dvs:List V)(E:XK)(t:TA):TE:=λZ H Q=>t Z H λvs H1=>∀x dx,H1 x=none->H1 dx=none->dx≠x ->
 sp (.ref x::(vs++dvs)) (upd (upd H1 dx (.own x)) x (.ins C dx [])) (λv H2=>v=.non/\Q (.ref x) H2) E
def Binds(K:Af)(fd:FuncData)(ps:Ab)(ds:Ac):Prop:=
 ∀(s:Shared)(us:Ac),K.In s.heap->(us++ds).length=ps.length->BindsTo s fd ⟨us,[]⟩ (ps.zip (us++ds))
def Binds.all{K:Af}(h:∀us:Ac,us.length=ps.length->bindArgs fd ⟨us,[]⟩=pure (ps.zip us)):Binds K fd ps []:=λs us z hl=>by
 rw[aO]at hl |-
 exact .of_eq (h us hl)
def jgt(CX:CXT)(X:Cx)(E:XK):Prop:=∀(U:qd)(Z:St)(H:Hp)(s:Shared)(e:Value)(s':Shared),Inv X U Z H s->CX X.stack H s E e s'->X.xe e s'
section
variable {X:Cx}{CX:CXT}{k:Nat}{f C:Addr}{fd:FuncData}{ps:Ab}{sp:Sp}{dvs:List V}{ds:Ac}{E:XK}{x m:Str}{p pos apos:Pos}{e o:Expr}{es:Ad}{ta:TE}{t:TA}
def jvw(F:Ap X CX k f fd ps sp)(hr:Room k X.A)(hb:Binds X.K fd ps ds)(hd:Vals dvs ds)(hx:jgt CX X E)
  (I:Inv X U Z H s) (r:Vals vs us) (h:sp (vs++dvs) H Q E):Am X (call (.ref f) us) (EP X U Z Q) X.xe s:=by
 have r2:=r.append hd;refine dZ (dD (F.run X.A _ s H _ _ _ Q E hr I.env0 (hb s us I.kIn (by rw[<- r2.length];exact F.len _ _ _ _ h)) r2 h) λr s' hq=>?_)
 cases r with
|error e=>exact hx _ Z H s e s' I hq
|ok fl=>
  cases fl with
  |ret u=>exact I.after hq
  |next=>exact False.elim hq
  |brk=>exact False.elim hq
  |cont=>exact False.elim hq
def jE3(F:Ap X CX k f fd ps sp)(hr:Room k X.A)(hg:Gl X x)(hm:X.mg x=some (.ref f))(hk:W.keepIn X.K (.ref f)=true)(hb:Binds X.K fd ps ds)(hd:Vals dvs ds)(hx:jgt CX X E)
  (ha:PA X (e::es) t) (hdb:Aq x) (he:zsE e es X.env) (hpl:zbT pos es X.env):
  PE X (.Call (.Name x p) (e::es) [] pos) (jG9 sp dvs E t):=λU s Z H Q I h=>cD (jge I hg hm (fF I.ok.mod.kin hk (thn (ha pos _ s Z H _ I h) λus s1 ⟨vs,H1,I1,r,q⟩=>⟨I1.kIn,(jvw F hr hb hd hx I1 r q)⟩) he hpl) hdb)
def jE6(he:PE X o ta)(c:Cls X.K C)(hm:Meth X.K C m f)(F:Ap X CX k f fd ps sp)(hr:Room k X.A)(hb:Binds X.K fd ps ds)(hd:Vals dvs ds)(hx:jgt CX X E)(ha:PA X (e::es) t)
  (hst:zsE e es X.env) (hpl:zbT pos es X.env)
  (ht:eval (.Call (.Attribute o m apos) (e::es) [] pos) X.env=(do
   let ov <- eval o X.env
   standAt apos.atName
   let (f,first) <- holding [ov] (getMethod ov m pl)
   callWith pos f first (backTo pos (starEach (e::es) X.env)) (backToKw pos (keywordEach [] X.env)))):
  PE X (.Call (.Attribute o m apos) (e::es) [] pos) (jHb C m sp dvs E ta t):=by intro U s Z H Q I h;refine W.methodCall_KW (thn (he _ s Z H _ I h) λu s1 hzz=>?_) ht;obtain⟨x,H1,I1,rx,a,dx,fs,ex,ea,l,q⟩:=hzz;subst ex;obtain rfl:u=Value.ref a:=rx;exact jkj I1 ea c hm l (fF I.ok.mod.kin hm.kp (thn (ha pos _ s1 Z H1 _ I1 q) λus s2 ⟨vs,H2,I2,r,q2⟩=>⟨I2.kIn,(jvw (vs:=.ref a::vs) F hr hb hd hx I2 (.cons rfl r) q2)⟩) hst hpl)
def jy2(he:PE X o ta)(c:Cls X.K C)(hm:Meth X.K C m f)(F:Ap X CX k f fd ps sp)(hr:Room k X.A)(hb:Binds X.K fd ps ds)(hd:Vals dvs ds)(hx:jgt CX X E)
  (ht:eval (.Call (.Attribute o m apos) [] [] pos) X.env=(do
   let ov <- eval o X.env
   standAt apos.atName
   let (f,first) <- holding [ov] (getMethod ov m pl)
   callWith pos f first (backTo pos (starEach [] X.env)) (backToKw pos (keywordEach [] X.env)))):
  PE X (.Call (.Attribute o m apos) [] [] pos) (jHb C m sp dvs E ta tNil):=by intro U s Z H Q I h;refine W.methodCall_KW (thn (he _ s Z H _ I h) λu s1 hzz=>?_) ht;obtain⟨x,H1,I1,rx,a,dx,fs,ex,ea,l,q⟩:=hzz;subst ex;obtain rfl:u=Value.ref a:=rx;exact jkj I1 ea c hm l (W.callWith_K0 I1.kIn hm.kp (jvw (vs:=[.ref a]) F hr hb hd hx I1 (.cons rfl .nil) q))
structure Mk(K:Af)(C f:Addr):Prop where
 makes:W.makesIn K C=true
 init:W.findIn K (.ref C) "__init__"=some (some (.ref f))
 fn:W.isFn K (.ref f)=true
 kp:W.keepIn K (.ref C)=true
def jzo{U:qd}{Z:St}{H:Hp}{s:Shared}{Q:VK}{us:Ac}{vs:List V}(M:Mk X.K C f)(F:Ap X CX k f fd ps sp)(hr:Room (k+1) X.A)(hb:Binds X.K fd ps ds)(hd:Vals dvs ds)
  (hx:jgt CX X E) (I:Inv X U Z H s) (r:Vals vs us)
  (h:∀x dx,H x=none->H dx=none->dx≠x->sp (.ref x::(vs++dvs)) (upd (upd H dx (.own x)) x (.ins C dx [])) (λv H2=>v=.non/\Q (.ref x) H2) E):
  Am X (call (.ref C) us) (EP X U Z Q) X.xe s:=by
 have hq:=h _ _ (I.hok.fresh (eE _)) (I.hok.fresh (zac _)) (zcw (cM _));have I2:=Inv.made (C:=C) I;have r2:Vals (V.ref (s.heap.objs.size+1)::(vs++dvs)) _:=.cons rfl (r.append hd);have hl:=by have e:=r2.length;rw[F.len _ _ _ _ hq]at e;exact e.symm
 refine dZ (jyp I.kIn M.makes M.init (bB.mp M.fn) (dD (F.run _ _ _ _ _ _ _ _ E (hr.make C us [])
  (I2.env0.make C us []) (hb _ _ I2.kIn hl) r2 hq) λr s' hq'=>?_))
 cases r with
|error e=>exact hx _ Z _ _ e s' I2 hq'
|ok fl=>
  cases fl with
  |ret u=>obtain⟨v,H',I3,rv,ev,q3⟩:=I2.after hq';subst ev;exact⟨rv,⟨V.ref _,H',I3,rfl,q3⟩⟩
  |next=>exact False.elim hq'
  |brk=>exact False.elim hq'
  |cont=>exact False.elim hq'
def jE5(M:Mk X.K C f)(F:Ap X CX k f fd ps sp)(hr:Room (k+1) X.A)(hg:Gl X x)(hm:X.mg x=some (.ref C))(hb:Binds X.K fd ps ds)(hd:Vals dvs ds)(hx:jgt CX X E)
  (ha:PA X (e::es) t) (hdb:Aq x) (he:zsE e es X.env) (hpl:zbT pos es X.env):
  PE X (.Call (.Name x p) (e::es) [] pos) (jQl C sp dvs E t):=λU s Z H Q I h=>cD (jge I hg hm (fF I.ok.mod.kin M.kp (thn (ha pos _ s Z H _ I h) λus s1 ⟨vs,H1,I1,r,q⟩=>⟨I1.kIn,(jzo M F hr hb hd hx I1 r q)⟩) he hpl) hdb)
end
structure FnScope(N P:Ab)(sc:Scope):Prop where
 kind:sc.kind=.function
 co:sc.isCoroutine=false
 gen:sc.isGenerator=false
 nd:N.Nodup
 pre:N.take P.length=P
 par:∀x∈P,sc.names.lookup x=some .local\/sc.names.lookup x=some .cell
 nofree:∀y∈sc.names,y.2≠.free
theorem jl7{kindOf:Str->Option NameKind}:∀{binds:List (Str×Value)}{m:qc},(∀v,(x,v)∉binds)->bindL kindOf binds m x=m x
|[],_,_=>rfl
|(n,v)::r,m,h=>by
  unfold bindL;rw[jl7 λw hw=>h w (zaw _ hw)]
  split<;>grind
theorem jl5{kindOf:Str->Option NameKind}:∀{binds:List (Str×Value)}{m:qc},(∀v,(x,v)∉binds)->bindC kindOf binds m x=m x
|[],_,_=>rfl
|(n,v)::r,m,h=>by
  unfold bindC;rw[jl5 λw hw=>h w (zaw _ hw)]
  split<;>grind
theorem jl6{kindOf:Str->Option NameKind}{x:Str}{v:Value}:∀{P:Ab}{vs:Ac}{i:Nat}{m:qc},P.Nodup->P[i]?=some x->vs[i]?=some v->kindOf x=some .local ->
  bindL kindOf (P.zip vs) m x=some v
|[],_,_,_,_,h,_,_=>by simp at h
|_::_,[],_,_,_,_,h,_=>by simp at h
|p::P,w::vs,0,m,nd,h1,h2,hk=>by
  simp at h1 h2;subst h1;subst h2
  show bindL _ ((p,w)::P.zip vs) m p=_;unfold bindL;rw[jl7 λv hv=>(cP.mp nd).1 (zca hv).1,aD hk];simp
|p::P,w::vs,i+1,m,nd,h1,h2,hk=>by unfold bindL;exact jl6 (cP.mp nd).2 (by simpa using h1) (by simpa using h2) hk
theorem jl4{kindOf:Str->Option NameKind}{x:Str}{v:Value}:∀{P:Ab}{vs:Ac}{i:Nat}{m:qc},P.Nodup->P[i]?=some x->vs[i]?=some v->kindOf x≠some .local ->
  bindC kindOf (P.zip vs) m x=some v
|[],_,_,_,_,h,_,_=>by simp at h
|_::_,[],_,_,_,_,h,_=>by simp at h
|p::P,w::vs,0,m,nd,h1,h2,hk=>by
  simp at h1 h2;subst h1;subst h2
  show bindC _ ((p,w)::P.zip vs) m p=_;unfold bindC;rw[jl5 λv hv=>(cP.mp nd).1 (zca hv).1,aJ hk];simp
|p::P,w::vs,i+1,m,nd,h1,h2,hk=>by unfold bindC;exact jl4 (cP.mp nd).2 (by simpa using h1) (by simpa using h2) hk
def start(N:Ab)(vs:List V):St:=vs.map some++List.replicate (N.length-vs.length) none
noncomputable def cxOf(CX:CXT)(P:Program)(w:World)(K:Af)(mg:qc)(base:Heap)(N:Ab)(qual:Str)(scope:Scope)(f:Addr)(cd:Value)(A:Around)(outer:Aj)(s:Shared)(H:Hp)(E:XK):Cx where
 prog:=P
 w:=w
 K:=K
 mg:=mg
 base:=base
 A:=A.deeper (envOfC qual scope s.heap.objs.size f cd)
 N:=N
 s₀:=s
 Hz:=H
 env:=envOfC qual scope s.heap.objs.size f cd
 outer:=outer
 stack:=envOfC qual scope s.heap.objs.size f cd::outer
 ex:=[]
 calm:=true
 fn:=λz=>true
 pn:=[]
 xe:=λe s'=>wpAny (model P w) (A.deeper (envOfC qual scope s.heap.objs.size f cd)) (leaving (envOfC qual scope s.heap.objs.size f cd) e) (λz s''=>CX outer H s E e s'') (λe' s''=>CX outer H s E e' s'') s'
def jpo{sc:Scope}(h:sc.names.lookup x=some .cell):∃c,(cellsFrom n sc.names []).lookup x=some c:=bF.mp (W.cellsFrom_some _ n [] (.inl h))
def jt4{K:Af}
  (S:FnScope N ps scope) (hd:A.handled=none) (e0:Env0 P w K mg base A outer s H) (hl:vs.length=ps.length) (r:Vals vs us)
  (x:InCallC s s.heap.objs.size (bindL (envOfC qual scope s.heap.objs.size f cd).kindOf (ps.zip us) λt=>none) (cellsFrom (s.heap.objs.size+1) scope.names []) (bindC (envOfC qual scope s.heap.objs.size f cd).kindOf (ps.zip us) λt=>none) s1):
  Inv (cxOf CX P w K mg base N qual scope f cd A outer s H E) [] (start N vs) H s1:=by
 have hpl:=by have:=congrArg List.length S.pre;rw[List.length_take]at this;omega
 obtain⟨h1,tk,rfl,hk⟩:=x.done;have noA:∀b,b∉(cxOf CX P w K mg base N qual scope f cd A outer s H E).ex:=λb z=>absurd (show b∈([])from z) (by simp)
 refine⟨⟨e0.mod,S.kind,rfl,rfl,zac _,λy z c h1 h2=>(name_of_addr x.apart (bV h1) (bV h2)),λy hy=>?_,λy c t h=>(cY (x.above y c (bV h))),λt=>hd,Around.frames_deeper e0.frames,.inr ⟨rfl,rfl⟩,λb z=>absurd z (noA b),e0.bs,e0.bsz,λb t t=>noA b,λb z=>absurd z (noA b),e0.funs,e0.frf⟩,
  rfl,e0.bare,Un.kept hk,⟨_,x.toInCall.ns,λi y v h1 h2 h3=>?_⟩,λy c h=>⟨_,x.cell y c h⟩,e0.hok.fresh (zac _),λy c h=>(e0.hok.fresh (cY (x.above y c (bV h)))),λp hp=>absurd (show p∈([])from hp) (by simp),e0.hok.kept hk,?_⟩
 .rcases hy with hy|hy
  .exact jpo hy
  .exact absurd rfl (S.nofree _ (bV hy))
 .have hi:i<vs.length:=by
   unfold start at h2
   by_cases hi:i<vs.length
   .exact hi
   .clear noA;clear x hi S;grind
  have ha:vs[i]?=some v:=by
   unfold start at h2;rw[aS (by clear h2;clear h1 hd;grind),zba]at h2
   cases e:vs[i]? with
   |none=>simp_all
   |some a=>(clear h1 hd r;clear noA;grind)
  obtain⟨u,hu,rv⟩:=r.get ha;have hp:ps[i]?=some y:=by rw[<- S.pre,List.getElem?_take_of_lt (by simp_all)];exact h1
  have ndP:ps.Nodup:=by rw[<- S.pre];exact S.nd.sublist (List.take_sublist _ _)
  refine⟨u,rv,?_⟩;rcases S.par y (dE hp)with k|k
  .exact .inl ⟨k,jl6 ndP hp hu k⟩
  .obtain⟨c,e⟩:=jpo k;refine .inr ⟨.inl k,c,e,?_⟩;have q:=x.cell y c e;rw[jl4 ndP hp hu (by show scope.names.lookup y≠_;grind)]at q;exact q
 .unfold start;show _=N.length
  grind
def jOs{K:Af}{dV kV doc pm cdv ct oc:Value}
  (lk:K.lookup f=some ⟨oc,od,.func (W.fnOf name qual params body scope dV kV doc pm an cdv ct),osl⟩) (hcd:W.codeIn K cdv qual=true) (S:FnScope N ps scope)
  (len:∀vs H Q E,sp vs H Q E->vs.length=ps.length)
  (hbody:∀(A:Around)(outer:Aj)(s:Shared)(H:Hp)(vs:List V)(Q:VK)(E:XK),Room k (A.deeper (envOfC qual scope s.heap.objs.size f cdv))->sp vs H Q E ->
   ∃t,PSs (cxOf CX P w K mg base N qual scope f cdv A outer s H E) body t/\t { nx:=λz H'=>Q .non H',rt:=Q } (start N vs) H):
  FnOk P w K mg base CX (k+1) f (W.fnOf name qual params body scope dV kV doc pm an cdv ct) ps sp:=by
 refine⟨len,λA outer s H args us vs Q E hr e0 hb r hsp=>?_⟩;have KX:=e0.mod.kin.keeps λb o e=>(e0.bs b o e).1
 have hkind:∀y∈ps.zip us,scope.names.lookup y.1=some _\/(scope.names.lookup y.1=some _/\((cellsFrom (s.heap.objs.size+1) _ []).lookup y.1).isSome=true):=λ⟨n,v⟩ hy=>by
  rcases S.par n (zca hy).1 with q|q
  .exact .inl q
  .exact .inr ⟨q,W.cellsFrom_some _ _ _ (.inl q)⟩
 refine codeAny_call_function hr.depth (KX _ _ lk) rfl S.co S.gen rfl (W.codeRec_of KX hcd) (hb _ _ _ _ ?_);refine wpAny_newFunctionEnv_cells S.kind hkind λenv he s1 x=>?_
 subst he;refine⟨(e0.mod.nolimit.keeps λb o e=>(e0.bs b o e).1).keeps x.toInCall.keep,codeAny_func ?_⟩;obtain⟨t,ht,hq⟩:=hbody A _ s H vs Q E (hr.deeper _) hsp;refine fB (ht [] s1 _ H _ (jt4 S hr.hd e0 (len _ _ _ _ hsp) r x) hq) (λfl s' hs=>?_) λe s' hs=>hs
 have fin:∀{Z':St}{H':Hp}{v:V}{u:Value},Inv (cxOf CX P w K mg base N qual scope f cdv A _ s H E) [] Z' H' s'->RelV v u->Q v H'->CE outer P w H s Q u s' :=
  λ{Z' H' v u} Jq rv q=>⟨v,H',Jq.os,Jq.bare,Jq.base,Jq.hok,rv,q⟩
 cases fl with
|ret u=>obtain⟨v,Z',H',Jq,rv,q⟩:=hs;exact fin Jq rv q
|next=>obtain⟨Z',H',Jq,q⟩:=hs;exact fin (v:=V.non) Jq rfl q
|brk=>obtain⟨_,_,_,q⟩:=hs;exact False.elim q
|cont=>obtain⟨_,_,_,q⟩:=hs;exact False.elim q
section
variable {X:Cx}{x:Str}{p pos:Pos}{e:Expr}{es:Ad}{t:TA}{id T:String}{r:List V->Hp->VK->Prop}
def tCB(r:List V->Hp->VK->Prop)(t:TA):TE:=λZ H Q=>t Z H λvs H1=>r vs H1 Q
def jll(hc:CallR X (.builtin id) r)(hg:Gl X x)(hm:X.mg x=none)(hv:bootBuiltins x=some (.builtin id))(ha:PA X (e::es) t)(hn:x≠"__name__")(hdb:Aq x)
  (he:zsE e es X.env) (hpl:zbT pos es X.env):PE X (.Call (.Name x p) (e::es) [] pos) (tCB r t):=λU s Z H Q I h=>cD (jko I hg hm hv (PyProof.Rows.callWith_builtin1 (thn (ha pos _ s Z H _ I h) λus s1 ⟨vs,H1,I1,r1,q1⟩=>hc _ s1 Z H1 vs us Q I1 r1 q1) he hpl) hn hdb)
def jnd(hc:CallR X (.type T) r)(hg:Gl X x)(hm:X.mg x=none)(hv:bootBuiltins x=some (.type T))(ha:PA X (e::es) t)(hn:x≠"__name__")(hdb:Aq x)
  (he:zsE e es X.env) (hpl:zbT pos es X.env):PE X (.Call (.Name x p) (e::es) [] pos) (tCB r t):=λU s Z H Q I h=>cD (jko I hg hm hv (bX (thn (ha pos _ s Z H _ I h) λus s1 ⟨vs,H1,I1,r1,q1⟩=>hc _ s1 Z H1 vs us Q I1 r1 q1) he hpl) hn hdb)
end
end L2
namespace HT
open PySem PyProof.Rows
section
variable {prog:Program}{w:World}{A:Around}{E:qe}{s:Shared}
theorem cat_tup{t b:Addr}{vs ws:Ac}{Q:qe}(ht:IsTup s.heap t vs.toArray)(hb:IsTup s.heap b ws.toArray)(hv:vs≠[])
  (h1:ws=[]->Q (.ref t) s) (h2:ws≠[]->Q (.ref s.heap.objs.size) { s with heap:=s.heap.push { cls:=.type "tuple",data:=.seq (vs++ws).toArray } })
  (hsz:vs.length+ws.length<=sizeLine):wpAny (model prog w) A (binaryOp .Add (.ref t) (.ref b)) Q E s:=by
 obtain⟨⟨cls,dd,data,sl⟩,ho,hc,n,hd⟩:=id ht;obtain⟨⟨cls2,dd2,data2,sl2⟩,ho2,hc2,n2,hd2⟩:=id hb;subst hc hd hc2 hd2;have e:vs.toArray++ws.toArray=(vs++ws).toArray:=by simp
 by_cases hw:ws=[]
 .exact concat_meets ⟨_,ho,rfl⟩ ⟨_,ho2,rfl⟩ gv seq_tuple_add eT eO (eI _ _)
   (tuple_addW1 t b _ _ n n2 dd dd2 sl sl2 (by simpa using hv) (by simp[hw])) ⟨ho,ho2,h1 hw⟩
 .refine concat_meets ⟨_,ho,rfl⟩ ⟨_,ho2,rfl⟩ gv seq_tuple_add eT eO (eI _ _)
   (tuple_addW2 t b _ _ n n2 dd dd2 sl sl2 (by simpa using hv) (by simp_all) (hsz)) ⟨ho,ho2,?_⟩
  clear ho2 ht;simp_all
noncomputable def sIx(n d:Nat):Option Int->Nat
|none=>d
|some v=>if v<0 then(v+(n:Int)).toNat else min v.toNat n
theorem sIx_none(n d:Nat):sIx n d none=d:=rfl
theorem sIx_nat(n d k:Nat):sIx n d (some (k:Int))=min k n:=by show(if(k)<0 then((k)+(n:Int)).toNat else min _ n)=min k n;rfl
def js9(v:Int)(n d:Nat):(if v<0 then max (v+(n:Int)) 0 else min v (n:Int))=((sIx n d (some v):Nat):Int):=by
 show(if v<0 then max _ 0 else min v _)=(((if v<0 then(v+(n)).toNat else min _ n)));grind
def jrk(lo hi:Option Int)(n:Nat):Builtin.Slice.sliceAdjust lo hi 1 (n:Int)=(((sIx n 0 lo:Nat):Int),((sIx n n hi:Nat):Int)):=by
 refine Prod.ext ?_ ?_
 .cases lo with
  |none=>rfl
  |some v=>exact js9 v n 0
 .cases hi with
  |none=>rfl
  |some v=>exact js9 v n n
def jr3(i j:Nat):Builtin.Slice.slicePlaces (i:Int) (j:Int) 1=j-i:=by
 unfold Builtin.Slice.slicePlaces
 split<;>lia
def jkt{v:Value}{o:Option Int}{Q:Option Int->Shared->Prop}(p:IsPart v o)(h:Q o s):wpAny (model prog w) A (Builtin.Slice.slicePartIndex v) Q E s:=by cases p<;>simp_all [slicePart_none,slicePart_int]
def jig{sl:Addr}{vl vu:Value}{lo hi:Option Int}{n:Nat}{Q:Int×Int×Nat->Shared->Prop}(hs:s.heap.IsSliceOf sl vl vu .none)(pl:IsPart vl lo)(pu:IsPart vu hi)
  (h:Q (((sIx n 0 lo:Nat):Int),1,sIx n n hi-sIx n 0 lo) s):wpAny (model prog w) A (Builtin.Slice.sliceApplied (.ref sl) (pure (n:Int))) Q E s:=by obtain⟨os,hos,hcs,hds⟩:=id hs;refine zay (zay (bP hos hds rfl (zay (bP hos hds rfl (zay (bP hos hds rfl (zab ?_)))))));refine zay (slicePart_none ?_);refine zay (jkt pl (zay (jkt pu (zay (zab ?_)))));show wpAny _ _ (match Builtin.Slice.sliceAdjust lo hi 1 _ with|(lo,hi)=>pure (lo,(1:Int),Builtin.Slice.slicePlaces lo hi 1)) _ _ s;rw[jrk lo hi n];show wpAny _ _ (pure _) _ _ s;rw[jr3];exact zab h
def jy7(xs:Ah)(i k:Nat):((List.range k).filterMap λ(m:Nat)=>xs[((i:Int)+(m:Int)*1).toNat]?).toArray=((xs.toList.drop i).take k).toArray:=by
 have e:(λ(m:Nat)=>xs[((i)+(m:Int)*1).toNat]?)=λm=>xs[i+m]?:=by
  funext m
  have:((i)+(m:Int)*1).toNat=i+m:=by grind
  rw[this]
 rw[e];have:=pick_run xs i k;rw[List.filterMap_map]at this;have e2:((λx=>xs[x]?) ∘ λx=>i+x)=λm=>xs[i+m]?:=rfl;simp_all
def getItem_tuple_cut{t sl:Addr}{items:Ah}{vl vu:Value}{lo hi:Option Int}{Q:qe}(ht:IsTup s.heap t items)(hs:s.heap.IsSliceOf sl vl vu .none)(pl:IsPart vl lo)(pu:IsPart vu hi)
  (hw:¬(sIx items.size 0 lo=0/\sIx items.size items.size hi=items.size))
  (h:Q (.ref s.heap.objs.size) { s with heap:=s.heap.push { cls:=.type "tuple",data:=.seq ((items.toList.drop (sIx items.size 0 lo)).take (sIx items.size items.size hi-sIx items.size 0 lo)).toArray } })
  (hsz:items.size<=sizeLine):wpAny (model prog w) A (getItem (.ref t) (.ref sl)) Q E s:=by
 have htake:=by show((items.toList.drop (sIx items.size 0 lo)).take (sIx items.size items.size hi-sIx items.size 0 lo)).toArray.size<=sizeLine;rw[zbx,List.length_take,cU,Array.length_toList];omega
 obtain⟨os,hos,hcs,hds⟩:=id hs;unfold getItem
 try with_reducible refine cA ?_
 refine zay (wpAny_sequenceKey ht.typeIs rfl ?_);refine zay (eY ht.typeIs fY
  (gt fY ht.typeIs entry_tuple_getitem ?_ (args_tuple_getitem _ _)))
 show wpAny _ _ (Builtin.Tuple.tupleItemsOf _ >>= _) _ _ s;refine zay (tupleItemsOf_ ht ?_);refine zay (wpAny_typeOf (⟨os,hos,hcs⟩) ?_);refine zay (jig hs pl pu ?_);have hno:¬((((sIx items.size 0 lo):Int)==0&&(1:Int)==1&&(sIx items.size items.size hi-sIx items.size 0 lo)==items.size)=true):=by intro q;rw[aC,aC]at q;have q1:=eq_of_beq q.1.1;have q2:=eq_of_beq q.2;exact hw ⟨by omega,by simp_all⟩
 show wpAny _ _ (if(((sIx _ 0 lo):Int)==0&&(1)==1&&(sIx items.size items.size hi-sIx items.size 0 lo)==items.size)=true then _ else _) _ _ s;rw[aJ hno,jy7]
 first
  | exact zay (dU (zab ⟨_,rfl,zab h⟩) htake)
  | exact zay _
  | exact zay _
  | exact zay _
end
end HT
namespace L2
open PyProof.Rows
abbrev TO:=St->Hp->(Option Int->Hp->Prop)->Prop
def PO(X:Cx)(e:Option Expr)(t:TO):Prop:=
 ∀(U:qd)(s:Shared)(Z:St)(H:Hp)(Q:Option Int->Hp->Prop),Inv X U Z H s->t Z H Q ->
  Am X (evalPart e X.env) (λu s'=>∃o H',Inv X U Z H' s'/\IsPart u o/\Q o H') X.xe s
def jHc:TO:=λz H Q=>Q none H
def jQo(t:TE):TO:=λZ H Q=>t Z H λx H1=>∃i,x=.int i/\Q (some i) H1
section
variable {X:Cx}{e:Expr}{te:TE}{lo hi:Option Expr}{tl th:TO}{pos p2:Pos}
def jFc:PO X none jHc:=λU s Z H Q I h=>zab ⟨_,H,I,.none,h⟩
def jFd(h:PE X e te):PO X (some e) (jQo te):=by
 intro U s Z H Q I hw;refine thn (h _ s Z H _ I hw) λu s1 hzz=>?_
 obtain⟨x,H1,I1,r1,q1⟩:=hzz;obtain⟨i,rfl,q⟩:=q1;obtain⟨t,rfl⟩:=r1;exact⟨_,H1,I1,.int i t,q⟩
def SlR(X:Cx)(r:V->Option Int->Option Int->Hp->VK->Prop):Prop:=
 ∀(U:qd)(s:Shared)(Z:St)(H:Hp)(x:V)(v vl vu:Value)(lo hi:Option Int) (sl:Addr) (Q:VK),Inv X U Z H s->RelV x v->s.heap.IsSliceOf sl vl vu .none->IsPart vl lo->IsPart vu hi->r x lo hi H Q ->
  ∃T id,typeLookup (.type T) "__getitem__"=pure (some (.builtin id))/\s.TypeIs v T/\Am X (getItem v (.ref sl)) (EP X U Z Q) X.xe s
def SlR.or(h:SlR X r)(h':SlR X r'):SlR X (λx lo hi H Q=>r x lo hi H Q\/r' x lo hi H Q):=by
 intro U s Z H x v vl vu lo hi sl Q I rx hs pl pu q;rcases q with q|q
 .exact h _ s Z H x v vl vu lo hi sl Q I rx hs pl pu q
 .exact h' _ s Z H x v vl vu lo hi sl Q I rx hs pl pu q
def tSl(r:V->Option Int->Option Int->Hp->VK->Prop)(te:TE)(tl th:TO):TE:=λZ H Q=>te Z H λx H1=>tl Z H1 λl H2=>th Z H2 λu H3=>r x l u H3 Q
def jy3(hr:SlR X r)(he:PE X e te)(hl:PO X lo tl)(hu:PO X hi th):PE X (.Subscript e (.Slice lo hi none p2) pos) (tSl r te tl th):=by intro U s Z H Q I h;refine Subscript_ (thn (he _ s Z H _ I h) λv s1 hzz=>?_);obtain⟨x,H1,I1,r1,q1⟩:=hzz;refine wpAny_Slice (thn (hl _ s1 Z H1 _ I1 q1) λvl s2 ⟨l,H2,I2,pl,q2⟩=>thn (hu _ s2 Z H2 _ I2 q2) λvu s3 hzz=>?_);obtain⟨u,H3,I3,pu,q3⟩:=hzz;refine zab ?_;obtain⟨T,id,hT,ht,hg⟩:=hr _ _ Z H3 x v vl vu l u _ Q (I3.kept λb ob q=>zaz _ q) r1 (Heap.IsSliceOf.new ..) pl pu q3;exact tail_any ht hT hg (by with_unfolding_all rfl)
def cutV(xs:List V)(lo hi:Option Int):List V:=(xs.drop (HT.sIx xs.length 0 lo)).take (HT.sIx xs.length xs.length hi-HT.sIx xs.length 0 lo)
def jiw(xs:List V)(lo hi:Option Int):(cutV xs lo hi).length<=xs.length:=by grind[cutV,List.length_take,List.length_drop]
def rSlT(K:Af):V->Option Int->Option Int->Hp->VK->Prop:=λx lo hi H Q=>∃a xs,x=.ref a/\SqT K H a xs /\
 ¬(HT.sIx xs.length 0 lo=0/\HT.sIx xs.length xs.length hi=xs.length)/\∀p,H p=none->Q (.ref p) (upd H p (.tup (cutV xs lo hi)))
def sl_tup:SlR X (rSlT X.K):=by intro U s Z H x v vl vu lo hi sl Q I rx hs pl pu h;obtain⟨a,xs,rfl,hx,hw,q⟩:=h;cases rx;obtain⟨its,r,ht,hz⟩:=I.tuple hx;have hlen:its.toArray.size=xs.length:=r.length.symm;refine⟨_,_,PyProof.Rows.slot_tuple_getitem.lookup,ht.typeIs,?_⟩;refine HT.getItem_tuple_cut ht hs pl pu (by simp_all) ?_ (by simp_all);rw[hlen];refine⟨.ref _,_,I.laid (λb ob q=>zaz _ q) (zac _) ?_,rfl,q _ (I.hok.fresh (zac _))⟩;exact⟨zdz (jiw xs lo hi) hz,_,(r.drop _).take _,IsTup.new _ _⟩
def jFq(K:Af):R2:=λx y H Q=>∃a b xs ys,x=.ref a/\y=.ref b/\SqT K H a xs/\SqT K H b ys/\xs≠[]/\xs.length+ys.length<=sizeLine /\
 (ys=[]->Q (.ref a) H)/\(ys≠[]->∀p,H p=none->Q (.ref p) (upd H p (.tup (xs++ys))))
def Vals.nil_iff(r:Vals xs us):us=[]↔xs=[]:=by cases r<;>simp_all
def jEv:OpR X (binaryOp .Add) (jFq X.K):=by intro U s Z H x y v u Q I rx ry h;obtain⟨a,b,xs,ys,rfl,rfl,ha,hb,hx,hz,q1,q2⟩:=h;cases rx;cases ry;obtain⟨its,r1,p1,_⟩:=I.tuple ha;obtain⟨its2,r2,p2,_⟩:=I.tuple hb;refine HT.cat_tup p1 p2 (λz=>hx (r1.nil_iff.mp z)) (λz=>⟨.ref a,H,I,rfl,q1 (r2.nil_iff.mp z)⟩) (λz=>?_) (by rw[<- r1.length,<- r2.length];exact hz);refine⟨.ref _,_,I.laid (λb ob q=>zaz _ q) (zac _) ?_,rfl,q2 (λw=>z (r2.nil_iff.mpr w)) _ (I.hok.fresh (zac _))⟩;exact⟨by simp_all,_,r1.append r2,IsTup.new _ _⟩
end
noncomputable def ixN(n:Nat)(i:Int):Option Nat:=if 0<=i then(if i<n then some i.toNat else none)else if -(n:Int)<=i then some (i+n).toNat else none
def atI{α:Type}(xs:List α)(i:Int):Option α:=(ixN xs.length i).bind λj=>xs[j]?
def jt8(h:ixN n i=some j):seqIndex? i n=some j/\j<n/\-(n:Int)<=i/\i<n:=by
 unfold ixN at h
 by_cases h0:0<=i
 .rw[aD h0]at h
  by_cases h1:i<n
  .rw[aD h1]at h;have e:=zby h;exact⟨by rw[seqIndex_of h0 h1,e],by clear h;grind,by clear h1;grind,h1⟩
  .rw[aJ h1]at h;cases h
 .rw[aJ h0]at h
  by_cases h1:-(n)<=i
  .rw[aD h1]at h;have e:=zby h;exact⟨by rw[seqIndex_neg (by simp_all) h1,e],by lia,h1,by clear h1;lia⟩
  .rw[aJ h1]at h;cases h
theorem atI_get(h:atI xs i=some v):∃j,seqIndex? i xs.length=some j/\xs[j]?=some v/\j<xs.length/\-(xs.length:Int)<=i/\i<xs.length:=by
 unfold atI at h
 cases e:ixN _ i with
 |none=>rw[e]at h;cases h
 |some j=>rw[e]at h;obtain⟨h1,h2,h3,h4⟩:=jt8 e;exact⟨j,h1,h,h2,h3,h4⟩
def jns(b:Expr):Prop:=∀o i,subscripted b false o i=operate [o,i] (getItem o i)
def IxR(X:Cx)(r:R2):Prop:=
 ∀(value slice:Expr)(U:qd)(s:Shared)(Z:St)(H:Hp)(x y:V)(v u:Value) (Q:VK),Inv X U Z H s->RelV x v->RelV y u->r x y H Q ->
  subscripted slice false v u=operate [v,u] (getItem v u)->Am X (subscriptTail value slice v u) (EP X U Z Q) X.xe s
def MtR(X:Cx)(id:String)(r:V->List V->Hp->VK->Prop):Prop:=
 ∀(U:qd)(s:Shared)(Z:St)(H:Hp)(x:V)(xs:List V)(v:Value) (us:Ac) (Q:VK),Inv X U Z H s->RelV x v->Vals xs us->r x xs H Q ->
  Am X (call (.builtin id) (v::us)) (EP X U Z Q) X.xe s
section
variable {X:Cx}{a b:Expr}{ta tb:TE}{pos:Pos}
def IxR.or(h:IxR X r)(h':IxR X r'):IxR X (λx y H Q=>r x y H Q\/r' x y H Q):=by
 intro value slice U s Z H x y v u Q I rx ry q hs;rcases q with q|q
 .exact h _ _ _ s Z H x y v u Q I rx ry q hs
 .exact h' _ _ _ s Z H x y v u Q I rx ry q hs
def jPr(hr:IxR X r)(ha:PE X a ta)(hb:PE X b tb)(hs:jns b):PE X (.Subscript a b pos) (tOp r ta tb):=λU s Z H Q I h=>Subscript_ (binT ha hb I h λv u s2 x y H2 I2 rx ry q=>hr a b _ s2 Z H2 x y v u Q I2 rx ry q (hs _ _))
def rIxL(K:Af):R2:=λx y H Q=>∃p xs i v,x=.ref p/\y=.int i/\SqL K H p xs/\atI xs i=some v/\Q v H
def rIxT(K:Af):R2:=λx y H Q=>∃p xs i v,x=.ref p/\y=.int i/\SqT K H p xs/\atI xs i=some v/\Q v H
def rIxS:R2:=λx y H Q=>∃z i c,x=.str z/\y=.int i/\z.length<=sizeLine/\atI z.cps.toList i=some c/\Q (.str ⟨#[c]⟩) H
def ix_list:IxR X (rIxL X.K):=by
 intro value slice U s Z H x y v u Q I rx ry h hs;obtain⟨p,xs,i,z,rfl,rfl,hq,he,q⟩:=h;cases rx;obtain⟨t,rfl⟩:=ry;obtain⟨its,r,pl,hz⟩:=I.list hq;obtain⟨j,h1,h2,h3,h4,h5⟩:=atI_get he;obtain⟨w,ew,rw'⟩:=r.get h2;have hl:=r.length;have hn:=jkr;have fin:EP X _ Z Q w s:=⟨z,H,I,rw',q⟩
 by_cases h0:0<=i
 .have hj:=by rw[seqIndex_of h0 h5]at h1;exact zby h1
  exact item_listR pl.isList h0 (by lia) (by rw[hj];simpa using ew) fin hs
 .have hj:(i+(its.toArray.size)).toNat=j:=by rw[seqIndex_neg (by simp_all) h4]at h1;rw[zbx,<- hl];exact zby h1
  exact subscriptTail_builtinR pl.isList.typeIs slot_list_getitem.lookup
   (wpAny_getItem_list_neg pl.isList (by simp_all) (by simp_all) (by lia) (by rw[hj];simpa using ew) ⟨rfl,fin⟩) hs
def ix_tup:IxR X (rIxT X.K):=by
 intro value slice U s Z H x y v u Q I rx ry h hs;obtain⟨p,xs,i,z,rfl,rfl,hq,he,q⟩:=h;cases rx;obtain⟨t,rfl⟩:=ry;obtain⟨its,r,pl,hz⟩:=I.tuple hq;obtain⟨j,h1,h2,h3,h4,h5⟩:=atI_get he;obtain⟨w,ew,rw'⟩:=r.get h2;have hn:=jkr;exact subscriptTail_builtinR pl.typeIs slot_tuple_getitem.lookup
  (getItem_tuple pl (by clear h2 he pl r;lia) (by lia) (by rw[zbx,<- r.length];exact h1) (by simp_all) ⟨rfl,(⟨z,H,I,rw',q⟩)⟩) hs
def jJh:IxR X rIxS:=by
 intro value slice U s Z H x y v u Q I rx ry h hs;obtain⟨z,i,c,rfl,rfl,hz,he,q⟩:=h;obtain⟨t,rfl⟩:=rx;obtain⟨t',rfl⟩:=ry;obtain⟨j,h1,h2,h3,h4,h5⟩:=atI_get he;have hl:z.cps.toList.length=z.length:=by simp[Str.length]
 rw[hl]at h1 h4 h5;have hn:=jkr;exact tail_any (fD s z t) slot_str_getitem.lookup (getItem_str (by rw[(aN (by lia)),(aN (by lia)),Bool.or_false]) (by grind) ⟨.str _,H,I.tok _,⟨_,rfl⟩,q⟩) hs
def rIx(K:Af):R2:=λx y H Q=>rIxL K x y H Q\/rIxT K x y H Q\/rIxS x y H Q
def jJg:IxR X (rIx X.K):=ix_list.or (ix_tup.or jJh)
def jrz(its:Ac)(n j:Nat)(u:Value):Obj.mapSeq (·.setIfInBounds j u) { cls:=.type "list",data:=.seq its.toArray n }={ cls:=.type "list",data:=.seq (its.set j u).toArray n }:=by simp[Obj.mapSeq]
def Inv.lst(I:Inv X U Z H s)(h:H p=some (.lst xs)):
  ∃(its:Ac) (n:Nat),Vals xs its/\s.heap.get? p=some { cls:=.type "list",data:=.seq its.toArray n }/\xs.length<=sizeLine:=by
 obtain⟨z,its,n,r,e⟩:=I.hok p _ h;simp_all
def Inv.lstUpd{U:qd}{Z:St}{H:Hp}{s:Shared}{p:Addr}{xs ys:List V}{its its':Ac}{n n':Nat}{f:Obj->Obj}(I:Inv X U Z H s)(h:H p=some (.lst xs))
  (ho:s.heap.get? p=some { cls:=.type "list",data:=.seq its.toArray n }) (hf:f { cls:=.type "list",data:=.seq its.toArray n }={ cls:=.type "list",data:=.seq its'.toArray n' }) (r:Vals ys its') (hz:ys.length<=sizeLine) (t:Nat):
  Inv X U Z (upd H p (.lst ys)) { s with heap:=s.heap.update p f,toks:=t }:=by
 have e:(s.heap.update p f).get? p=some { cls:=.type "list",data:=.seq its'.toArray n' }:=by rw[bM f ho (by rw[hf]<;>rfl),hf]
 exact I.write (by rw[h];trivial) (.inl rfl) (λb u hb q=>(bL _ _ (cE hb)).trans q) ⟨_,e⟩ ⟨hz,_,n',r,e⟩
def jLi:V->V->V->Hp->(Hp->Prop)->Prop:=λo i v H Q=>∃p xs k j,o=.ref p/\i=.int k/\H p=some (.lst xs)/\ixN xs.length k=some j/\Q (upd H p (.lst (xs.set j v)))
def jzx:PSet X jLi:=by
 intro U s Z H o i v ov iv u Q I ro ri rv h;obtain⟨p,xs,k,j,rfl,rfl,hp,hj,q⟩:=h;cases ro;obtain⟨t,rfl⟩:=ri;obtain⟨its,n,r,ho,hz⟩:=I.lst hp;obtain⟨h1,h2,h3,h4⟩:=jt8 hj;have hl:=r.length;have hn:=jkr;have I' :=
  I.lstUpd hp ho (jrz its n j u) (r.set rv j) (by clear r;grind) s.toks
 by_cases h0:0<=k
 .have hk:=by rw[seqIndex_of h0 h4]at h1;exact zby h1
  exact W.ki_setAt ho h0 (by lia) (by simp_all) (by rw[hk];exact⟨_,I',q⟩)
 .have hk:(k+(its.toArray.size)).toNat=j:=by rw[seqIndex_neg (by simp_all) h3]at h1;rw[zbx,<- hl];exact zby h1
  exact W.ki_setBack ho (by simp_all) (by simp_all) (by lia) (by rw[hk];exact⟨_,I',q⟩)
def jnj(lo hi:Option Int)(n:Nat):(sliceBounds lo hi none n).1=((HT.sIx n 0 lo:Nat):Int)/\(sliceBounds lo hi none n).2.1=((HT.sIx n n hi:Nat):Int)/\(sliceBounds lo hi none n).2.2=1:=by
 refine⟨?_,?_,rfl⟩
 .cases lo with
  |none=>rfl
  |some i=>
   simp only[sliceBounds,HT.sIx,Option.getD_none]
   by_cases h:i<0
   .simp only[h,if_true]<;>lia
   .simp only[h,if_false]<;>lia
 .cases hi with
  |none=>rfl
  |some i=>
   simp only[sliceBounds,HT.sIx,Option.getD_none]
   by_cases h:i<0
   .simp only[h,if_true]<;>lia
   .simp only[h,if_false]<;>lia
def jls(its:Ac)(lo hi:Option Int):slicePick its.toArray lo hi none=((its.drop (HT.sIx its.length 0 lo)).take (HT.sIx its.length its.length hi-HT.sIx its.length 0 lo)).toArray:=by obtain⟨h1,h2,h3⟩:=jnj lo hi _;unfold slicePick;rw[h1,h2,h3];simp only[sliceRange_one,pick_run]<;>rfl
def rSlL(K:Af):V->Option Int->Option Int->Hp->VK->Prop:=λx lo hi H Q=>∃a xs,x=.ref a/\SqL K H a xs/\∀p,H p=none->Q (.ref p) (upd H p (.lst (cutV xs lo hi)))
def sl_list:SlR X (rSlL X.K):=by intro U s Z H x v vl vu lo hi sl Q I rx hs pl pu h;obtain⟨a,xs,rfl,hx,q⟩:=h;cases rx;obtain⟨its,r,ht,hz⟩:=I.list hx;have hlen:=r.length;refine⟨_,_,slot_list_getitem.lookup,ht.isList.typeIs,?_⟩;refine wpAny_getItem_list_slice ht.isList hs pl pu .none (by simp) ?_ (by simp_all);rw[jls,<- hlen];refine⟨.ref _,_,I.laid (λb ob q=>zaz _ q) (zac _) ?_,rfl,q _ (I.hok.fresh (zac _))⟩;exact⟨zdz (jiw xs lo hi) hz,_,0,(r.drop _).take _,zbz _ rfl⟩
noncomputable def jj6:V->Bool
|.non=>true
|.bl _=>true
|.int _=>true
|.str _=>true
|_=>false
noncomputable def eqV:V->V->Bool
|.non,.non=>true
|.bl a,.bl b=>a==b
|.bl a,.int b=>(if a then 1 else 0)==b
|.int a,.bl b=>a==(if b then 1 else 0)
|.int a,.int b=>a==b
|.str a,.str b=>a==b
|_,_=>false
def jIo(ry:RelV y u)(rx:RelV x v)(fy:jj6 y=true)(fx:jj6 x=true):SeqAt.EqAt A s u v (eqV y x):=by
 cases y with
 |non=>
  cases ry
  cases x with
  |non=>cases rx;exact SeqAt.EqAt.same _
  |bl b=>cases rx;exact SeqAt.EqAt.none_bool b
  |int b=>obtain⟨t,rfl⟩:=rx;exact SeqAt.EqAt.none_int b t
  |str b=>obtain⟨t,rfl⟩:=rx;exact SeqAt.EqAt.none_str b t
  |_=>exact absurd (fx) bD
 |bl a=>
  cases ry
  cases x with
  |non=>cases rx;exact SeqAt.EqAt.bool_none a
  |bl b=>cases rx;exact SeqAt.EqAt.bool_bool a b
  |int b=>obtain⟨t,rfl⟩:=rx;exact SeqAt.EqAt.bool_int a b t
  |str b=>obtain⟨t,rfl⟩:=rx;exact SeqAt.EqAt.bool_str a b t
  |_=>exact absurd (fx) bD
 |int a=>
  obtain⟨t',rfl⟩:=ry
  cases x with
  |non=>cases rx;exact SeqAt.EqAt.int_none a t'
  |bl b=>cases rx;exact SeqAt.EqAt.int_bool a t' b
  |int b=>obtain⟨t,rfl⟩:=rx;exact SeqAt.EqAt.int_int a t' b t
  |str b=>obtain⟨t,rfl⟩:=rx;exact SeqAt.EqAt.int_str a t' b t
  |_=>exact absurd (fx) bD
 |str a=>
  obtain⟨t',rfl⟩:=ry
  cases x with
  |non=>cases rx;exact SeqAt.EqAt.str_none a t'
  |bl b=>cases rx;exact SeqAt.EqAt.str_bool a t' b
  |int b=>obtain⟨t,rfl⟩:=rx;exact SeqAt.EqAt.str_int a t' b t
  |str b=>obtain⟨t,rfl⟩:=rx;exact SeqAt.EqAt.str_str a t' b t
  |_=>exact absurd (fx) bD
 |_=>exact absurd (fy) bD
def eqU(x:V)(u:Value):Bool:=match u with
 |.none=>eqV .non x
 |.bool b=>eqV (.bl b) x
 |.int i _=>eqV (.int i) x
 |.str z _=>eqV (.str z) x
 |_=>false
def jA8(r:RelV y u)(f:jj6 y=true):eqU x u=eqV y x:=by
 cases y with
 |non=>cases r;rfl
 |bl b=>cases r;rfl
 |int i=>obtain⟨t,rfl⟩:=r;rfl
 |str z=>obtain⟨t,rfl⟩:=r;rfl
 |_=>exact absurd (f) bD
def jkx{xs:List V}{us:Ac}(h:Vals xs us)(f:xs.all jj6=true):us.any (eqU x)=xs.any λy=>eqV y x:=by
 induction h with
 |nil=>rfl
 |cons r t ih=>rw[bN,aC]at f;rw[dO,dO,jA8 r f.1,ih f.2]
theorem jg4(rx:RelV x v)(fx:jj6 x=true):∀{xs:List V}{us:Ac},Vals xs us->xs.all jj6=true->∀u∈us,SeqAt.EqAt A s u v (eqU x u)
|_,_,.nil,_=>λu hu=>by cases hu
|y::xs,u::us,.cons r t,f=>λu' hu=>by
  rw[bN,aC]at f;rcases aM.mp hu with rfl|hu
  .rw[jA8 r f.1];exact jIo r rx f.1 fx
  .exact jg4 rx fx t f.2 u' hu
def inV(x:V)(xs:List V):Bool:=xs.any λy=>eqV y x
def rIn(K:Af)(neg:Bool):R2:=λx y H Q=>∃p xs,y=.ref p/\(SqL K H p xs\/SqT K H p xs)/\jj6 x=true/\xs.all jj6=true/\Q (.bl (if neg then !inV x xs else inV x xs)) H
theorem jjq:OpR X (compareOp .In) (rIn X.K false):=by
 intro U s Z H x y v u Q I rx ry h;obtain⟨p,xs,rfl,hq,fx,fs,q⟩:=h;cases ry;rcases hq with hq|hq
 .obtain⟨its,r,pl,hz⟩:=I.list hq;refine SeqAt.in_listAt _ pl.isList (λw hw=>jg4 rx fx r fs w (by simpa using hw)) ⟨.bl _,H,I,rfl,?_⟩;rw[show its.toArray.any _=its.any (eqU x) by simp,jkx r fs];exact q
 .obtain⟨its,r,pl,hz⟩:=I.tuple hq;refine SeqAt.in_tupleAt _ pl (λw hw=>jg4 rx fx r fs w (by simpa using hw)) ⟨.bl _,H,I,rfl,?_⟩;rw[show its.toArray.any _=its.any (eqU x) by simp,jkx r fs];exact q
theorem jez:OpR X (compareOp .NotIn) (rIn X.K true):=by
 intro U s Z H x y v u Q I rx ry h;obtain⟨p,xs,rfl,hq,fx,fs,q⟩:=h;cases ry;rcases hq with hq|hq
 .obtain⟨its,r,pl,hz⟩:=I.list hq;refine SeqAt.notIn_listAt _ pl.isList (λw hw=>jg4 rx fx r fs w (by simpa using hw)) ⟨.bl _,H,I,rfl,?_⟩;rw[show its.toArray.any _=its.any (eqU x) by simp,jkx r fs];exact q
 .obtain⟨its,r,pl,hz⟩:=I.tuple hq;refine SeqAt.notIn_tupleAt _ pl (λw hw=>jg4 rx fx r fs w (by simpa using hw)) ⟨.bl _,H,I,rfl,?_⟩;rw[show its.toArray.any _=its.any (eqU x) by simp,jkx r fs];exact q
def call_len_seq:CallR X (.builtin "len") (λxs H Q=>∃p ys,xs=[.ref p]/\(SqL X.K H p ys\/SqT X.K H p ys)/\Q (.int ys.length) H):=by
 intro U s Z H xs us Q I r h;obtain⟨p,ys,rfl,hq,q⟩:=h;obtain⟨u,rfl,rx⟩:=jl0 r;cases rx;have hn:=jkr;rcases hq with hq|hq
 .obtain⟨its,r',pl,hz⟩:=I.list hq;have hlen:=r'.length;exact Calls.call_len_list pl.isList (by simp only[zbx]<;>lia) ⟨.int _,H,I.tok _,⟨_,by rw[zbx,hlen]⟩,q⟩
 .obtain⟨its,r',pl,hz⟩:=I.tuple hq;have hlen:=r'.length;exact len_tuple pl (by simp only[zbx]<;>lia) ⟨.int _,H,I.tok _,⟨_,by rw[zbx,hlen]⟩,q⟩
def jl8:CallR X (.builtin "len") (λxs H Q=>∃z,xs=[.str z]/\z.length<=sizeLine/\Q (.int z.length) H):=by intro U s Z H xs us Q I r h;obtain⟨z,rfl,hz,q⟩:=h;obtain⟨u,rfl,t,rfl⟩:=jl0 r;have hn:=jkr;exact len_str (by lia) ⟨.int _,H,I.tok _,⟨_,rfl⟩,q⟩
def CallR.or(h:CallR X f r)(h':CallR X f r'):CallR X f (λxs H Q=>r xs H Q\/r' xs H Q):=by
 intro U s Z H xs us Q I rs q;rcases q with q|q
 .exact h _ s Z H xs us Q I rs q
 .exact h' _ s Z H xs us Q I rs q
def jk0:CallR X (.type "tuple") (λxs H Q=>∃p ys,xs=[.ref p]/\((SqL X.K H p ys/\∀l,H l=none->Q (.ref l) (upd H l (.tup ys)))\/(SqT X.K H p ys/\Q (.ref p) H))):=by
 intro U s Z H xs us Q I r h;obtain⟨p,ys,rfl,h⟩:=h;obtain⟨u,rfl,rx⟩:=jl0 r;cases rx;rcases h with ⟨hq,q⟩|⟨hq,q⟩
 .obtain⟨its,r',pl,hz⟩:=I.list hq;have hlen:=r'.length;refine call_tuple_list pl.isList (λh' kp=>?_) (by simp_all);have I1:=I.kept (t':=s.toks) kp;exact⟨.ref _,_,(I1.laid (λb o e=>zaz _ e) (zac _) (show ObjOk _ X.w _ _ _ (.tup ys)from⟨hz,its,r',IsTup.new _ _⟩)),rfl,q _ (I1.hok.fresh (zac _))⟩
 .obtain⟨its,r',pl,hz⟩:=I.tuple hq;exact call_tuple_same pl ⟨.ref p,H,I,rfl,q⟩
def tyV(K:Af)(T:String)(x:V)(H:Hp):Prop:=match x with
 |.str _=>T="str"
 |.int _=>T="int"
 |.ref p=>(T="list"/\∃xs,SqL K H p xs)\/(T="tuple"/\∃o,K.lookup p=some o/\o.cls=.type "tuple"/\o.dict=none) \/
   (T="dict"/\((∃kvs,H p=some (.dK kvs))\/∃kvs,H p=some (.dT kvs)))\/(T="set"/\∃S n,H p=some (.set S n))
 |_=>False
def jB8(I:Inv X U Z H s)(r:RelV x v)(ty:tyV X.K T x H):
  s.TypeIs v T/\∀a,v=.ref a->∃ob,s.heap.get? a=some ob/\ob.dict=none:=by
 cases x with
|str z=>
  obtain⟨t,rfl⟩:=r;cases (ty)
  grind[typeIs_str]
|int i=>
  obtain⟨t,rfl⟩:=r;cases (ty)
  grind[typeIs_int]
|ref p=>
  cases r;rcases ty with ⟨rfl,xs,hq⟩|⟨rfl,o,hk,hc,hd⟩|⟨rfl,hk⟩|⟨rfl,S,n,hk⟩
  .obtain⟨its,_,pl,_⟩:=I.list hq;refine⟨pl.isList.typeIs,λa e=>?_⟩;cases e;obtain⟨o,n,e,c,hd,_⟩:=pl
   simp_all
  .refine⟨⟨o,I.kIn p o hk,hc⟩,λa e=>?_⟩;cases e;exact⟨o,I.kIn _ o hk,hd⟩
  .have z:∃o,s.heap.get? p=some o/\o.ExactDict:=by
    rcases hk with ⟨kvs,hk⟩|⟨kvs,hk⟩
    .obtain⟨_,_,_,_,o,_,_,e,ex,_⟩:=I.hok p _ hk;exact⟨o,e,ex⟩
    .obtain⟨_,_,_,_,o,_,_,e,ex,_⟩:=I.hok p _ hk;exact⟨o,e,ex⟩
   obtain⟨o,e,ex⟩:=z;refine⟨⟨o,e,ex.1⟩,λa e2=>?_⟩;cases e2;exact⟨o,e,ex.2.1⟩
  .obtain⟨o,_,_,_,e,ex,_⟩:=I.hok p _ hk;refine⟨⟨o,e,ex.1⟩,λa e2=>?_⟩;cases e2;exact⟨o,e,ex.2.1⟩
|_=>exact False.elim ty
def tBM0(K:Af)(T:String)(r:V->List V->Hp->VK->Prop)(to:TE):TE:=λZ H Q=>to Z H λx H1=>tyV K T x H1/\r x [] H1 Q
def tBM(K:Af)(T:String)(r:V->List V->Hp->VK->Prop)(to:TE)(t:TA):TE:=λZ H Q=>to Z H λx H1=>tyV K T x H1/\t Z H1 λxs H2=>r x xs H2 Q
variable {o e:Expr}{es:Ad}{to:TE}{t:TA}{name:Str}{apos cpos:Pos}{T id:String}{r:V->List V->Hp->VK->Prop}
def jKq(pa:PlainAttrs T)(slot:Slot T name id)(hty:typeOf (.builtin id)=pure (.type "method_descriptor"))(hm:MtR X id r)(ho:PE X o to)
  (hbase:attributeBase o name X.env (eval o X.env)=eval o X.env) (hline:(apos.endLine==cpos.line)=true):PE X (.Call (.Attribute o name apos) [] [] cpos) (tBM0 X.K T r to):=by intro U s Z H Q I h;refine wpAny_Call_method0_late hbase hline (thn (ho _ s Z H _ I h) λv s1 hzz=>?_);obtain⟨x,H1,I1,r1,ty,q1⟩:=hzz;obtain⟨h1,h2⟩:=jB8 I1 r1 ty;exact⟨T,id,pa,slot,hty,h1,h2,fM rfl (PySem.evalArgs_none (hm _ s1 Z H1 x [] v [] Q I1 r1 .nil q1))⟩
def jE2(pa:PlainAttrs T)(slot:Slot T name id)(hty:typeOf (.builtin id)=pure (.type "method_descriptor"))(hm:MtR X id r)(ho:PE X o to)(ha:PA X (e::es) t)
  (hbase:attributeBase o name X.env (eval o X.env)=eval o X.env)
  (hfew:((backTo cpos (starEach (e::es) X.env)).all (λx=>!x.1)&&(backToKw cpos (keywordEach [] X.env)).all (λx=>x.1.isSome)
   && decide ((e::es).length+([]:Ai).length+(if([]:Ai).isEmpty then 0 else 1)<30))=true)
  (hline:(apos.endLine==cpos.line)=true) (hs:zsE e es X.env) (hplain:(backTo cpos (starEach es X.env)).any (·.1)=false):
  PE X (.Call (.Attribute o name apos) (e::es) [] cpos) (tBM X.K T r to t):=by
 intro U s Z H Q I h;refine wpAny_Call_method_late hbase hfew hline rfl (thn (ho _ s Z H _ I h) λv s1 hzz=>?_);obtain⟨x,H1,I1,r1,ty,q1⟩:=hzz;obtain⟨h1,h2⟩:=jB8 I1 r1 ty;refine⟨T,id,pa,slot,hty,h1,h2,?_⟩;have hA:=ha cpos _ s1 Z H1 _ I1 q1;rw[hs]at hA |-
 exact fM (by show(false || (backTo _ _).any _)=false;rw[hplain]<;>rfl) (Calls.evalArgs_plain (thn hA λus s2 ⟨vs,H2,I2,r2,q2⟩=>hm _ s2 Z H2 x vs v us Q I2 r1 r2 q2))
end
def MtM(X:Cx)(id:String)(r:V->List V->Hp->VK->Prop):Prop:=
 ∀(U:qd)(s:Shared)(Z:St)(H:Hp)(x:V)(xs:List V)(v:Value) (us:Ac) (Q:VK),Inv X U Z H s->RelV x v->Vals xs us->r x xs H Q ->
  Am X (call (.builtin id) (v::us)) (EP X U Z Q) X.xe s
def Vals.one:∀{x:V}{us:Ac},Vals [x] us->∃u,us=[u]/\RelV x u:=λh=>by cases h with|cons r h=>cases h;exact⟨_,rfl,r⟩
def Vals.two:∀{x y:V}{us:Ac},Vals [x,y] us->∃u v,us=[u,v]/\RelV x u/\RelV y v:=λh=>by cases h with|cons r h=>cases h with|cons q h=>cases h;exact⟨_,_,rfl,r,q⟩
def Vals.zero:∀{us:Ac},Vals [] us->us=[]
|_,.nil=>rfl
theorem Vals.dropLast(h:Vals xs us):Vals xs.dropLast us.dropLast:=by
 induction h with
 |nil=>exact .nil
 |cons r t ih=>
  cases t with
  |nil=>exact .nil
  |cons q t'=>exact .cons r ih
theorem Vals.rep(h:Vals xs us):∀k:Nat,Vals (List.replicate k xs).flatten (List.replicate k us).flatten
|0=>.nil
|k+1=>Vals.append h (Vals.rep h k)
def jro{α:Type}(l:List α):l.eraseIdx (l.length-1)=l.dropLast:=by simp_all
theorem jmq(its:Ac):∀(k:Nat)(acc:Ac),
  List.foldl (λx1 x2=>x1++x2) acc.toArray (List.replicate k its.toArray)=(acc++(List.replicate k its).flatten).toArray
|0,acc=>by simp
|k+1,acc=>by
  have e:acc.toArray++its.toArray=(acc++its).toArray:=by simp
  have e2:(acc++its)++(List.replicate k its).flatten=acc++(List.replicate (k+1) its).flatten:=by rw[eS,fz,aU]
  rw[<- e2,<- jmq its k _,<- e,eS,bQ]
section
variable {X:Cx}{U:qd}{Z:St}{H:Hp}{s:Shared}{l:Addr}{xs ys:List V}
def Inv.lset{its its':Ac}{n:Nat}{f:Ah->Ah}{t':Nat}(I:Inv X U Z H s)(hH:H l=some (.lst xs))
  (e:s.heap.get? l=some { cls:=.type "list",data:=.seq its.toArray n }) (hf:f its.toArray=its'.toArray) (hv:Vals ys its') (hz:ys.length<=sizeLine):
  Inv X U Z (upd H l (.lst ys)) { s with heap:=s.heap.update l (Obj.mapSeq f),toks:=t' }:=by have q:=PySem.IsL.update e f;rw[hf]at q;exact I.write (by rw[hH];exact trivial) (.inl rfl) (λb' u hb hu=>(bL _ _ (cE hb)).trans hu) ⟨_,q⟩ ⟨hz,_,_,hv,q⟩
def Inv.lnew(I:Inv X U Z H s)(hv:Vals ys its)(hz:ys.length<=sizeLine):
  Inv X U Z (upd H s.heap.objs.size (.lst ys)) { s with heap:=s.heap.push { cls:=.type "list",data:=.seq its.toArray },toks:=t' } :=
 I.laid (λz z q=>zaz _ q) (zac _) ⟨hz,its,0,hv,zbz _ rfl⟩
theorem Inv.fresh(I:Inv X U Z H s):H s.heap.objs.size=none:=I.hok.fresh (zac _)
def Inv.lstM(I:Inv X U Z H s)(hH:H l=some (.lst xs)):xs.length<=sizeLine/\∃(its:Ac) (n:Nat),Vals xs its/\xs.length=its.length/\s.heap.get? l=some { cls:=.type "list",data:=.seq its.toArray n }:=by obtain⟨z,its,n,r,e⟩:=I.hok l _ hH;exact⟨z,its,n,r,r.length,e⟩
def jql(h:n<=sizeLine):Builtin.List.listTooLong n=false:=aN (by simp_all)
end
section
variable {X:Cx}
def jvl:V->List V->Hp->VK->Prop:=λx vs H Q=>∃l xs y,x=.ref l/\vs=[y]/\H l=some (.lst xs)/\xs.length<sizeLine/\Q .non (upd H l (.lst (xs++[y])))
def jjm:MtM X "list.append" jvl:=by
 intro U s Z H x vs v us Q I rx rv h;obtain⟨l,xs,y,rfl,rfl,hH,hz,q⟩:=h;cases rx;obtain⟨u,rfl,ru⟩:=rv.one;obtain⟨z,its,n,r,hl,e⟩:=I.lstM hH;refine fE F.slot_list_append ⟨_,e,rfl⟩ F.entry_list_append (F.args_list_append_2 _ _) (PySem.list_append l _ n u (by simp_all)) ⟨e,?_⟩;refine⟨.non,_,I.lset hH e (by simp) (r.append (.cons ru .nil)) ?_,rfl,q⟩
 grind
def rPop:V->List V->Hp->VK->Prop:=λx vs H Q=>∃l xs y,x=.ref l/\vs=[]/\H l=some (.lst xs)/\xs[xs.length-1]?=some y/\Q y (upd H l (.lst xs.dropLast))
def jJ6:MtM X "list.pop" rPop:=by
 intro U s Z H x vs v us Q I rx rv h;obtain⟨l,xs,y,rfl,rfl,hH,hy,q⟩:=h;cases rx;have hus:=rv.zero;subst hus;obtain⟨z,its,n,r,hl,e⟩:=I.lstM hH;obtain⟨u,hu,ru⟩:=r.get hy;have hy':=by show its.toArray[its.length-1]?=some u;rw[<- Array.getElem?_toList,<- hl];exact hu
 refine fE F.slot_list_pop ⟨_,e,rfl⟩ F.entry_list_pop (F.args_list_pop_1 _) (MeetsSeq.list_pop_last l _ n u hy' (by simp_all)) ⟨e,?_⟩;refine⟨y,_,I.lset hH e ?_ r.dropLast ?_,ru,q⟩
 .rw[zbx,List.eraseIdxIfInBounds_toArray,jro]
 .rw[List.length_dropLast]
  clear hy' hu rv;lia
def rRep:R2:=λx y H Q=>∃l k xs,x=.ref l/\y=.int k/\H l=some (.lst xs)/\-(2^63)<=k/\k<2^63/\xs.length*k.toNat<=sizeLine /\
 ∀p,H p=none->Q (.ref p) (upd H p (.lst (List.replicate k.toNat xs).flatten))
def jD8{α:Type}(xs:List α)(k:Nat):(List.replicate k xs).flatten.length=k*xs.length:=by simp_all
def jKi:OpR X (binaryOp .Mult) rRep:=by
 intro U s Z H x y v u Q I rx ry h;obtain⟨l,k,xs,rfl,rfl,hH,h1,h2,hz,q⟩:=h;cases rx;obtain⟨t,rfl⟩:=ry;obtain⟨z,its,n,r,hl,e⟩:=I.lstM hH;have hlen:its.toArray.size*k.toNat<=sizeLine:=by rw[zbx,<- hl];exact hz
 have hcap:¬its.toArray.size*k.toNat > (2^63-1) / 8:=by
  have:(sizeLine)<=(2^63-1) / 8:=by decide
  lia
 have hfit:¬(!Builtin.List.listFitsIndex k)=true:=by rw[fitsIndex_both h1 h2];exact bD
 have hlong:¬Builtin.List.listTooLong (its.toArray.size*k.toNat)=true:=by rw[jql hlen];exact bD
 have hnew:List.foldl (λx1 x2=>x1++x2) #[] (List.replicate (if its.toArray.isEmpty=true then 0 else k.toNat) its.toArray)=(List.replicate k.toNat its).flatten.toArray:=by
  have f0:=λm=>by have:=jmq its m [];rw[dP]at this;exact this
  rw[f0]
  cases its with
  |nil=>simp
  |cons a r'=>rw[aJ (by simp)]
 refine wpAny_binaryOp_repeat_ref rfl ⟨_,e,rfl⟩ (λs'=>typeIs_int s' k t) noFill_list_mul F.fills_int_mul F.slot_int_rmul repeat_list F.slot_int_index.lookup
  (fE F.slot_int_rmul (typeIs_int s k t) F.entry_int_rmul (F.args_int_rmul_2 _ _) (int___rmul___int_list k t l _ n)
   ⟨e,rfl,⟨_,e,rfl⟩,fE F.slot_list_mul ⟨_,e,rfl⟩ F.entry_list_mul (F.args_list_mul_2 _ _) (AutoListH.list___mul___list_int_3 l _ n k t hfit hcap hlong) ⟨e,?_⟩⟩)
 rw[hnew];exact⟨.ref _,_,I.lnew (r.rep _) (by rw[jD8,Nat.mul_comm];exact hz),rfl,q _ I.fresh⟩
end
end L2
namespace Att
open PySem PySem.W PySem.Calls PyProof.Rows
def jje:∀(ns:Ae)(vs:Ac),WellAll P h vs (ns.map WData.int)->IntsAre vs ns:=by
 intro ns
 induction ns with
 |nil=>intro vs w;cases w;exact .nil
 |cons n ns ih=>
  intro vs w
  cases w with
  |cons a b=>cases a;exact .cons _ _ (ih _ b)
def jv0{l:OpenLaw}(hn:l.most=some n)
  (hpre:l.row.toRowW.claim.pre args=true) (hwl:WellAll P h vals args):
  ∃a vs ns,vals=[Value.ref a]/\args=[WData.list (ns.map WData.int)]/\h.get? a=some { cls:=.type "list",data:=.seq vs.toArray }/\IntsAre vs ns/\ns.length<=n:=by
 obtain⟨d,r,rfl,h1,h2⟩:=hasAllW_cons ((pre_splitW hpre).1);obtain rfl:=hasAllW_nil h2;obtain⟨xs,rfl,h3⟩:=hasW_list h1;obtain⟨ns,rfl⟩:=items_int h3;have hlen:=by
  have h4:=by have h4:=(holds_andW ((pre_splitW hpre).2)).1;rw[hn]at h4;exact h4
  have h5:=condW_of h4 (w_not (w_lt w_lit (w_len_list (w_arg rfl))))
  first
   | (exact absurd h5 _)
   | (simp at h5;omega)
 cases hwl with
|cons w1 w2=>
  cases w2
  cases w1 with
  |list ho hall=>exact⟨_,_,ns,rfl,rfl,ho,jje ns _ hall,hlen⟩
def jvg(l:OpenLaw)(args:List WData):l.row.toRowW.claim.post args (.bool true) args=true:=
 postW_of
  (show WShape.has [] _ _=true by first|rfl|decide|simp[WShape.has])
  (w_eq_bool (w_res rfl) w_lit) rfl
def attach_call{l:OpenLaw}{n:Nat}{q:Program}{loose:Ab}{XP:(qc)->Heap->Prop}{YP:World->Heap->Prop}{d:DefRec}
  (hn:l.most=some n) (hdf:d.params.defaults=[])
  (call:∀(w:World)(s₀ s₁:Shared)(mg mb:qc)(fa:Addr)(o:Obj)(pm cd doc:Value)(a:Addr) (vs:Ac) (ns:Ae),
   Ground q loose [] XP w s₀ mg mb s₁.heap->YP w s₁.heap ->
   s₁.heap.get? fa=some o->o.data=.func (docDef d.name d.params d.body d.scope pm cd doc)->s₁.heap.CodeRec cd d.name->mg d.name=some (.ref fa) ->
   s₁.heap.get? a=some { cls:=.type "list",data:=.seq vs.toArray }->IntsAre vs ns->ns.length<=n->s₁.gens=#[] ->
   codeAny (model l.prog w) callerA (.call (.ref fa) ⟨[.ref a],[]⟩) (λr s'=>r=.ok (.ret (.bool true))/\OldK s₁.heap s'.heap/\s'.os=s₁.os/\AllBare s'.gens) s₁):
  WalkO q loose XP YP l.row.toRowW d [] (λf vs=>PySem.call f vs):=by intro w s₀ s₁ mg mb G Yq fa o pm cd doc dV kV ho hd hcd hD hmg hg args vals as hpre hlay hrd hwl hlo;obtain rfl:dV=.none:=Dflts.none hD hdf;obtain rfl:kV=.none:=Dflts.noKw hD;obtain⟨a,vs,ns,rfl,rfl,hobj,hints,hlen⟩:=jv0 hn hpre hwl;refine enter_call (dD (call w _ _ mg mb fa o pm cd doc a vs ns G Yq ho (fd_plain hd) hcd hmg hobj hints hlen hg) λr s' hq=>?_);obtain⟨rfl,h2,h3,h4⟩:=hq;exact⟨.inl ⟨_,_,[],rfl,λz=>rfl,.bool _,jvg l _,λz=>⟨List.Pairwise.nil,λz hm=>(nomatch hm)⟩⟩,h2,h3,h4⟩
end Att
namespace L2
open PyProof.Rows
def jw3{vs:Ac}{ns:Ae}(h:IntsAre vs ns):Vals (ns.map V.int) vs:=by
 induction h with
 |nil=>exact .nil
 |cons n t h ih=>exact .cons ⟨t,rfl⟩ ih
def Only(H:Hp):Prop:=∀b,H b=none\/∃o xs,H b=some (.frz o (.lst xs))
def jyj{K:Af}
  (KX:K.In s₁.heap) (hns:s₁.heap.Ns mainGlobals mg) (hb:s₁.heap.Ns builtinsNs mb) (hbb:∀x:Str,x≠"__name__"->mb x=bootBuiltins x) (hlim:s₁.heap.NoLimit) (hg:s₁.gens=#[])
  (ha:s₁.heap.get? a=some { cls:=.type "list",data:=.seq vs.toArray }) (hi:IntsAre vs ns) (hl:ns.length<=sizeLine) (hr:Room k callerA)
  (F:∀base:Heap,K.In base->base.Ns mainGlobals mg->FnOk P w K mg base CX k fa fd [x] sp) (hbind:∀(s:Shared)(u:Value),BindsTo s fd ⟨[u],[]⟩ [(x,u)])
  (hsp:∀H:Hp,Only H->SqL K H a (ns.map V.int)->sp [.ref a] H (λv y=>v=.bl true) λy y y=>False)
  (hCX:∀H e s',CX [] H s₁ (λy y y=>False) e s'->False):
  codeAny (model P w) callerA (.call (.ref fa) ⟨[.ref a],[]⟩) (λr s'=>r=.ok (.ret (.bool true))/\OldK s₁.heap s'.heap/\s'.os=s₁.os/\AllBare s'.gens) s₁:=by
 have rv:=jw3 hi;have core:∀H,Only H->SqL K H a (ns.map V.int)->HOk P w H s₁.heap->(∀b,H b≠none->b=a)->(H a≠none->K.lookup a=none) ->
   codeAny (model P w) callerA (.call (.ref fa) ⟨[.ref a],[]⟩) (λr s'=>r=.ok (.ret (.bool true))/\OldK s₁.heap s'.heap/\s'.os=s₁.os/\AllBare s'.gens) s₁:=by
  intro H hO hS hok hA hK;have base_of:∀{b:Addr}{o:Obj},s₁.heap.get? b=some o->H b=none->(hidT _ H).get? b=some o:=λe n=>jyb e n
  have noA:∀{b:Addr}{o:Obj}{es:Array _}{ep:Nat},s₁.heap.get? b=some o->o.data=.dict es ep->H b=none:=λ{b o es ep} e d=>by
   cases q:H b with
   |none=>rfl
   |some u=>
    have e':=hA b (by rw[q];simp);subst e';rw[ha]at e;cases e
    cases d
  have nsK:∀{b:Addr}{m:Str->Option _},s₁.heap.Ns b m->(hidT _ H).Ns b m:=λ{b m} ⟨o,es,ep,e,d,r⟩=>⟨o,es,ep,base_of e (noA e d),d,r⟩
  have hKb:=λb o e=>base_of (KX b o e) (by
   cases q:H b with
   |none=>rfl
   |some u=>have e':=hA b (by rw[q];simp);subst e';rw[hK (by rw[q];simp)]at e;cases e)
  refine dD ((F _ hKb (nsK hns)).run _ [] _ H _ _ [.ref a] _ _ hr (⟨rfl,(⟨hKb,nsK hns,⟨mb,nsK hb,hbb⟩,let ⟨mc,h1,h2⟩:=hlim;⟨mc,nsK h1,h2⟩⟩),λb o e=>jEs e,dI (jty _ _),trivial,λb hb=>absurd (show b∈([])from hb) (by simp),hok,.of_eq hg⟩) (hbind _ _) (.cons rfl .nil) (hsp H hO hS)) λr s' h=>?_
  cases r with
  |error e=>exact(hCX H e s' h).elim
  |ok fl=>
   cases fl with
   |next=>exact False.elim h
   |brk=>exact False.elim h
   |cont=>exact False.elim h
   |ret u=>
    obtain⟨v,H',os,bare,un,hok',r',q⟩:=h;subst q;obtain rfl:u=Value.bool _:=r';refine⟨rfl,OldK.of_keep λb o e=>?_,os,bare⟩
    cases q:H b with
    |none=>exact un.keep b o e q (λz=>absurd (show b∈([])from z) (by simp)) (by simp)
    |some u=>
     rcases hO b with z|⟨ob,xs,z⟩
     .grind
     .obtain⟨e1,_⟩:=hok b _ z;obtain⟨e2,_⟩:=hok' b _ (un.frzs b ob _ z)
      grind
 cases hk:K.lookup a with
|some o=>have e:=KX a o hk;rw[ha]at e;cases e;refine core _ (λy=>.inl rfl) (.inr ⟨_,_,_,hk,rfl,rfl,rfl,by rw[zbx,hi.length];exact hl,by lia⟩) (λb u z=>by cases z) (λb z=>absurd rfl z) λz=>absurd rfl z
|none=>
  refine core (λb=>if b=a then some _ else none) (λb=>?_) (.inl (.inr ⟨{ cls:=.type "list",data:=.seq vs.toArray },aD rfl⟩)) (λb u z=>?_) (λb z=>?_) λy=>hk
  .grind
  .by_cases hb:b=a
   .cases ((aD hb).symm.trans z);subst hb;exact⟨ha,by grind,vs,_,rv,ha⟩
   .cases ((aJ hb).symm.trans z)
  grind
def walk_of{l:W.OpenLaw}{n k:Nat}{q:Program}{loose:Ab}{XP:(qc)->Heap->Prop}{YP:World->Heap->Prop}{d:DefRec}{K:Params->Af}{CX:World->CXT}{sp:World->Sp}{x:Str}
  (hn:l.most=some n) (hn2:n<=sizeLine) (hdf:d.params.defaults=[]) (hr:Room k callerA)
  (hY:∀(w:World)(h:Heap),YP w h->(K w.params).In h)
  (F:∀(w:World)(mg:qc)(fa:Addr)(h:Heap),(K w.params).In h->h.Ns mainGlobals mg->mg d.name=some (.ref fa) ->
   ∃fd:FuncData,(∀(s:Shared)(u:Value),BindsTo s fd ⟨[u],[]⟩ [(x,u)]) /\
    ∀base:Heap,(K w.params).In base->base.Ns mainGlobals mg->FnOk l.prog w (K w.params) mg base (CX w) k fa fd [x] (sp w))
  (hsp:∀(w:World)(H:Hp)(a:Addr)(ns:Ae),ns.length<=n->Only H->SqL (K w.params) H a (ns.map V.int)->sp w [.ref a] H (λv z=>v=.bl true) λz z z=>False)
  (hCX:∀(w:World)(H:Hp)(s:Shared)(e:Value)(s':Shared),CX w [] H s (λz z z=>False) e s'->False):
  W.WalkO q loose XP YP l.row.toRowW d [] (λf vs=>PySem.call f vs):=by
 refine Att.attach_call hn hdf λw s₀ s₁ mg mb fa o pm cd doc a vs ns G Yq ho hd hcd hmg hobj hints hlen hg=>?_
 have KX:=hY w _ Yq;obtain⟨fd,hb,hF⟩:=F w mg fa _ KX G.T.g hmg;exact jyj KX G.T.g G.T.b G.T.builtins G.T.nolimit hg hobj hints (zdz hlen hn2) hr hF hb (λH hO hS=>hsp w H a ns hlen hO hS) λH e s'=>hCX w H _ e s'
noncomputable def jbu(s:Stmt):Arguments:=match s with
 |.FunctionDef _ a _ _ _ _ _ _ _ _=>a
 |_=>{ posonlyargs:=[],args:=[],vararg:=none,kwonlyargs:=[],kw_defaults:=[],kwarg:=none,defaults:=[]}
noncomputable def jdj(s:Stmt):List Stmt:=match s with
 |.FunctionDef _ _ b _ _ _ _ _ _ _=>b
 |_=>[]
noncomputable def jat(s:Stmt):Scope:=match s with
 |.FunctionDef _ _ _ _ _ _ sc _ _ _=>sc
 |_=>{ kind:=.function,names:=[],isGenerator:=false,isCoroutine:=false }
abbrev E0:XK:=λ_ _ _=>False
structure Fun(K:Af)(x qual:Str)(st:Stmt)(f:Addr)(fd:FuncData):Prop where
 ex:∃(oc:Value) (od:Ag) (kV doc pm:Value) (an:Ag) (cdv ct:Value) (osl:qg),
  fd=W.fnOf x qual (jbu st) (jdj st) (jat st) .none kV doc pm an cdv ct/\K.lookup f=some ⟨oc,od,.func fd,osl⟩/\W.codeIn K cdv qual=true
 kp:W.keepIn K (.ref f)=true
section
variable {K:Af}
def Fun.binds{st:Stmt}(F:Fun K x qual st f fd)
  (h:∀(kV doc pm:Value)(an:Ag)(cdv ct:Value)(us:Ac),us.length=ps.length->bindArgs (W.fnOf x qual (jbu st) (jdj st) (jat st) .none kV doc pm an cdv ct) ⟨us,[]⟩=pure (ps.zip us)):Binds K fd ps []:=by obtain⟨oc,od,kV,doc,pm,an,cdv,ct,osl,rfl,lk,hcd⟩:=F.ex;exact .all (h kV doc pm an cdv ct)
def jJa{st:Stmt}{kV doc pm cdv ct:Value}(l:K.lookup f=some ⟨oc,od,.func (W.fnOf x qual (jbu st) (jdj st) (jat st) .none kV doc pm an cdv ct),osl⟩)
  (c:W.codeIn K cdv qual=true) (k:W.keepIn K (.ref f)=true):Fun K x qual st f (W.fnOf x qual (jbu st) (jdj st) (jat st) .none kV doc pm an cdv ct):=⟨⟨oc,od,kV,doc,pm,an,cdv,ct,osl,rfl,l,c⟩,k⟩
end
def iteF{A B:Prop}(h:B):if false=true then A else B:=h
def iteT{A B:Prop}(h:A):if true=true then A else B:=h
def Same(H H':Hp):Prop:=∀b o,H b=some o->H' b=some o
def Same.refl(H:Hp):Same H H:=λz z h=>h
section
variable {κ:Type}[DecidableEq κ]
noncomputable def valV(kvs:List (κ×V))(k:κ):Option V:=(kvs.find? λkv=>decide (kv.1=k)).map (·.2)
noncomputable def putK(kvs:List (κ×V))(k:κ)(v:V):List (κ×V):=
 if(kvs.any λkv=>decide (kv.1=k))=true then kvs.map (λkv=>if kv.1=k then(kv.1,v)else kv)else kvs++[(k,v)]
def jlz{k:κ}(e:p.1=k):valV (p::r) k=some p.2:=by simp[valV,e]
def jly{k:κ}(e:¬p.1=k):valV (p::r) k=valV r k:=by simp[valV,e]
theorem jrg(k:κ):∀kvs:List (κ×V),(kvs.any λkv=>decide (kv.1=k))=(valV kvs k).isSome
|[]=>rfl
|p::r=>by
  rw[dO]
  by_cases e:p.1=k
  .simp only[jlz e,aX e,Bool.true_or,Option.isSome_some]
  simp_all [jly,aN,Bool.false_or,jrg]
def jjh(kvs:List (κ×V))(k:κ)(v:V):(putK kvs k v).length<=kvs.length+1:=by grind[putK,List.length_map,List.length_append,List.length_cons,List.length_nil]
def RelO.isSome_eq(r:RelO o u):o.isSome=u.isSome:=by
 cases o with
 |none=>cases u with
  |none=>rfl
  |some _=>exact(r).elim
 |some _=>cases u with
  |none=>exact(r).elim
  |some _=>rfl
theorem RelO.getD(r:RelO o u)(rd:RelV d d'):RelV (o.getD d) (u.getD d'):=by
 cases o with
 |none=>cases u with
  |none=>exact rd
  |some _=>exact(r).elim
 |some _=>cases u with
  |none=>exact(r).elim
  |some _=>exact r
def KV.val(r:KV kvs vs)(k:κ):RelO (valV kvs k) (valueAt vs k):=by
 induction r with
 |nil=>exact True.intro
 |@cons p q ps qs h t ih=>
  obtain⟨h1,h2⟩:=h
  by_cases e:p.1=k
  .have b:valueAt (q::qs) k=some q.2:=by simp[valueAt,(h1.symm.trans e)]
   rw[jlz e,b];exact h2
  .have e':¬q.1=k:=λz=>e (h1.trans z)
   have b:valueAt (q::qs) k=valueAt qs k:=by simp[valueAt,e']
   rw[jly e,b];exact ih
def KV.any(r:KV kvs vs)(k:κ):(kvs.any λkv=>decide (kv.1=k))=vs.any λkv=>decide (kv.1=k):=by induction r<;>simp_all
def KV.repl(r:KV kvs vs)(k:κ)(ry:RelV y u):
  KV (kvs.map λkv=>if kv.1=k then(kv.1,y)else kv) (vs.map λkv=>if kv.1=k then(kv.1,u)else kv):=by
 induction r with
|nil=>exact .nil
|@cons p q ps qs h t ih=>
  rw[aE,aE];refine .cons ?_ ih;grind
def KV.put(r:KV kvs vs)(k:κ)(ry:RelV y u):KV (putK kvs k y) (stored vs k u):=by
 unfold putK stored;rw[r.any k]
 by_cases e:(vs.any λkv=>decide (kv.1=k))=true
 .rw[aD e,aD e];exact r.repl k ry
 .rw[aJ e,aJ e];exact Paired.snoc r ⟨rfl,ry⟩
theorem KV.length{kvs:List (κ×V)}{vs:List (κ×Value)}(r:KV kvs vs):kvs.length=vs.length:=Paired.length r
end
theorem jru(r:RelV (kV k) u):(jbm P w).is k u=true:=by
 cases k with
 |inl i=>obtain⟨t,e⟩:=(r);grind[jon]
 |inr x=>obtain⟨t,e⟩:=(r);grind[joo]
theorem jmw:∀{ks:List Key}{us:Ac},Vals (ks.map kV) us->ItemsAre (jbm P w) ks us
|[],_,r=>by cases r;exact .nil
|k::ks,_,r=>by
  cases r with
  |cons h t=>exact .cons (jru h) (jmw t)
abbrev KT(H:Hp):List (List Key×V)->List (List Key×Addr×Value)->Prop:=Paired λp q=>p.1=q.1/\H q.2.1=some (.tup (p.1.map kV))/\RelV p.2 q.2.2
def KT.val(r:KT H kvs xs)(k:List Key):RelO (valV kvs k) ((atKey xs k).map (·.2)):=by
 induction r with
 |nil=>exact True.intro
 |@cons p q ps qs h t ih=>
  obtain⟨h1,_,h2⟩:=h
  by_cases e:p.1=k
  .have b:atKey (q::qs) k=some q.2:=by simp[atKey,(h1.symm.trans e)]
   rw[jlz e,b];exact h2
  .have e':¬q.1=k:=λz=>e (h1.trans z)
   have b:atKey (q::qs) k=atKey qs k:=by simp[atKey,e']
   rw[jly e,b];exact ih
def KT.repl(r:KT H kvs xs)(k:List Key)(ry:RelV y u):
  KT H (kvs.map λkv=>if kv.1=k then(kv.1,y)else kv) (xs.map (putAt k u)):=by
 induction r with
|nil=>exact .nil
|@cons p q ps qs h t ih=>
  rw[aE,aE];refine .cons ?_ ih;obtain⟨h1,h2,h3⟩:=h;unfold putAt;grind
def KT.put(r:KT H kvs xs)(k:List Key)(hb:H b=some (.tup (k.map kV)))(ry:RelV y u):
  KT H (putK kvs k y) (storedH xs k b u):=by
 have e:(kvs.any λkv=>decide (kv.1=k))=(atKey xs k).isSome:=by rw[jrg,(r.val k).isSome_eq,Option.isSome_map]
 unfold putK storedH;rw[e]
 by_cases q:(atKey xs k).isSome=true
 .rw[aD q,aD q];exact r.repl k ry
 .rw[aJ q,aJ q];exact Paired.snoc r ⟨rfl,hb,ry⟩
def KT.keeps(r:KT H kvs xs)(ht:∀b ys,H b=some (.tup ys)->H' b=some (.tup ys)):KT H' kvs xs:=
 Paired.mapP r λy y z=>⟨z.1,ht _ _ z.2.1,z.2.2⟩
section
variable {P:Program}{w:World}{H:Hp}{h:Heap}{a:Addr}
def jLm(ok:HOk P w H h)(e:Rd H a u):ObjOk P w H h a u:=e.ok ok
def jtg(ok:HOk P w H h)(e:Rd H a (.dK kvs)):kvs.length<=sizeLine/\(a==sysModules)=false/\∃vs,KV kvs vs/\h.DictOf (jbm P w) a vs:=
 jLm ok e
def jOf(ok:HOk P w H h)(e:H a=some (.dK kvs)):kvs.length<=sizeLine/\(a==sysModules)=false/\∃vs,KV kvs vs/\h.DictOf (jbm P w) a vs:=jtg ok (.inl e)
def jmz(ok:HOk P w H h)(e:H a=some (.tup (ks.map kV))):(tupleKind (jbm P w)).is h ks a:=by
 obtain⟨_,its,r,o,h1,h2,n,h3⟩:=(ok a _ e)
 exact⟨o,_,n,h1,h2,h3,by simpa using jmw r⟩
def jti(ok:HOk P w H h)(e:Rd H a (.dT kvs)):kvs.length<=sizeLine/\(a==sysModules)=false /\
  ∃xs,KT H kvs xs/\h.DictOfH (tupleKind (jbm P w)) a xs:=by
 obtain⟨z,y,xs,r,o,es,ep,h1,h2,h3,h4,h5⟩:=(jLm ok e)
 refine⟨z,y,xs,r,o,es,ep,h1,h2,h3,h4,λx hx=>?_,h5⟩;have all:∀{l:List _}{m:List _},KT H l m->∀x∈m,(tupleKind (jbm P w)).is h x.1 x.2.1:=by
  intro l m q
  induction q with
  |nil=>grind
  |@cons p q ps qs hq t ih=>
   intro x hx;rcases aM.mp hx with e|hx
   .subst e;exact jmz ok (by grind)
   grind
 grind
def jOh(ok:HOk P w H h)(e:H a=some (.dT kvs)):kvs.length<=sizeLine/\(a==sysModules)=false /\
  ∃xs,KT H kvs xs/\h.DictOfH (tupleKind (jbm P w)) a xs:=jti ok (.inl e)
end
def DGet(H:Hp)(a:Addr)(y:V)(r:Option V):Prop:=
 (∃kvs k,Rd H a (.dK kvs)/\y=kV k/\r=valV kvs k)\/∃kvs k b,Rd H a (.dT kvs)/\y=.ref b/\H b=some (.tup (k.map kV))/\r=valV kvs k
def DPut(H:Hp)(a:Addr)(y v:V)(H':Hp):Prop:=
 (∃kvs k,H a=some (.dK kvs)/\y=kV k/\kvs.length<sizeLine/\H'=upd H a (.dK (putK kvs k v))) \/
 ∃kvs k b,H a=some (.dT kvs)/\y=.ref b/\H b=some (.tup (k.map kV))/\kvs.length<sizeLine/\H'=upd H a (.dT (putK kvs k v))
section
variable {X:Cx}{U:qd}{Z:St}{H:Hp}{s:Shared}{a:Addr}{y v:V}{u r:Value}{o:Option V}{A:Around}{E:qe}
def Inv.big(I:Inv X U Z H s):sysModules<s.heap.objs.size:=bC (by decide) ((I.mod.glob.keeps I.bk).lt)
def d_in{Q:qe}(hu:A.units+1<cLine)(I:Inv X U Z H s)(g:DGet H a y o)(ry:RelV y u)(h:∀s',Inv X U Z H s'->Q (.bool o.isSome) s'):
  wpAny (model X.prog X.w) A (compareOp .In u (.ref a)) Q E s:=by
 rcases g with ⟨kvs,k,e,ey,l⟩|⟨kvs,k,b,e,ey,eb,l⟩
 .subst ey;obtain⟨z,hd,vs,rel,dd⟩:=jtg I.hok e;refine wpAny_in_of (jru ry) hd dd.mapOf ?_;rw[<- (rel.val k).isSome_eq,<- l];exact h _ (I.tok _)
 .subst ey;cases (ry);obtain⟨z,hd,xs,rel,dd⟩:=jti I.hok e;refine wpAny_in_heap (eN hu) (jmz I.hok eb) hd dd ?_;have q:=(rel.val k).isSome_eq;rw[Option.isSome_map]at q;rw[<- q,<- l];exact h _ (I.tok _)
def jCz{Q:qe}(hu:A.units+1<cLine)(I:Inv X U Z H s)(g:DGet H a y o)(ry:RelV y u)(h:∀s',Inv X U Z H s'->Q (.bool (!o.isSome)) s'):
  wpAny (model X.prog X.w) A (compareOp .NotIn u (.ref a)) Q E s:=by
 rcases g with ⟨kvs,k,e,ey,l⟩|⟨kvs,k,b,e,ey,eb,l⟩
 .subst ey;obtain⟨z,hd,vs,rel,dd⟩:=jtg I.hok e;refine wpAny_notIn_of (jru ry) hd dd.mapOf ?_;rw[<- (rel.val k).isSome_eq,<- l];exact h _ (I.tok _)
 .subst ey;cases (ry);obtain⟨z,hd,xs,rel,dd⟩:=jti I.hok e;refine wpAny_notIn_heap (eN hu) (jmz I.hok eb) hd dd ?_;have q:=(rel.val k).isSome_eq;rw[Option.isSome_map]at q;rw[<- q,<- l];exact h _ (I.tok _)
def jtd(I:Inv X U Z H s)(mu:Mut (H a))(hs:Heap.SameBut a s.heap h')(he:∃q,h'.get? a=some q)(new:ObjOk X.prog X.w (upd H a ob) h' a ob):
  Inv X U Z (upd H a ob) { s with heap:=h',toks:=t' } :=
 I.write mu (.inl rfl) (λb q hb z=>(hs.2 b hb).trans z) he new
def jIe(z:kvs.length<=sizeLine)(hd:(a==sysModules)=false)(rel:KV kvs vs)(dd:h'.DictOf (jbm P w) a vs):
  ObjOk P w H' h' a (.dK kvs):=⟨z,hd,vs,rel,dd⟩
def jtc{H':Hp}{Q:Unit->Shared->Prop}(hu:A.units+1<cLine)(I:Inv X U Z H s)(g:DPut H a y v H')(ry:RelV y u)(rv:RelV v r)(h:∀s',Inv X U Z H' s'->Q () s'):
  wpAny (model X.prog X.w) A (setItem (.ref a) u r) Q E s:=by
 rcases g with ⟨kvs,k,e,ey,l,eH⟩|⟨kvs,k,b,e,ey,eb,l,eH⟩
 .subst ey eH;obtain⟨z,hd,vs,rel,dd⟩:=jOf I.hok e;exact wpAny_setItem_pairs (hsz:=(by rw[<- rel.length];exact z)) (jru ry) dd λh' dd' hs=>h _ (jtd I (by rw[e];exact True.intro) hs (let ⟨q,_,_,hq,_⟩:=dd';⟨q,hq⟩) (jIe (by have:=jjh kvs k v;lia) hd (rel.put k rv) dd'))
 .subst ey eH;cases (ry);obtain⟨z,hd,xs,rel,dd⟩:=jOh I.hok e;refine wpAny_setItem_heap (hsz:=(by rw[<- Paired.length rel];exact z)) (eN hu) (jmz I.hok eb) dd λh' dd' hs=>h _ ?_
  obtain⟨q,es,ep,hq,h2,h3,h4,_,h5⟩:=dd';refine jtd I (by rw[e];exact True.intro) hs ⟨q,hq⟩ ⟨(by have:=jjh kvs k v;lia),hd,_,(rel.put k eb rv).keeps λc ys ec=>?_,q,es,ep,hq,h2,h3,h4,h5⟩;rw[jae (jPk ec e (λz=>nomatch z))];exact ec
end
def tDIn(ty td:TE):TE:=λZ H Q=>ty Z H λy H1=>td Z H1 λx H2=>∃a o,x=.ref a/\DGet H2 a y o/\Q (.bl o.isSome) H2
def jHa(ty td:TE):TE:=λZ H Q=>ty Z H λy H1=>td Z H1 λx H2=>∃a o,x=.ref a/\DGet H2 a y o/\Q (.bl (!o.isSome)) H2
def jP3(td ty tv:TE):TS:=λD Z H=>tv Z H λv H1=>td Z H1 λx H2=>ty Z H2 λy H3=>∃a H4,x=.ref a/\DPut H3 a y v H4/\D.nx Z H4
section
variable {X:Cx}{o i value:Expr}{pos pos':Pos}{td ty tv:TE}
def jKm(hu:X.A.units+1<cLine)(hi:PE X i ty)(ho:PE X o td):PC X .In i o (tDIn ty td):=by
 intro U s Z H Q I h;refine thn (hi _ s Z H _ I h) λiv s1 ⟨y,H1,I1,ry,q1⟩=>thn (ho _ s1 Z H1 _ I1 q1) λu s2 hzz=>?_
 obtain⟨x,H2,I2,rx,a,ov,ex,g,q2⟩:=hzz;subst ex;obtain rfl:u=Value.ref a:=rx;exact d_in hu I2 g ry λs3 I3=>⟨.bl _,H2,I3,rfl,q2⟩
def ju9(hu:X.A.units+1<cLine)(hi:PE X i ty)(ho:PE X o td):PC X .NotIn i o (jHa ty td):=by
 intro U s Z H Q I h;refine thn (hi _ s Z H _ I h) λiv s1 ⟨y,H1,I1,ry,q1⟩=>thn (ho _ s1 Z H1 _ I1 q1) λu s2 hzz=>?_
 obtain⟨x,H2,I2,rx,a,ov,ex,g,q2⟩:=hzz;subst ex;obtain rfl:u=Value.ref a:=rx;exact jCz hu I2 g ry λs3 I3=>⟨.bl _,H2,I3,rfl,q2⟩
def jFf(hu:X.A.units+1<cLine)(ho:PE X o td)(hi:PE X i ty)(hv:PE X value tv)(hs:swapsWith value (some (.Subscript o i pos')) pos.line X.env=pure false):
  PS X (.Assign [.Subscript o i pos'] value pos) (jP3 td ty tv):=by intro U s Z H D I h;refine wpAny_Assign_Subscript (thn (hv _ s Z H _ I h) λr s1 ⟨v,H1,I1,rv,q1⟩=>thn (ho _ s1 Z H1 _ I1 q1) λu s2 ⟨x,H2,I2,rx,q2⟩=>thn (hi _ s2 Z H2 _ I2 q2) λiv s3 hzz=>?_) hs;obtain⟨y,H3,I3,ry,a,H4,ex,g,q3⟩:=hzz;subst ex;obtain rfl:u=Value.ref a:=rx;exact jtc hu I3 g ry rv λs4 I4=>⟨Z,H4,I4,q3⟩
end
def jxv(h:Heap)(hb:sysModules<h.objs.size):ObjOk P w H (h.push { cls:=.type "dict",data:=.dict #[]}) h.objs.size (.dK []):=
 ⟨aY _,aH.mpr (cE (zcw hb)),[],.nil,Heap.DictOf.new h⟩
def jNe:TE:=λz H Q=>∀p,H p=none->Q (.ref p) (upd H p (.dK []))
section
variable {X:Cx}{pos:Pos}
def jy0:PE X (.Dict [] [] pos) jNe:=λU s Z H Q I h =>
 wpAny_Dict_empty ⟨.ref _,_,I.laid (λz z q=>zaz _ q) (zac _) (jxv _ I.big),rfl,h _ (I.hok.fresh (zac _))⟩
end
structure M2(X:Cx)(o:Expr)(m:Str)(apos:Pos)(e f:Expr)(cpos:Pos):Prop where
 base:attributeBase o m X.env (eval o X.env)=eval o X.env
 few:((backTo cpos (starEach [e,f] X.env)).all (λx=>!x.1)&&(backToKw cpos (keywordEach [] X.env)).all (λx=>x.1.isSome)
  && decide (([e,f]:Ad).length+([]:Ai).length+(if([]:Ai).isEmpty then 0 else 1)<30))=true
 line:(apos.endLine==cpos.line)=true
 trees:backTo cpos (starEach [e,f] X.env)=[(false,eval e X.env),(false,eval f X.env)]
def IsD(H:Hp)(a:Addr):Prop:=(∃kvs,Rd H a (.dK kvs))\/∃kvs,Rd H a (.dT kvs)
def isD_at(I:Inv X U Z H s)(d:IsD H a):
  s.TypeIs (.ref a) "dict"/\(∀b,Value.ref a=.ref b->∃ob,s.heap.get? b=some ob/\ob.dict=none)/\(a==sysModules)=false:=by
 rcases d with ⟨kvs,e⟩|⟨kvs,e⟩
 .obtain⟨_,hd,vs,_,dd⟩:=jtg I.hok e;refine⟨dd.typeIs,λb q=>?_,hd⟩;cases q;obtain⟨ob,_,_,h1,h2,_⟩:=dd;exact⟨ob,h1,h2.2.1⟩
 .obtain⟨_,hd,xs,_,dd⟩:=jti I.hok e;refine⟨dd.typeIs,λb q=>?_,hd⟩;cases q;obtain⟨ob,_,_,h1,h2,_⟩:=dd;exact⟨ob,h1,h2.2.1⟩
section
variable {X:Cx}{U:qd}{Z:St}{H:Hp}{s:Shared}{a:Addr}{y d:V}{u r:Value}{o:Option V}{A:Around}{E:qe}
def jIc(hu:A.units+1<cLine)(I:Inv X U Z H s)(g:DGet H a y o)(ry:RelV y u)(rd:RelV d r)(h:∀w' s',Inv X U Z H s'->RelV (o.getD d) w'->Q w' s'):
  wpAny (model X.prog X.w) A (call (.builtin "dict.get") [.ref a,u,r]) Q E s:=by
 rcases g with ⟨kvs,k,e,ey,l⟩|⟨kvs,k,b,e,ey,eb,l⟩
 .subst ey;obtain⟨z,hd,vs,rel,dd⟩:=jtg I.hok e;refine call_meetsIn eW dd.typeIs PySem.F.entry_dict_get (gE _ _ _) (meets_dict_get_default _ a (jru ry) hd r) ⟨_,dd.mapOf,h _ _ (I.tok _) ?_⟩;rw[l];exact(rel.val k).getD rd
 .subst ey;cases (ry);obtain⟨z,hd,xs,rel,dd⟩:=jti I.hok e;refine call_meetsIn eW dd.typeIs PySem.F.entry_dict_get (gE _ _ _) (meetsH_dict_get_default _ a b hd r) ⟨eN hu,k,xs,jmz I.hok eb,dd,h _ _ (I.tok _) ?_⟩;rw[l];exact(rel.val k).getD rd
end
def jNd(td ty tx:TE):TE:=λZ H Q=>td Z H λx H1=>∃a,x=.ref a/\IsD H1 a/\ty Z H1 λy H2=>tx Z H2 λz H3=>∃o,DGet H3 a y o/\Q (o.getD z) H3
section
variable {X:Cx}{o e f:Expr}{apos cpos:Pos}{td ty tx:TE}
def jyz(hu:X.A.units+1<cLine)(ho:PE X o td)(he:PE X e ty)(hf:PE X f tx)(m:M2 X o "get" apos e f cpos):PE X (.Call (.Attribute o "get" apos) [e,f] [] cpos) (jNd td ty tx):=by
 intro U s Z H Q I h;refine wpAny_Call_method m.base m.few m.line PySem.F.plainAttrs_dict eW PySem.F.type_dict_get (thn (ho _ s Z H _ I h) λu s1 hzz=>?_);obtain⟨x,H1,I1,rx,a,ex,d,q1⟩:=hzz;subst ex;obtain rfl:u=Value.ref a:=rx;obtain⟨t1,t2,_⟩:=isD_at I1 d;refine⟨t1,t2,?_⟩;rw[m.trees];exact fM rfl (Calls.evalArgs_plain (gi (thn (he _ s1 Z H1 _ I1 q1) λiv s2 ⟨y,H2,I2,ry,q2⟩ =>
  gi (thn (hf _ s2 Z H2 _ I2 q2) λfv s3 ⟨z,H3,I3,rz,ov,g,q3⟩=>Calls.spliced_nil (jIc hu I3 g ry rz λw' s4 I4 rw'=>⟨_,H3,I4,rw',q3⟩)))))
end
noncomputable abbrev xOb(C:Addr)(od:Ag)(vs:Ah)(sl:qg):Obj:=⟨.ref C,od,.fields vs,sl⟩
def XO(a C:Addr)(od:Ag)(f:Bool):HO:=.ext λh=>∃vs sl,h.get? a=some (xOb C od vs sl)/\(f=true->vs[1]?=some .none)
inductive XDv(a:Addr)(fs:List (Str×V))(h:Heap):Prop
| mk (mA:qc) (hn:h.Ns1 a mA) (hr:∀f,RelO (fs.lookup f) (mA f)) (hw:PySem.Within mA (fs.map (·.1))) (hl:fs.length<=1000)
noncomputable def XDc(a:Addr)(fs:List (Str×V)):HO:=.ext (XDv a fs)
end L2
set_option maxHeartbeats 4000000
namespace SI
open L2
set_option genInjectivity true in
inductive D where
| non|bl (b:Bool)|int (i:Int)|str (x:Str)|ty (n:String)|obj (i:Nat)
set_option genInjectivity true in
inductive SO where
| lst (ds:List D)|fro (ds:List D)|tup (ds:List D)|ins (c:Str) (fs:List (Str×D))|dK (kvs:List (Key×D))|exc (c:Str) (j:Option Nat) (f:Bool)|xd (fs:List (Str×D))
abbrev Sto:=List SO
abbrev MS(α:Type):=Sto->Option (Except D α×Sto)
abbrev DSt:=List (Option D)
abbrev Rho:=Ak
noncomputable def MS.b(m:MS α)(f:α->MS β):MS β:=λA=>match m A with
 |none=>none
 |some (.error x,A')=>some (.error x,A')
 |some (.ok a,A')=>f a A'
noncomputable def MS.p(a:α):MS α:=λA=>some (.ok a,A)
noncomputable def MS.o(m:Option α):MS α:=λA=>m.map λa=>(.ok a,A)
inductive MS.BInv(m:MS α)(f:α->MS β)(A:Sto)(q:Except D β×Sto):Prop
| ok (a:α) (A1:Sto) (h1:m A=some (.ok a,A1)) (h2:f a A1=some q)
| err (x:D) (A1:Sto) (h1:m A=some (.error x,A1)) (h2:q=(.error x,A1))
def MS.b_inv(h:m.b f A=some q):MS.BInv m f A q:=by
 unfold MS.b at h
 cases e:m A with
 |none=>simp_all
 |some p=>
  rw[e]at h;obtain⟨r,A1⟩:=p
  cases r with
  |error x=>cases h;exact .err x _ e rfl
  |ok a=>exact .ok a A1 e h
def MS.o_inv(h:MS.o m A=some q):∃a,m=some a/\q=(.ok a,A):=by unfold MS.o at h;cases m<;>simp_all
def RV(J:Rho):D->V->Prop
|.non,v=>v=.non
|.bl b,v=>v=.bl b
|.int i,v=>v=.int i
|.str x,v=>v=.str x
|.ty n,v=>v=.ty n
|.obj i,v=>∃a,J[i]?=some a/\v=.ref a
def RV.mono(l:J<+:J')(h:RV J d v):RV J' d v:=by
 cases d with
 |obj i=>obtain⟨a,e,r⟩:=h;obtain⟨t,rfl⟩:=l;exact⟨a,by grind,r⟩
 |_=>exact h
abbrev Fp{κ:Type}(J:Rho):=Paired λ(p:κ×D) (q:κ×V)=>p.1=q.1/\RV J p.2 q.2
def Fp.mono(l:J<+:J')(h:Fp J fs vs):Fp J' fs vs:=Paired.mapP h λy y z=>⟨z.1,z.2.mono l⟩
def At(mg:qc)(J:Rho)(H:Hp)(a:Addr):SO->Prop
|.lst ds=>∃xs,H a=some (.lst xs)/\Paired (RV J) ds xs
|.fro ds=>∃xs,Rd H a (.lst xs)/\Paired (RV J) ds xs
|.tup ds=>∃xs,H a=some (.tup xs)/\Paired (RV J) ds xs
|.ins c fs=>∃C dx vs,mg c=some (.ref C)/\H a=some (.ins C dx vs)/\Fp J fs vs
|.dK kvs=>∃vs,H a=some (.dK vs)/\Fp J kvs vs
|.exc c j f=>∃C od,mg c=some (.ref C)/\H a=some (XO a C od f)/\match j with
  |none=>od=none
  |some j=>∃dx,J[j]?=some dx/\od=some dx
|.xd fs=>∃vs,H a=some (XDc a vs)/\Fp J fs vs
theorem At.mono{mg:qc}{J J':Rho}{H H':Hp}{a:Addr}{o:SO}(l:J<+:J')(e:H' a=H a)(h:At mg J H a o):At mg J' H' a o:=by
 cases o with
 |lst ds=>obtain⟨xs,p,q⟩:=h;exact⟨xs,e.trans p,Paired.mapP q λz z=>RV.mono l⟩
 |fro ds=>obtain⟨xs,p,q⟩:=h;exact⟨xs,by grind[Rd],Paired.mapP q λz z=>RV.mono l⟩
 |tup ds=>obtain⟨xs,p,q⟩:=h;exact⟨xs,e.trans p,Paired.mapP q λz z=>RV.mono l⟩
 |ins c fs=>obtain⟨C,dx,vs,m,p,q⟩:=h;exact⟨C,dx,vs,m,e.trans p,q.mono l⟩
 |dK kvs=>obtain⟨vs,p,q⟩:=h;exact⟨vs,e.trans p,q.mono l⟩
 |xd kvs=>obtain⟨vs,p,q⟩:=h;exact⟨vs,e.trans p,q.mono l⟩
 |exc c j f=>
  obtain⟨C,od,m,p,q⟩:=h;refine⟨C,od,m,e.trans p,?_⟩
  cases j with
  |none=>exact q
  |some j=>obtain⟨dx,q1,q2⟩:=q;obtain⟨t,rfl⟩:=l;grind
def At.some(h:At mg J H a o):H a≠none:=by cases o<;>grind[At,Rd]
structure R(mg:qc)(J:Rho)(A:Sto)(H:Hp):Prop where
 len:J.length=A.length
 nd:J.Nodup
 ats:∀(i:Nat) a o,J[i]?=some a->A[i]?=some o->At mg J H a o
variable {mg:qc}{J J':Rho}{A:Sto}{H H':Hp}
def R.nn(h:R mg J A H)(m:a∈J):H a≠none:=by obtain⟨i,hi,e⟩:=List.getElem_of_mem m;have hl:=h.len ▸ hi;exact(h.ats i a _ (by simp_all) (zax hl)).some
def R.new(h:R mg J A H)(hp:H p=none)(n:At mg (J++[p]) (upd H p u) p o):R mg (J++[p]) (A++[o]) (upd H p u) where
 len:=by simp[h.len]
 nd:=by refine List.nodup_append.mpr ⟨h.nd,by simp,λa ha b hb=>?_⟩;cases zdx.mp hb;rintro rfl;exact h.nn ha hp
 ats:=λi a q e1 e2=>by
  by_cases hi:i<J.length
  .rw[aS hi]at e1;rw[aS (h.len ▸ hi)]at e2;exact(h.ats i a q e1 e2).mono (aA ..) (jae λz=>by subst z;exact h.nn (dE e1) hp)
  .have:i=J.length:=by have:=(zbb.mp e1).1;simp at this;lia
   subst this;rw[aL (zac _),cF]at e1;rw[h.len,aL (zac _),cF]at e2;simp_all
def R.put(h:R mg J A H)(hi:J[i]?=some a)(n:At mg J (upd H a u) a o):R mg J (A.set i o) (upd H a u) where
 len:=by simp[h.len]
 nd:=h.nd
 ats:=λj c q e1 e2=>by
  by_cases hj:i=j
  .grind
  .rw[zbw hj]at e2;refine(h.ats j c q e1 e2).mono (aF _) (jae λz=>hj ?_);subst z;exact(List.getElem?_inj (zbb.mp hi).1 h.nd).mp (hi.trans e1.symm)
structure Lo(J:Rho)(Y:DSt)(Z:St):Prop where
 len:Z.length=Y.length
 val:∀(i:Nat) d,Y[i]?=some (some d)->∃v,Z[i]?=some (some v)/\RV J d v
def Lo.mono(l:J<+:J')(h:Lo J Y Z):Lo J' Y Z:=⟨h.len,λi d e=>let ⟨v,e1,r⟩:=h.val i d e;⟨v,e1,r.mono l⟩⟩
def kS{α β:Type}(Rel:Rho->α->β->Prop)(mg:qc)(Er:Rho->Sto->Hp->D->Prop)(J:Rho)(Q:β->Hp->Prop):Except D α×Sto->Prop
| (.ok d,A')=>∀v J' H',J<+:J'->R mg J' A' H'->Rel J' d v->Q v H'
| (.error x,A')=>∀J' H',J<+:J'->R mg J' A' H'->Er J' A' H' x
inductive tS{α β:Type}(Rel:Rho->α->β->Prop)(mg:qc)(Er:Rho->Sto->Hp->D->Prop)(f:DSt->MS α)(Z:St)(H:Hp)(Q:β->Hp->Prop):Prop
| mk (J:Rho) (Y:DSt) (A:Sto) (h:R mg J A H) (l:Lo J Y Z) (q:Except D α×Sto) (hf:f Y A=some q) (k:kS Rel mg Er J Q q)
abbrev Err:=Rho->Sto->Hp->D->Prop
def SE(X:Cx)(Er:Err)(e:Expr)(f:DSt->MS D):Prop:=PE X e (tS RV X.mg Er f)
def SA(X:Cx)(Er:Err)(es:Ad)(f:DSt->MS (List D)):Prop:=PA X es (tS (λJ=>Paired (RV J)) X.mg Er f)
def ST(X:Cx)(Er:Err)(e:Expr)(f:DSt->MS Bool):Prop:=PT X e (tS (λz a b=>b=a) X.mg Er f)
section
variable {α β γ Y':Type}{Rel:Rho->α->β->Prop}{Rel':Rho->γ->Y'->Prop}{Er:Err}{Z:St}{Q:β->Hp->Prop}{Q':Y'->Hp->Prop}{fo:DSt->MS α}{g:α->MS γ}{q:Except D γ×Sto}{Y:DSt}
def kS.up(k:kS Rel mg Er J Q r)(l:J<+:J'):kS Rel mg Er J' Q r:=by
 obtain⟨r,A'⟩:=r
 cases r with
 |ok d=>exactλv ρ2 H2 l2=>k v ρ2 H2 (l.trans l2)
 |error x=>exactλρ2 H2 l2=>k ρ2 H2 (l.trans l2)
def bS(h:R mg J A H)(l:Lo J Y Z)(hf:(fo Y).b g A=some q)(k:kS Rel' mg Er J Q' q)
  (c:∀d A1,g d A1=some q->∀v J' H',R mg J' A1 H'->Lo J' Y Z->Rel J' d v->kS Rel' mg Er J' Q' q->J<+:J'->Q v H'):tS Rel mg Er fo Z H Q:=by
 rcases MS.b_inv hf with ⟨d,A1,e1,hg⟩|⟨x,A1,e1,rfl⟩
 .exact⟨J,Y,A,h,l,_,e1,λv J' H' l' h' r=>c d A1 hg v J' H' h' (l.mono l') r (k.up l') l'⟩
 .exact⟨J,Y,A,h,l,_,e1,k⟩
end
def sgo{α β:Type}{X:Cx}{Er:Err}{Rel:Rho->α->β->Prop}{f:DSt->MS α}{W:qd->Shared->St->Hp->(β->Hp->Prop)->Prop}{t:St->Hp->(β->Hp->Prop)->Prop}(pe:∀U s Z H Q,Inv X U Z H s->t Z H Q->W U s Z H Q)(k:∀{Z H Q J Y A},R mg J A H->Lo J Y Z->∀q,f Y A=some q->kS Rel mg Er J Q q->t Z H Q):∀U s Z H Q,Inv X U Z H s->tS Rel mg Er f Z H Q->W U s Z H Q:=
 λU s Z H Q I ⟨_,_,_,h,l,q,hf,z⟩=>pe U s Z H Q I (k h l q hf z)
section
variable {X:Cx}{Er:Err}{a b e:Expr}{es:Ad}{fa fb:DSt->MS D}{fl:DSt->MS (List D)}{pos:Pos}
def sVar(i:Nat):DSt->MS D:=λY=>MS.o (Y[i]?).join
def sC(d:D):DSt->MS D:=λz=>MS.p d
def s2(g:D->D->MS D)(fa fb:DSt->MS D):DSt->MS D:=λY=>(fa Y).b λx=>(fb Y).b λy=>g x y
def sL(g:List D->MS D)(fl:DSt->MS (List D)):DSt->MS D:=λY=>(fl Y).b λxs=>g xs
def sNil:DSt->MS (List D):=λz=>MS.p []
def jar(fa:DSt->MS D)(fl:DSt->MS (List D)):DSt->MS (List D):=λY=>(fa Y).b λx=>(fl Y).b λxs=>MS.p (x::xs)
def jq4(hN:X.N[i]?=some x)(hv:Vis X.env.scope x)(hd:Aq x)(hcd:(x==("__classdict__":Str))=false):SE X Er (.Name x pos) (sVar i):=by rintro U s Z H Q I ⟨J,Y,A,h,l,q,hf,k⟩;obtain⟨d,e,rfl⟩:=MS.o_inv hf;obtain⟨v,e1,r⟩:=l.val i d (by clear hf hN;grind);exact jBp hN hv hd hcd _ s Z H Q I ⟨v,e1,k v J H (aF _) h r⟩
def se_c(h:PE X e (tC v))(r:∀J,RV J d v):SE X Er e (sC d):=by rintro U s Z H Q I ⟨J,Y,A,h',l,q,hf,k⟩;cases hf;exact h _ s Z H Q I (k v J H (aF _) h' (r J))
def jvy:SA X Er [] sNil:=by rintro p U s Z H Q I ⟨J,Y,A,h,l,q,hf,k⟩;cases hf;exact jks p _ s Z H Q I (k [] J H (aF _) h .nil)
def jo2(ha:SE X Er e fa)(hr:SA X Er es fl)(hs:zsE e es X.env):SA X Er (e::es) (jar fa fl):=by rintro p U s Z H Q I ⟨J,Y,A,h,l,q,hf,k⟩;refine jgr ha hr hs p _ s Z H Q I (bS h l hf k λx A1 hf u ρ1 H1 h l r1 k l1=>bS h l hf k λxs A2 hf us ρ2 H2 h l r2 k l2=>?_);cases hf;exact k _ _ _ (aF _) h (.cons (r1.mono l2) r2)
def OpS(mg:qc)(g:D->D->MS D)(r:R2):Prop:=∀{x y A q J H u v Er Q},g x y A=some q->R mg J A H->RV J x u->RV J y v->kS RV mg Er J Q q->r u v H Q
def jF7(ho:OpR X (binaryOp op) r)(hg:OpS X.mg g r)(ha:SE X Er a fa)(hb:SE X Er b fb):SE X Er (.BinOp a op b pos) (s2 g fa fb):=by exact sgo (jPs ho ha hb) λh l q hf k=>bS h l hf k λx A1 hf u ρ1 H1 h l r1 k l1=>bS h l hf k λy A2 hf v ρ2 H2 h l r2 k l2=>hg hf h (r1.mono l2) r2 k
def jP6(ho:IxR X r)(hg:OpS X.mg g r)(ha:SE X Er a fa)(hb:SE X Er b fb)(hs:jns b):SE X Er (.Subscript a b pos) (s2 g fa fb):=by exact sgo (jPr ho ha hb hs) λh l q hf k=>bS h l hf k λx A1 hf u ρ1 H1 h l r1 k l1=>bS h l hf k λy A2 hf v ρ2 H2 h l r2 k l2=>hg hf h (r1.mono l2) r2 k
noncomputable def gNew(f:List D->SO):List D->MS D:=λxs A=>if xs.length<=sizeLine then some (.ok (.obj A.length),A++[f xs])else none
def newO(h:R mg J A H)(hp:H p=none)(n:At mg (J++[p]) (upd H p u) p o)(k:kS RV mg Er J Q (.ok (.obj A.length),A++[o])):Q (.ref p) (upd H p u):=
 k _ _ _ (aA ..) (h.new hp n) ⟨p,by rw[<- h.len];simp,rfl⟩
def jq2(ha:SA X Er es fl):SE X Er (.List es pos) (sL (gNew .lst) fl):=by
 refine sgo (jKt ha) λh l q hf k=>bS h l hf k λxs A1 hf us ρ1 H1 h l r1 k l1=>?_
 unfold gNew at hf
 split at hf
 .rename_i hz;cases hf;exact⟨by rw[<- r1.length];exact hz,λp hp=>newO (o:=.lst xs) h hp ⟨us,jad,Paired.mapP r1 λ_ _=>RV.mono (aA ..)⟩ k⟩
 .cases hf
def jL8(ha:SA X Er es fl):SE X Er (.Tuple es x1 pos) (sL (gNew .tup) fl):=by
 refine sgo (jKy ha) λh l q hf k=>bS h l hf k λxs A1 hf us ρ1 H1 h l r1 k l1=>?_
 unfold gNew at hf
 split at hf
 .rename_i hz;cases hf;exact⟨by rw[<- r1.length];exact hz,λp hp=>newO (o:=.tup xs) h hp ⟨us,jad,Paired.mapP r1 λ_ _=>RV.mono (aA ..)⟩ k⟩
 .cases hf
def CaS(mg:qc)(g:List D->MS D)(r:List V->Hp->VK->Prop):Prop:=∀{xs A q J H us Er Q},g xs A=some q->R mg J A H->Paired (RV J) xs us->kS RV mg Er J Q q->r us H Q
def jzr{id:String}(hc:CallR X (.builtin id) r)(hg:CaS X.mg g r)(hG:Gl X x)(hm:X.mg x=none)(hv:bootBuiltins x=some (.builtin id))(ha:SA X Er (e::es) fl)(hn:x≠"__name__")(hdb:Aq x)
  (he:zsE e es X.env) (hpl:zbT pos es X.env):SE X Er (.Call (.Name x p) (e::es) [] pos) (sL g fl):=by exact sgo (jll hc hG hm hv ha hn hdb he hpl) λh l q hf k=>bS h l hf k λxs A1 hf us ρ1 H1 h l r1 k l1=>hg hf h r1 k
set_option genInjectivity true in
inductive Out where
| nx (Y:DSt)|rt (d:D)|bk (Y:DSt)|ct (Y:DSt)
def kO(mg:qc)(Er:Err)(J:Rho)(Dn:Ends):Except D Out×Sto->Prop
| (.ok (.nx Y),A)=>∀Z J' H',J<+:J'->R mg J' A H'->Lo J' Y Z->Dn.nx Z H'
| (.ok (.rt d),A)=>∀v J' H',J<+:J'->R mg J' A H'->RV J' d v->Dn.rt v H'
| (.ok (.bk Y),A)=>∀Z J' H',J<+:J'->R mg J' A H'->Lo J' Y Z->Dn.bk Z H'
| (.ok (.ct Y),A)=>∀Z J' H',J<+:J'->R mg J' A H'->Lo J' Y Z->Dn.ct Z H'
|(.error x,A)=>∀J' H',J<+:J'->R mg J' A H'->Er J' A H' x
inductive tO(mg:qc)(Er:Err)(g:DSt->MS Out)(Dn:Ends)(Z:St)(H:Hp):Prop
| mk (J:Rho) (Y:DSt) (A:Sto) (h:R mg J A H) (l:Lo J Y Z) (q:Except D Out×Sto) (hf:g Y A=some q) (k:kO mg Er J Dn q)
def kO.up(k:kO mg Er J Dn q)(l:J<+:J'):kO mg Er J' Dn q:=by
 obtain⟨r,A'⟩:=q
 cases r with
 |error x=>exactλρ2 H2 l2=>k ρ2 H2 (l.trans l2)
 |ok o=>cases o<;>exactλv ρ2 H2 l2=>k v ρ2 H2 (l.trans l2)
def sgO{X:Cx}{Er:Err}{g:DSt->MS Out}{W:qd->Shared->St->Hp->Ends->Prop}{t:Ends->St->Hp->Prop}(pe:∀U s Z H D,Inv X U Z H s->t D Z H->W U s Z H D)(k:∀{Z H Dn J Y A},R mg J A H->Lo J Y Z->∀q,g Y A=some q->kO mg Er J Dn q->t Dn Z H):∀U s Z H D,Inv X U Z H s->tO mg Er g D Z H->W U s Z H D:=
 λU s Z H D I ⟨_,_,_,h,l,q,hf,z⟩=>pe U s Z H D I (k h l q hf z)
def SS(X:Cx)(Er:Err)(st:Stmt)(g:DSt->MS Out):Prop:=PS X st (tO X.mg Er g)
def SSs(X:Cx)(Er:Err)(st:List Stmt)(g:DSt->MS Out):Prop:=PSs X st (tO X.mg Er g)
def bO{α β:Type}{Rel:Rho->α->β->Prop}{Z:St}{Y:DSt}{Q:β->Hp->Prop}{Dn:Ends}{fo:DSt->MS α}{g:α->MS Out}{q:Except D Out×Sto}(h:R mg J A H)(l:Lo J Y Z)(hf:(fo Y).b g A=some q)(k:kO mg Er J Dn q)
  (c:∀d A1,g d A1=some q->∀v J' H',R mg J' A1 H'->Lo J' Y Z->Rel J' d v->kO mg Er J' Dn q->J<+:J'->Q v H'):tS Rel mg Er fo Z H Q:=by
 rcases MS.b_inv hf with ⟨d,A1,e1,hg⟩|⟨x,A1,e1,rfl⟩
 .exact⟨J,Y,A,h,l,_,e1,λv J' H' l' h' r=>c d A1 hg v J' H' h' (l.mono l') r (k.up l') l'⟩
 .exact⟨J,Y,A,h,l,_,e1,k⟩
def oSet(i:Nat)(fa:DSt->MS D):DSt->MS Out:=λY=>(fa Y).b λd=>MS.p (.nx (Y.set i (some d)))
def oRet(fa:DSt->MS D):DSt->MS Out:=λY=>(fa Y).b λd=>MS.p (.rt d)
def oIf(tc:DSt->MS Bool)(g h:DSt->MS Out):DSt->MS Out:=λY=>(tc Y).b λc=>if c=true then g Y else h Y
def oSeq(g h:DSt->MS Out):DSt->MS Out:=λY=>(g Y).b λo=>match o with
 |.nx Y'=>h Y'
 |o=>MS.p o
def Lo.set(h:Lo J Y Z)(r:RV J d v):Lo J (Y.set i (some d)) (Z.set i (some v)) where
 len:=by simp[h.len]
 val:=λj d' e=>by
  by_cases hj:i=j
  .subst hj;have hi:=by have:=(zbb.mp e).1;simpa using this
   rw[zcz hi]at e;cases e
   exact⟨v,zcz (h.len ▸ hi),r⟩
  .rw[zbw hj]at e |-;exact h.val j d' e
def jq8(hN:X.N.Nodup)(he:SE X Er e fa)(hi:X.N[i]?=some x)(hx:Loc X.env.scope x)(hs:swapsWith e (some (.Name x pos')) pos.line X.env=pure false)(hf:An X x):SS X Er (.Assign [.Name x pos'] e pos) (oSet i fa):=by
 refine sgO (jBr hN hi hx he hs hf) λh l q hg k=>bO h l hg k λd A1 hg v ρ1 H1 h l r k z=>?_
 cases hg;exact k _ _ _ (aF _) h (l.set r)
def jwf(he:SE X Er e fa):SS X Er (.Return (some e) pos) (oRet fa):=by
 refine sgO (jK9 he) λh l q hg k=>bO h l hg k λd A1 hg v ρ1 H1 h l r k z=>?_
 cases hg;exact k _ _ _ (aF _) h r
def jMs{s1 s2:List Stmt}(hc:ST X Er e tc)(h1:SSs X Er s1 g1)(h2:SSs X Er s2 g2):SS X Er (.If e s1 s2 pos) (oIf tc g1 g2):=by
 refine sgO (jPv hc h1 h2) λh l q hg k=>bO h l hg k λc A1 hg v ρ1 H1 h l r k z=>?_
 subst r;cases v
 .exact iteF ⟨ρ1,_,A1,h,l,q,hg,k⟩
 .exact iteT ⟨ρ1,_,A1,h,l,q,hg,k⟩
def jq9{rest:List Stmt}(h1:SS X Er st g1)(h2:SSs X Er rest g2):SSs X Er (st::rest) (oSeq g1 g2):=by
 rintro U s Z H Dn I ⟨J,Y,A,h,l,q,hg,k⟩;refine jzc h1 h2 _ s Z H Dn I ?_;rcases MS.b_inv hg with ⟨o,A1,e1,hg⟩|⟨x,A1,e1,rfl⟩
 .refine⟨J,Y,A,h,l,_,e1,?_⟩
  cases o with
  |nx Y'=>exactλZ J' H' l' h' lo=>⟨J',Y',A1,h',lo,q,hg,k.up l'⟩
  |_=>cases hg;exact k
 .exact⟨J,Y,A,h,l,_,e1,k⟩
end
end SI
namespace L2
open PyProof.Rows
def ffk:(NameKind.free==NameKind.free)=true:=by decide
noncomputable def clOf(cells:List (Str×Addr)):List (Str×NameKind)->List (Str×Addr)->List (Str×Addr)
|[],acc=>acc
|(n,k)::r,acc=>clOf cells r (if k == .free then(n,(cells.lookup n).getD 0)::acc else acc)
theorem jta:∀(ns:List (Str×NameKind)) (acc:List (Str×Addr)),(∀p∈ns,p.2=.free->∃c,env.cells.lookup p.1=some c) ->
  (forIn ns acc λp cs=>(if p.2==NameKind.free then(do let a <- cellOf env p.1;pure (ForInStep.yield ((p.1,a)::cs)))else pure (ForInStep.yield cs):Sem (ForInStep (List (Str×Addr)))))=pure (clOf env.cells ns acc)
|[],acc,_=>by rfl
|(n,k)::r,acc,h=>by
  rw[List.forIn_cons]
  by_cases hk:k=.free
  .subst hk;obtain⟨c,hc⟩:=h _ zaa rfl;have e1:cellOf env n=pure c:=by unfold cellOf;rw[hc]
   rw[e1];show(forIn r _ _:Sem _)=_;rw[jta r _ λp hp=>h p (zaw _ hp)];show _=pure (clOf _ r _);rw[aD ffk,hc];rfl
  .have e2:(k==NameKind.free)=false:=by simpa using hk
   rw[aJ (by rw[e2];decide)];show(forIn r acc _:Sem _)=_;rw[jta r _ λp hp=>h p (zaw _ hp)];show _=pure (clOf _ r _);rw[aJ (by rw[e2];decide)]
def jrn(h:∀p∈scope.names,p.2=.free->∃c,env.cells.lookup p.1=some c):closureFor scope env=pure (clOf env.cells scope.names []):=by show(forIn _ _ _ >>= λr=>pure r)=_;exact(by rw[(jta _ [] h)];rfl)
theorem jpr:∀(ns:List (Str×NameKind)) (acc:List (Str×Addr)),(clOf cells ns acc).lookup x=some c->acc.lookup x=some c\/((x,NameKind.free)∈ns/\c=(cells.lookup x).getD 0)
|[],acc,h=>.inl h
|(n,k)::r,acc,h=>by
  rcases jpr r _ h with e|⟨e1,e2⟩
  .by_cases hk:k=.free
   .subst hk;rw[aD ffk,aZ]at e
    cases hx:x==n with
    |true=>
     rw[hx]at e;have:=by simpa using hx
     subst this;exact .inr ⟨zaa,(zby e).symm⟩
    |false=>rw[hx]at e;exact .inl e
   .rw[aJ (by simpa using hk)]at e;exact .inl e
  .exact .inr ⟨zaw _ e1,e2⟩
theorem jpq:∀(ns:List (Str×NameKind)) (acc:List (Str×Addr)),acc.lookup x=some ((cells.lookup x).getD 0)->(clOf cells ns acc).lookup x=some ((cells.lookup x).getD 0)
|[],acc,h=>h
|(n,k)::r,acc,h=>by
  refine jpq r _ ?_
  by_cases hk:k=.free
  .subst hk;rw[aD ffk,aZ]
   cases hx:x==n with
   |true=>
    have:=by simpa using hx
    subst this;rfl
   |false=>exact h
  .rw[aJ (by simpa using hk)];exact h
theorem jk2:∀(ns:List (Str×NameKind)) (acc:List (Str×Addr)),(x,NameKind.free)∈ns->(clOf cells ns acc).lookup x=some ((cells.lookup x).getD 0)
|[],acc,h=>by cases h
|(n,k)::r,acc,h=>by
  rcases aM.mp h with e|e
  .cases e;refine jpq r _ ?_;simp
  .exact jk2 r _ e
def jbd(X:Cx)(scope:Scope)(N:Ab)(C:Addr)(s0:Shared)(H0:Hp)(ex:Ak):Cx where
 prog:=X.prog
 w:=X.w
 K:=X.K
 mg:=X.mg
 base:=X.base
 A:=X.A
 N:=N
 s₀:=s0
 Hz:=H0
 env:=compEnvC scope (clOf X.env.cells scope.names []) C X.env
 outer:=X.stack
 stack:=X.stack
 ex:=ex
 fn:=λz=>false
 calm:=X.calm
 pn:=[]
 xe:=λz z=>False
abbrev As(X:Cx)(scope:Scope)(own:List Str)(caps:List (Str×Nat)):=jbd X scope (own++caps.map (·.1))
noncomputable def jpm(N:Ab)(out:List (Str×NameKind))(inn:List (Str×NameKind))(caps:qh):Bool:=
 inn.all (λp=>p.2 != .cell)&&inn.all (λp=>p.2 != .local || inn.lookup p.1==some .local) &&
 inn.all (λp=>p.2 != .free || (out.lookup p.1==some .cell || out.lookup p.1==some .free)) &&
 caps.all (λp=>N[p.2]? == some p.1&&inn.lookup p.1==some .free)
structure CapsOk(X:Cx)(scope:Scope)(caps:qh):Prop where
 kind:scope.kind=.function
 nocell:∀x∈scope.names,x.2≠.cell
 loc:∀x∈scope.names,x.2=.local->scope.names.lookup x.1=some .local
 fre:∀p∈scope.names,p.2=.free->X.env.kindOf p.1=some .cell\/X.env.kindOf p.1=some .free
 cap:∀p∈caps,X.N[p.2]?=some p.1/\scope.names.lookup p.1=some .free
def jnu(hN:X.N=N)(ho:X.env.scope=osc)(hk:scope.kind=.function)(h:jpm N osc.names scope.names caps=true):CapsOk X scope caps:=by
 unfold jpm at h;simp only[aC,aQ]at h;obtain⟨⟨⟨h1,h2⟩,h3⟩,h4⟩:=h;refine⟨hk,λx hx=>by grind,λx hx hl=>?_,λp hp hf=>?_,λp hp=>?_⟩
 .grind
 .have:=h3 p hp;rw[hf]at this;show X.env.scope.names.lookup p.1=_\/X.env.scope.names.lookup p.1=_
  grind
 grind
noncomputable def jdy(own:Nat)(caps:qh)(Z:St):St:=List.replicate own none++caps.map λp=>(Z[p.2]?).join
def jwr(own:Nat)(caps:qh)(wi:TI)(g:TG)(tc:TT)(te:TE):TE:=λZ H Q=>wi Z H λJq H1=>∀D,H1 D=none ->
 ∃W:Nat->Nat->St->Hp->Prop,(∃m,W 0 m (jdy own caps Z) (upd H1 D (.lst [])))/\∀i m Z' H',W i m Z' H' ->
  (Jq.stop i H'/\Q (.ref D) H')\/(Jq.go i H'/\∃N:St->Hp->Prop,(∀Z2 H2,N Z2 H2->∃m',m'<m/\W (i+1) m' Z2 H2) /\
   ∀x H2,Jq.yld i H' x H2->g x Z' H2 λZ3 H3=>tc Z3 H3 λb H4=>if b=true then te Z3 H4 λv H5=>∃ys,H5 D=some (.lst ys)/\ys.length<sizeLine/\N Z3 (upd H5 D (.lst (ys++[v])))else N Z3 H4)
theorem je2{scope:Scope}{env:Env}{x:Str}{k:NameKind}:∀{ns:List (Str×NameKind)},(ns.map λ(n,k)=>if(k==NameKind.free&&env.scope.kind == .function&&env.kindOf n==some .cell)then(n,NameKind.cell)else(n,k)).lookup x=some k ->
  ∃k',ns.lookup x=some k'/\(k=k'\/(k'=.free/\k=.cell))
|[],h=>by simp at h
|(n,k0)::r,h=>by
  rw[aE]at h
  by_cases hc:(k0==NameKind.free&&env.scope.kind == .function&&env.kindOf n==some .cell)=true
  .simp only[aD hc,aZ]at h
   cases hx:x==n with
   |true=>simp_all
   |false=>rw[hx]at h;obtain⟨k',e,q⟩:=je2 (scope:=scope) h;exact⟨k',by simp only[aZ,hx];exact e,q⟩
  .simp only[aJ hc,aZ]at h
   cases hx:x==n with
   |true=>simp_all
   |false=>rw[hx]at h;obtain⟨k',e,q⟩:=je2 (scope:=scope) h;exact⟨k',by simp only[aZ,hx];exact e,q⟩
theorem je1{env:Env}:∀{ns:List (Str×NameKind)},ns.lookup x=some .free ->
  (ns.map λ(n,k)=>if(k==NameKind.free&&env.scope.kind == .function&&env.kindOf n==some .cell)then(n,NameKind.cell)else(n,k)).lookup x=some .cell \/
  (ns.map λ(n,k)=>if(k==NameKind.free&&env.scope.kind == .function&&env.kindOf n==some .cell)then(n,NameKind.cell)else(n,k)).lookup x=some .free
|[],h=>by simp at h
|(n,k0)::r,h=>by
  rw[aE];simp only[aZ]at h
  by_cases hc:(k0==NameKind.free&&env.scope.kind == .function&&env.kindOf n==some .cell)=true
  .simp only[aD hc,aZ]
   cases hx:x==n with
   |true=>simp_all
   |false=>rw[hx]at h;exact je1 h
  .simp only[aJ hc,aZ]
   cases hx:x==n with
   |true=>simp_all
   |false=>rw[hx]at h;exact je1 h
def jt2(h:(jdy own caps Z)[i]?=some (some v)):∃p,caps[i-own]?=some p/\own<=i/\Z[p.2]?=some (some v):=by
 unfold jdy at h
 by_cases hi:i<own
 .rw[aS (by simpa using hi),List.getElem?_replicate,aD hi]at h;cases h
 .rw[aL (by simpa using hi),dB,zba]at h
  cases e:caps[i-own]? with
  |none=>rw[e]at h;cases h
  |some p=>
   rw[e]at h;refine⟨p,rfl,by simp_all,?_⟩;have h':(Z[p.2]?).join=some v:=zby h
   cases q:Z[p.2]? with
   |none=>rw[q]at h';cases h'
   |some o=>rw[q]at h';exact congrArg _ h'
section
variable {X:Cx}
def jyd(I:Inv X U Z H s)(ck:CapsOk X scope caps)
  (hf:∀b∈fp,FpOk X U H b) (hb:∀b∈fp,b<s.heap.objs.size) (ns:h'.Ns s.heap.objs.size λx=>([]:List (Str×Value)).reverse.lookup x)
  (sb:Heap.SameBut s.heap.objs.size (s.heap.push { cls:=.type "dict",data:=.dict #[]}) h'):
  Inv (jbd X scope (own++caps.map (·.1)) s.heap.objs.size s H fp) [] (jdy own.length caps Z) H { s with heap:=h',toks:=t' }:=by
 have up:=λb o e=>sb.extBut b o (zcw (zbv e)) (zaz _ e)
 have stk:∀b∈fp,b∉frs _:=λb hb' z=>by obtain⟨_,f1,f2,_⟩:=hf b hb';rcases aM.mp (I.stkSub b z)with q|q<;>trivial
 have clc:∀x c,(clOf _ _ []).lookup x=some c->X.env.cells.lookup x=some c:=λx c h=>by
  rcases jpr _ _ h with e|⟨e1,e2⟩
  .cases e
  .obtain⟨c',hc'⟩:=I.ok.has x (ck.fre _ e1 rfl);rw[hc']at e2 |-
   exact congrArg _ e2.symm
 have cell:=λx c h=>I.cell x c (clc x c h)
 have okk:(jbd X scope (own++caps.map (·.1)) s.heap.objs.size s H fp).Ok:=by
  refine⟨I.ok.mod,ck.kind,I.ok.glob,I.ok.blt,zac _,λx y c h1 h2=>I.ok.inj x y c (clc x c h1) (clc y c h2),λx hx=>?_,λx c hfn=>?_,I.ok.hd,I.ok.frames,.inl rfl,λb z=>⟨(zcw (hb b z)),λx c h=>((hf b z).2.2.2.2.1 x c (clc x c h))⟩,I.bs,
   zdz I.ok.bsz I.sz,λb o e z=>?_,stk,I.stack,I.stkFree⟩
  .have hx':∃k,(scope.names.map λ(n,k)=>if(k==NameKind.free&&X.env.scope.kind == .function&&X.env.kindOf n==some .cell)then(n,NameKind.cell)else(n,k)).lookup x=some k/\(k=.cell\/k=.free):=by
    rcases hx with q|q
    .exact⟨_,q,.inl rfl⟩
    .exact⟨_,q,.inr rfl⟩
   obtain⟨k,q,hk⟩:=hx';obtain⟨k',e,r⟩:=je2 (scope:=scope) q;have m:=bV e;have hfree:k'=.free:=by
    rcases r with r|r
    .rcases hk with hk|hk
     .exact absurd (r.symm.trans hk) (ck.nocell _ m)
     grind
    .exact r.1
   subst hfree;exact⟨_,jk2 _ _ m⟩
  .cases hfn
  .rcases (hf b z).2.2.2.1 with q|q
   .exact I.ok.noex b o e q
   .exact absurd (zcx (zbv e) (zdz I.ok.bsz q)) (bH _)
 refine⟨okk,rfl,I.bare,Un.kept up,⟨_,ns,λi x v h1 h2 h3=>?_⟩,λx c h=>?_,I.hok.fresh (zac _),λx c h=>I.freeC x c (clc x c h),λp hp=>absurd (show p∈([])from hp) (by simp),I.hok.kept up,?_⟩
 .obtain⟨p,hp,hi,hv⟩:=jt2 h2;have hx:=by have h1':(own++caps.map _)[i]?=some x:=h1;rw[aL hi,zba,hp]at h1';exact zby h1'
  subst hx;obtain⟨cN,cf⟩:=ck.cap p (dE hp);have mem:=bV cf;obtain⟨m,hn,hl⟩:=I.loc;have kf:=ck.fre _ mem rfl;obtain⟨u,r,l⟩:=hl p.2 p.1 v cN hv (by rcases kf with q|q;exact .inr (.inl q);exact .inr (.inr q));refine⟨u,r,.inr ?_⟩;rcases l with ⟨k,_⟩|⟨k,c,e,z⟩
  .simp_all
  .refine⟨je1 cf,c,?_,z.keeps up⟩;show(clOf _ _ []).lookup p.1=some c
   clear hl hp;clear clc hv sb cf;grind[jk2]
 .obtain⟨v,z⟩:=cell x c h;exact⟨v,z.keeps up⟩
 .show (jdy _ _ Z).length=(own++caps.map _).length;simp[jdy]
end
abbrev NoX:qe:=λ_ _=>False
def jyq(h:wpAny M A t Q NoX s):wpAny M A t Q E s:=fB h (λz z q=>q) λz z q=>q.elim
abbrev jwt(ifs:Ad)(env:Env):Sem Bool:=forIn ifs true λc r=>if r=true then do let ok <- isTrue c env (eval c env);pure (ForInStep.yield ok)else pure (ForInStep.yield r)
def jmb{elt target iter:Expr}{ifs:Ad}{scope:Scope}{pos:Pos}{it acc:Value}{env:Env}(Jq:Nat->Shared->Prop)
  (turn:∀n s,Jq n s->wpAny (model prog w) A (pyNext it) (λr s1=>match r with
   |none=>R (.ok .next) s1
   |some v=>wpAny (model prog w) A (letOwnedTupleGo target it v) (λz s2=>wpAny (model prog w) A (assign target env v) (λz s3=>wpAny (model prog w) A (jwt ifs env) (λok s4=>
     if ok=true then wpAny (model prog w) A (eval elt env) (λx s5=>wpAny (model prog w) A (call (.builtin "list.append") [acc,x]) (λz s6=>∃m,m<n/\Jq m s6) NoX s5) NoX s4
     else∃m,m<n/\Jq m s4) NoX s3) NoX s2) NoX s1) NoX s)
  (n:Nat) (h:Jq n s):codeAny (model prog w) A (.compLoop (.ListComp elt [⟨target,iter,ifs,0⟩] scope pos) 0 it acc env) R s:=by
 refine codeAny_loop rfl Jq (λn s hJ=>?_) n h;refine wpAny_noted (jyq ?_);refine zay (eV (zay (thn (turn n s hJ) λr s1 h1=>?_)))
 cases r with
|none=>exact zab h1
|some v=>
  refine zay (thn h1 λz s2 h2=>zay (thn h2 λz s3 h3=>zay (thn h3 λok s4 h4=>?_)))
  cases ok with
  |false=>
   first
    | exact zab ⟨rfl,h4⟩
    | exact zay _
  |true=>
   first
    |exact zay (zay (thn h4 λx s5 h5=>zay (thn h5 λz s6 h6=>zab (zab ⟨rfl,h6⟩))))
    | exact zay _
section
variable {X:Cx}
def PC0(X:Cx)(ifs:Ad)(t:TT):Prop:=
 ∀(U:qd)(s:Shared)(Z:St)(H:Hp)(Q:Bool->Hp->Prop),Inv X U Z H s->t Z H Q->Am X (jwt ifs X.env) (TP X U Z Q) X.xe s
def jHd:TT:=λz H Q=>Q true H
def jE0:PC0 X [] jHd:=λU s Z H Q I h=>wpAny_tests_nil ⟨H,I,h⟩
def jKn(h:PT X c t):PC0 X [c] t:=λU s Z H Q I hw=>wpAny_tests_one (h _ s Z H Q I hw)
def jNm(u:Un fs ex H H' h h1)(hC:h.objs.size<=C)(sb:Heap.SameBut C h1 h2):Un fs ex H H' h h2:=by
 have ne:∀b o,h.get? b=some o->b≠C:=λb o e=>zcw (zcx (zbv e) hC)
 refine⟨λb o e n a c=>(sb.2 b (ne b o e)).trans (u.keep b o e n a c),λb o e n a c=>?_,u.free,λb o e c=>?_,u.tups,u.frzs,u.tbls⟩
 .obtain⟨sl,q⟩:=u.slot b o e n a c;exact⟨sl,(sb.2 b (ne b o e)).trans q⟩
 .obtain⟨o',q⟩:=u.there b o e c;exact⟨o',(sb.2 b (ne b o e)).trans q⟩
inductive CpInv(X:Cx)(tn:Nat->Heap->Prop)(fp:Ak)(W:Nat->Nat->St->Hp->Prop)(n:Nat)(s:Shared):Prop
| mk (i:Nat) (Z:St) (H:Hp) (hI:Inv X [] Z H s) (ht:tn i s.heap) (hf:∀b∈fp,H b=none) (hw:W i n Z H)
def jmc(hc:X.calm=true)(ck:CapsOk X scope caps)
  (hi:PI X tg iter wi) (hg:∀C s0 H0 ex,PG (As X scope own caps C s0 H0 ex) tg g) (ht:∀C s0 H0 ex,PC0 (As X scope own caps C s0 H0 ex) ifs tc)
  (he:∀C s0 H0 ex,PE (As X scope own caps C s0 H0 ex) elt te) (hs:Ao X iter)
  (I:Inv X U Z H s) (h:jwr own.length caps wi g tc te Z H Q)
  (fin:∀D H5 C s6 r,Inv X U Z H5 s6->FpOk X U H5 C->(∃m,s6.heap.Ns C m)->Q (.ref D) H5->compPost (model X.prog X.w) X.A X.xe use QS (.ref D) C (.ok r) s6):
  Am X (comprehension (.ListComp elt [⟨tg,iter,ifs,0⟩] scope pos) scope X.env p0 (newList []) false (eval iter X.env) use) QS X.xe s:=by
 refine wpAny_comprehension_free rfl hs (jrn λp hp hf=>I.ok.has p.1 (ck.fre p hp hf)) ck.kind ck.loc (thn (hi _ s Z H _ I h) λv s1 h1=>thn h1 λitv s2 h2=>?_);obtain⟨it,fp,tn,Jq,H2,e,I2,T,st2,f2,hw⟩:=h2;subst e;obtain⟨W,⟨m0,w0⟩,turn⟩:=hw _ (I2.hok.fresh (zac _));refine dU ?_;have I3:Inv X _ Z (upd H2 _ (.lst [])) _:=
  I2.laid (t':=s2.toks) (λb u e=>zaz _ e) (zac _) ⟨aY _,[],0,.nil,zbz _ rfl⟩
 have hlt:∀b∈fp,b<s2.heap.objs.size:=λb hb=>by obtain⟨o,e,_⟩:=T.obj _ _ st2 b hb;exact zbv e
 have f3:∀b∈fp,FpOk X _ (upd H2 _ (.lst [])) b:=λb hb=>⟨by rw[jae (zcw (hlt b hb))];exact(f2 b hb).1,(f2 b hb).2⟩
 refine wpAny_newFunctionEnv ck.nocell (by simp_all) (λh' hns hsb=>?_) ck.kind;generalize hS3:({ s2 with heap:=s2.heap.push _ })=S3 at I3 hns hsb |-
 have hlt3':∀b∈fp,b<S3.heap.objs.size:=by rw[<- hS3];exact(λb hb=>by rw[bR];clear hw;grind)
 have I4:=jyd (own:=own) (t':=S3.toks+([]:List (Str×Value)).length) I3 ck f3 hlt3' hns hsb;have st4:=T.keep _ _ _ st2 λb hb o e=>hsb.extBut b o (zcw (hlt3' b hb)) (zaz _ (by clear h1 he;grind[PySem.Heap.get?_push_of_some]))
 have hsz:s2.heap.objs.size<S3.heap.objs.size:=by rw[<- hS3,bR];exact cM _
 generalize hCC:S3.heap.objs.size=C at I4 hsb hns hsz
 let Yq:=jbd X scope (own++caps.map (·.1)) C S3 (upd H2 s2.heap.objs.size (.lst [])) fp
 have loop:codeAny (model X.prog X.w) X.A (.compLoop (.ListComp elt [⟨tg,iter,ifs,0⟩] scope pos) 0 (.ref it) (.ref s2.heap.objs.size) (compEnvC scope (clOf X.env.cells scope.names []) C X.env))
   (compPost (model X.prog X.w) X.A X.xe use QS (.ref s2.heap.objs.size) C) { S3 with heap:=h',toks:=S3.toks+([]:List (Str×Value)).length }:=by
  have xf:∀{H':Hp},(∀b∈fp,H' b=none)->∀b∈fp,FpOk Yq [] H' b:=λhn b hb=>⟨hn b hb,((I4.ok.exf b hb).1),(I4.ok.exfs b hb),.inl hb,λx c e=>(I4.ok.exf b hb).2 x c e,λp hp=>absurd (show p∈([])from hp) (by simp)⟩
  refine jmb (CpInv Yq tn fp W) ?_ m0
   ⟨0,_,_,I4,st4,λb hb=>(f3 b hb).1,w0⟩
  rintro n s5 ⟨i,Z5,H5,I5,st5,fr5,w5⟩;rcases turn i n Z5 H5 w5 with ⟨stop,qn⟩|⟨go,N,hN,step⟩
  .refine thn (T.done Yq rfl rfl rfl hc i [] s5 Z5 H5 NoX I5 (xf fr5) st5 stop) λr s6 hzz=>?_
   obtain⟨hr,I6⟩:=hzz;subst hr;obtain⟨m6,n6,_⟩:=id I6.loc;have C3:=dI hCC;have I7:=I3.call' I6.os (jNm I6.base C3 (Heap.SameBut.refl _ _)) I6.hok I6.bare λb hb=>by
    obtain⟨_,q1,_,q3,q4,q5⟩:=f3 b hb
    trivial
   exact fin _ _ _ _ _ I7 (I3.fpOk C3 I6.free) ⟨m6,n6⟩ qn
  .refine thn (T.item Yq rfl rfl rfl hc i [] s5 Z5 H5 NoX I5 (xf fr5) st5 go) λr s6 hzz=>?_
   obtain⟨u,hr,h6⟩:=hzz;subst hr;refine thn h6 λz s7 hzz=>?_
   obtain⟨x,H7,I7,r7,y7,st7,fr7⟩:=hzz;refine thn (hg _ _ _ _ _ s7 Z5 H7 x u _ (I7.pinned (xf fr7) (T.obj _ _ st7)) r7 (step x H7 y7)) λz s8 hzz=>?_
   obtain⟨Z8,H8,I8,q8⟩:=hzz;refine thn (ht _ _ _ _ _ s8 Z8 H8 _ I8 q8) λok s9 hzz=>?_
   obtain⟨H9,I9,q9⟩:=hzz;have again:∀{s':Shared}{Z':St}{H':Hp},Inv Yq _ Z' H' s'->N Z' H'->∃m,m<n/\CpInv Yq tn fp W m s':=λ{s' Z' H'} Ia na=>by obtain⟨m',hm,wa⟩:=hN Z' H' na;refine⟨m',hm,_,Z',H',Ia.unpinned,T.keep _ _ _ st7 λb hb o e=>(Ia.pin _ (zcy _ (zcy _ (jfe hb e)))).1,λb hb=>?_,wa⟩;obtain⟨o,e,d⟩:=T.obj _ _ st7 b hb;exact(Ia.pin _ (zcy _ (zcy _ (jfe hb e)))).2.1
   cases ok with
   |false=>clear h1 hg hN hlt3' I3;grind
   |true=>
    refine thn (he _ _ _ _ _ s9 Z8 H9 _ I9 q9) λy s10 hzz=>?_
    obtain⟨vy,H10,I10,r10,ys,hys,hlen,q10⟩:=hzz;refine thn (jjm _ s10 Z8 H10 (.ref _) _ _ [y] (λz H'=>N Z8 H') I10 rfl (.cons r10 .nil) ⟨_,ys,vy,rfl,rfl,hys,hlen,q10⟩) λz s11 hzz=>?_
    obtain⟨_,H11,I11,_,q11⟩:=hzz;grind
 exact codeAny_compStart_list loop (T.self _ 0 _ _ _ st4 loop)
def jE4(hc:X.calm=true)(ck:CapsOk X scope caps)
  (hi:PI X tg iter wi) (hg:∀C s0 H0 ex,PG (As X scope own caps C s0 H0 ex) tg g) (ht:∀C s0 H0 ex,PC0 (As X scope own caps C s0 H0 ex) ifs tc)
  (he:∀C s0 H0 ex,PE (As X scope own caps C s0 H0 ex) elt te) (hs:Ao X iter):
  PE X (.ListComp elt [⟨tg,iter,ifs,0⟩] scope pos) (jwr own.length caps wi g tc te):=λU s Z H Q I h=>jmc hc ck hi hg ht he hs I h λD H5 C s6 r I6 ⟨f1,f2,f3,f4,f5,f6⟩ ⟨m6,n6⟩ qn=>⟨m6,n6,λh8 sb8=>⟨.ref D,H5,I6.turned (λb o hb e=>(sb8.2 b hb).trans e) f1 f2 f4 f5 f6,rfl,qn⟩⟩
end
def ItOn(k:Bool)(h:Heap)(it l:Addr)(i:Nat):Prop:=if k=true then h.IsTupleIter it l i else h.IsListIter it l i
def SrcOn(k:Bool)(h:Heap)(l:Addr)(xs:Ah):Prop:=if k=true then h.IsTuple l xs else h.IsList l xs
def ItOn.mv(x:ItOn k h it l i)(e:∀o,h.get? it=some o->h'.get? it=some o):ItOn k h' it l i:=by
 cases k with
 |true=>exact Heap.IsTupleIter.at (h:=h) x e
 |false=>exact Heap.IsListIter.at (h:=h) x e
def SrcOn.mv(x:SrcOn k h l xs)(e:∀o,h.get? l=some o->h'.get? l=some o):SrcOn k h' l xs:=by
 cases k with
 |true=>exact Heap.IsTuple.at (h:=h) x e
 |false=>exact Heap.IsList.at (h:=h) x e
def ItOn.ob(x:ItOn k h it l i):∃o vs,h.get? it=some o/\o.data=.fields vs:=by
 cases k with
 |true=>obtain⟨o,e,_,d⟩:=(x:h.IsTupleIter it l i);exact⟨o,_,e,d⟩
 |false=>obtain⟨o,e,_,d⟩:=(x:h.IsListIter it l i);exact⟨o,_,e,d⟩
def jr1{it l:Addr}{i:Nat}{items:Ah}{Q:qe}(hh:A.handled=none)(hi:s.heap.IsTupleIter it l i)(hl:s.heap.IsTuple l items)(hQ:∀x,items[i]?=some x->∀h',h'.IsTupleIter it l (i+1)->Heap.SameBut it s.heap h'->Q x { s with heap:=h' })
  (hE:items[i]?=none->∀h' e,Heap.ExtBut it s.heap h'->(∃o,h'.get? e=some o/\o.cls=.type "StopIteration")->E (.ref e) { s with heap:=h' }):wpAny (model prog w) A (Builtin.SmallTypes.nextOf (.ref it)) Q E s:=by
 obtain⟨ob,eo,oc,od⟩:=id hi;obtain⟨tl,el,_,nl,dl⟩:=hl;unfold Builtin.SmallTypes.nextOf;refine zay (eY (name:=Str.ofString "__next__") hi.typeIs F.slot_tuple_iterator_next (gt F.slot_tuple_iterator_next hi.typeIs F.entry_tuple_iterator_next ?_ (F.args_tuple_iterator_next_1 _)));show wpAny _ _ (field (.ref it) 0 >>= _) _ _ s;refine zay (bP eo od (x:=.ref l) rfl ?_);show wpAny _ _ (if(Value.ref l==Value.none)=true then _ else _) _ _ s;rw[aJ (show¬((Value.ref l==Value.none)=true) fromλq=>bD q)];show wpAny _ _ (field (.ref it) 1 >>= _) _ _ s;refine zay (bP eo od (x:=.int i 0) rfl (show wpAny _ _ (seqItems? (.ref l) >>= _) _ _ s from zay (eM el dl ?_)));simp only[fX]
 cases hx:items[i]? with
 |some x=>
  refine zay (dR eo od (by simp) (zab ⟨x,rfl,zab (hQ x hx _ ⟨_,bM _ eo (cH (cT od _)),(Obj.cls_mapFields ..).trans oc,?_⟩ (Heap.SameBut.update ..))⟩))
  clear hE hx;grind[Obj.data_mapFields,rawInt]
 |none=>
  refine zay (wpAny_rule (zay (dR eo od (by simp) ?_)));show wpAny _ _ (newExc (.type "StopIteration") [] >>= _) _ _ _;refine zay ?_;simp only[newExc,newTuple];refine zay (dU (zay (m:=firstArgMember _ _) (wpAny_of_eq (a:=Value.none) (by first|rfl|(simp only[firstArgMember];rfl)) (dU ?_ (by size_fits)))) (by size_fits));simp only[raiseNew];refine zay (wpAny_handled ?_)
  first|rw[show A.in1.handled=none from hh]|rw[hh]
  exact zay (zab (wpAny_throw (hE hx _ _ (((Heap.SameBut.update ..).extBut.push _).push _) ⟨_,zbz _ rfl,rfl⟩)))
def jm8{k:Bool}{it l:Addr}{i:Nat}{items:Ah}{Q:qe}(hh:A.handled=none)(hi:ItOn k s.heap it l i)(hl:SrcOn k s.heap l items)(hQ:∀x,items[i]?=some x->∀h',ItOn k h' it l (i+1)->Heap.SameBut it s.heap h'->Q x { s with heap:=h' })
  (hE:items[i]?=none->∀h' e,Heap.ExtBut it s.heap h'->(∃o,h'.get? e=some o/\o.cls=.type "StopIteration")->E (.ref e) { s with heap:=h' }):wpAny (model prog w) A (Builtin.SmallTypes.nextOf (.ref it)) Q E s:=by
 cases k with
 |true=>exact jr1 hh hi hl hQ hE
 |false=>
  cases hx:items[i]? with
  |some x=>exact wpAny_nextOf_list_item hi hl hx (hQ x hx)
  |none=>exact wpAny_nextOf_list_end hh hi hl hx (hE hx)
def jt7{k:Bool}{l:Addr}{xs:Ah}{Q:qe}(hl:SrcOn k s.heap l xs)
  (h:∀o,ItOn k (s.heap.push o) s.heap.objs.size l 0->Q (.ref s.heap.objs.size) { s with heap:=s.heap.push o }):wpAny (model prog w) A (pyIter (.ref l)) Q E s:=by
 cases k with
|true=>exact f9 hl (h _ ⟨_,zbz _ rfl,rfl,rfl⟩)
|false=>exact dS hl (h _ ⟨_,zbz _ rfl,rfl,rfl⟩)
structure ZFar(z TI TO i1 i2:Addr):Prop where
 a1:TI≠z
 a2:TO≠z
 a3:i1≠z
 a4:i2≠z
 a5:TI≠TO
 a6:TI≠i1
 a7:TI≠i2
 a8:TO≠i1
 a9:TO≠i2
 a10:i1≠i2
def LFar(z TO i1 i2 l:Addr):Prop:=l≠z/\l≠TO/\l≠i1/\l≠i2
def jqj{k1 k2:Bool}{z TI TO i1 i2 l1 l2:Addr}{n1 n2:Nat}{xs ys:Ah}{a b:Value}{Q:Al->Shared->Prop}(hh:A.handled=none)(D:ZFar z TI TO i1 i2)(d1:LFar z TO i1 i2 l1)(d2:LFar z TO i1 i2 l2)
  (hz:IsZip s.heap z TI TO .none) (ht:IsPair s.heap TI (.ref i1) (.ref i2)) (hu:IsPair s.heap TO a b) (j1:ItOn k1 s.heap i1 l1 n1) (j2:ItOn k2 s.heap i2 l2 n2) (c1:SrcOn k1 s.heap l1 xs) (c2:SrcOn k2 s.heap l2 ys)
  (hQ:∀x y,xs[n1]?=some x->ys[n2]?=some y->∀h',IsZip h' z TI TO (rawInt s.heap.objs.size)->IsPair h' TO x y->ItOn k1 h' i1 l1 (n1+1)->ItOn k2 h' i2 l2 (n2+1)->IsPair h' s.heap.objs.size x y ->
   (∀c o,c≠z->c≠TO->c≠i1->c≠i2->s.heap.get? c=some o->h'.get? c=some o)->Q (some (.ref s.heap.objs.size)) { s with heap:=h' })
  (hE:xs[n1]?=none\/ys[n2]?=none->∀h',(∀c o,c≠z->c≠TO->c≠i1->c≠i2->s.heap.get? c=some o->h'.get? c=some o)->Q none { s with heap:=h' }):wpAny (model prog w) A (pyNext (.ref z)) Q E s:=by
 have ty:s.TypeIs (.ref z) "zip":=⟨_,hz,rfl⟩
 unfold pyNext;refine zay (wpAny_attempt (eY (name:=Str.ofString "__next__") ty F.slot_zip_next (gt F.slot_zip_next ty F.entry_zip_next ?_ (F.args_zip_next_1 _))));show wpAny _ _ (field (.ref z) 2 >>= _) _ _ _;refine zay (bP hz rfl (x:=.bool false) rfl (show wpAny _ _ (field (.ref z) 3 >>= _) _ _ _ from zay (bP hz rfl (x:=.ref TI) rfl (zay (eM ht rfl ?_)))));show wpAny _ _ (Builtin.SmallTypes.ownedTupleIsFree (.ref z) >>= _) _ _ _;refine zay ?_;unfold Builtin.SmallTypes.ownedTupleIsFree;refine zay (bP hz rfl (x:=.none) rfl (zab ?_));simp only[if_true];refine zay (wpAny_rule (zay (bP hz rfl (x:=.ref TO) rfl (zay (dN hz (by simp) λg1 z1 e1=>zay ?_)))))
 replace z1:IsZip g1 z TI TO .ellipsis:=z1
 simp only[List.zipIdx_cons,List.zipIdx_nil,List.forIn_cons,List.forIn_nil];refine zay (zay (wpAny_onRaise (show wpAny _ _ (Builtin.SmallTypes.nextOf (.ref i1) >>= _) _ _ _ from ?_)));refine zay (jm8 hh (j1.mv λo q=>e1.extBut _ _ D.a3 q) (c1.mv λo q=>e1.extBut _ _ d1.1 q) (λx hx g2 m1 e2=>zab ?_) λhx g2 e f2 ⟨oe,q1,q2⟩=>?_)
 rotate_left
 .have nez:e≠z:=λp=>by
   have z2:IsZip g2 z TI TO .ellipsis:=f2 _ _ D.a3.symm z1;grind
  exact dN (f2 _ _ D.a3.symm z1) (by simp) λg3 v e3=>zay (wpAny_isInstance (T:="StopIteration") (b:=true) ⟨oe,e3.extBut _ _ nez q1,q2⟩ isSubtype_stop (zab (hE (.inl hx) _ λc o p1 v p3 v q=>e3.extBut _ _ p1 (f2 _ _ p3 (e1.extBut _ _ p1 q)))))
 have u2:IsPair g2 TO a b:=e2.extBut _ _ D.a8 (e1.extBut _ _ D.a2 hu);refine zay (eM u2 rfl (zay (wpAny_updateSeq_pair u2 λg3 u3 e3=>zay (wpAny_letGo (zab ?_)))))
 replace u3:IsPair g3 TO x b:=u3
 have up3:∀c o,c≠z->c≠TO->c≠i1->s.heap.get? c=some o->g3.get? c=some o:=λc o p1 p2 p3 q=>e3.extBut _ _ p2 (e2.extBut _ _ p3 (e1.extBut _ _ p1 q))
 refine zay (zay (wpAny_onRaise (show wpAny _ _ (Builtin.SmallTypes.nextOf (.ref i2) >>= _) _ _ _ from ?_)));refine zay (jm8 hh (j2.mv λo q=>up3 _ o D.a4 D.a9.symm D.a10.symm q) (c2.mv λo q=>up3 _ o d2.1 d2.2.1 d2.2.2.1 q) (λy hy g4 m2 e4=>zab ?_) λhy g4 e f4 ⟨oe,q1,q2⟩=>?_)
 rotate_left
 .have z4:IsZip g4 z TI TO .ellipsis:=f4 _ _ D.a4.symm (e3.extBut _ _ D.a2.symm (e2.extBut _ _ D.a3.symm z1));have nez:e≠z:=λp=>by grind
  exact dN z4 (by simp) λg5 v e5=>zay (wpAny_isInstance (T:="StopIteration") (b:=true) ⟨oe,e5.extBut _ _ nez q1,q2⟩ isSubtype_stop (zab (hE (.inr hy) _ λc o p1 p2 p3 p4 q=>e5.extBut _ _ p1 (f4 _ _ p4 (up3 c o p1 p2 p3 q)))))
 have u4:IsPair g4 TO x b:=e4.extBut _ _ D.a9 u3;refine zay (eM u4 rfl (zay (wpAny_updateSeq_pair u4 λg5 u5 e5=>zay (wpAny_letGo (zab (zab ?_))))))
 replace u5:IsPair g5 TO x y:=u5
 refine zay (eM u5 rfl (zay (wpAny_newTuple ?_)));have sz:g5.objs.size=s.heap.objs.size:=by rw[e5.1,e4.1,e3.1,e2.1,e1.1]
 have z5:IsZip g5 z TI TO .ellipsis:=e5.extBut _ _ D.a2.symm (e4.extBut _ _ D.a4.symm (e3.extBut _ _ D.a2.symm (e2.extBut _ _ D.a3.symm z1)));have up5:∀c o,c≠z->c≠TO->c≠i1->c≠i2->s.heap.get? c=some o->g5.get? c=some o:=λc o p1 p2 p3 p4 q=>e5.extBut _ _ p2 (e4.extBut _ _ p4 (up3 c o p1 p2 p3 q))
 have m15:ItOn k1 g5 i1 l1 (n1+1):=m1.mv λo q=>e5.extBut _ _ D.a8.symm (e4.extBut _ _ D.a10 (e3.extBut _ _ D.a8.symm q))
 have m25:ItOn k2 g5 i2 l2 (n2+1):=m2.mv λo q=>e5.extBut _ _ D.a9.symm q
 have zlt:z<g5.objs.size:=zbv z5;show wpAny _ _ (Builtin.SmallTypes.ownedTupleHandOut (.ref z) (.ref g5.objs.size) >>= _) _ _ _;refine zay ?_;unfold Builtin.SmallTypes.ownedTupleHandOut;have z6:IsZip (g5.push { cls:=.type "tuple",data:=.seq #[x,y]}) z TI TO .ellipsis:=zaz _ z5;refine zay (dN z6 (by simp) λg7 z7 e7=>?_)
 replace z7:IsZip g7 z TI TO (rawInt g5.objs.size):=z7
 refine dN z7 (by simp) λg8 z8 e8=>?_
 replace z8:IsZip g8 z TI TO (rawInt g5.objs.size):=z8
 have up8:∀c o,c≠z->g5.get? c=some o->g8.get? c=some o:=λc o p1 q=>e8.extBut _ _ p1 (e7.extBut _ _ p1 (zaz _ q))
 have t8:IsPair g8 g5.objs.size x y:=e8.extBut _ _ (cQ zlt) (e7.extBut _ _ (cQ zlt) (zbz _ rfl));rw[sz]at z8 t8;refine zab ⟨_,rfl,zab ?_⟩;show Q (some (.ref g5.objs.size)) _;rw[sz];exact(hQ x y hx hy g8 z8 (up8 _ _ D.a2 u5) (m15.mv λo q=>up8 _ o D.a3 q) (m25.mv λo q=>up8 _ o D.a4 q) t8 λc o p1 p2 p3 p4 q=>up8 c o p1 (up5 c o p1 p2 p3 p4 q))
noncomputable abbrev zA(h:Heap)(o1 o2:Obj):Heap:=(h.push o1).push o2
noncomputable abbrev zB(h:Heap)(o1 o2:Obj):Heap:=(zA h o1 o2).push { cls:=.type "tuple",data:=.seq #[.ref h.objs.size,.ref (h.push o1).objs.size]}
noncomputable abbrev zC(h:Heap)(o1 o2:Obj):Heap:=(zB h o1 o2).push { cls:=.type "tuple",data:=.seq #[.none,.none]}
noncomputable abbrev zD(h:Heap)(o1 o2:Obj):Heap:=(zC h o1 o2).push { cls:=.type "zip",data:=.fields #[.none,.bool false,.bool false,.ref (zA h o1 o2).objs.size,.ref (zB h o1 o2).objs.size]}
def juo(l1 l2:Addr)(xs ys:Ah):Meets (Builtin.«zip.__new__» ⟨[.type "zip",.ref l1,.ref l2],[]⟩) (λz R s=>SrcOn k1 s.heap l1 xs/\SrcOn k2 s.heap l2 ys /\
  ∀o1 o2,ItOn k1 (s.heap.push o1) s.heap.objs.size l1 0->ItOn k2 (zA s.heap o1 o2) (s.heap.push o1).objs.size l2 0->R (.ok (.ret (.ref (zC s.heap o1 o2).objs.size))) { s with heap:=zD s.heap o1 o2 }):=
 .of_wp λprog w A R s h=>by
  obtain⟨hp,g,d,tk,os⟩:=s;obtain⟨c1,c2,h⟩:=h;have hsub:=sub_zip;have q1:SrcOn k1 (Shared.heap ⟨hp,g,d,tk,os⟩) l1 xs:=c1
  wp_walk using jt7 q1
  intro o1 w1;have q2:SrcOn k2 (Shared.heap ⟨hp.push o1,g,d,tk,os⟩) l2 ys:=SrcOn.mv c2 λo e=>zaz _ e
  wp_walk using jt7 q2
  intro o2 w2
  wp_walk
  exact⟨_,rfl,h o1 o2 w1 w2⟩
section
variable {X:Cx}
def Inv.spun{fp:Ak}(I:Inv X U Z H s)(hf:∀b∈fp,FpOk X U H b)(k:∀b o,b∉fp->s.heap.get? b=some o->h'.get? b=some o)
  (ko:∀b∈fp,∃o,h'.get? b=some o) (hT:s.heap.get? T=none) (hn:H T=none) (hv:Vals vs its) (hz:vs.length<=sizeLine) (ht:IsTup h' T its.toArray):Inv X U Z (upd H T (.tup vs)) { s with heap:=h',toks:=t' }:=by
 have nT:∀b o,s.heap.get? b=some o->b≠T:=λb o e z=>by grind
 have nf:∀b u,H b=some u->b∉fp:=λb u e z=>by rw[(hf b z).1]at e;cases e
 refine I.step (g':=s.gens) (d':=s.drawn) (ch:=fp) (λb hb=>?_) (λb o y y hc e y=>k b o hc e) (λb o y y hc e y=>⟨o.slots,k b o hc e⟩) (λb o y e n=>by rw[jae (nT b o e)];exact n)
  (λb o hc e=>⟨o,k b o hc e⟩) (λb xs e=>by rw[jae (ja5 e hn)];exact e) (λb o u e=>by rw[jae (ja5 e hn)];exact e) (λb ps e=>⟨#[],by rw[jae (ja5 e hn),e];rfl⟩) (λm hm=>?_) (λb u e=>?_) I.bare
 .obtain⟨_,f1,_,f3,f4,f5⟩:=hf b hb
  trivial
 .obtain⟨o,es,ep,ho,r⟩:=hm;exact⟨o,es,ep,k _ o (λz=>(hf _ z).2.1 rfl) ho,r⟩
 .by_cases hb:b=T
  .subst hb;rw[jad]at e;cases e
   exact⟨hz,its,hv,ht⟩
  .rw[jae hb]at e;refine(I.hok b u e).stay (λc v hc q=>k c v ?_ q) (λc q=>by rw[jae (ja5 q hn)];exact q) λc xs q=>by rw[jae (ja5 q hn)];exact q
   clear nT hf;grind
def Inv.spun0{fp:Ak}(I:Inv X U Z H s)(hf:∀b∈fp,FpOk X U H b)(k:∀b o,b∉fp->s.heap.get? b=some o->h'.get? b=some o):Inv X U Z H { s with heap:=h',toks:=t' }:=by
 have nf:∀b u,H b=some u->b∉fp:=λb u e z=>by rw[(hf b z).1]at e;cases e
 refine I.step (g':=s.gens) (d':=s.drawn) (ch:=fp) (λb hb=>?_) (λb o y y hc e y=>k b o hc e) (λb o y y hc e y=>⟨o.slots,k b o hc e⟩) (λb o y e n=>n)
  (λb o hc e=>⟨o,k b o hc e⟩) (λb xs e=>e) (λb o u e=>e) (λb ps e=>⟨#[],by rw[e];rfl⟩) (λm hm=>?_) (λb u e=>?_) I.bare
 .obtain⟨_,f1,_,f3,f4,f5⟩:=hf b hb
  trivial
 .obtain⟨o,es,ep,ho,r⟩:=hm;exact⟨o,es,ep,k _ o (λz=>(hf _ z).2.1 rfl) ho,r⟩
 .refine (I.hok b u e).stay (λc v hc q=>k c v ?_ q) (λc q=>q) λc xs q=>q
  clear k;grind
def SqV(k:Bool)(K:Af)(H:Hp)(l:Addr)(xs:List V):Prop:=if k=true then SqT K H l xs else SqL K H l xs
def Inv.src(I:Inv X U Z H s)(h:SqV k X.K H l xs):∃its:Ac,Vals xs its/\SrcOn k s.heap l its.toArray/\xs.length<=sizeLine:=by
 cases k with
 |true=>obtain⟨its,r,p,z⟩:=I.tuple (h:SqT X.K H l xs);exact⟨its,r,p,z⟩
 |false=>obtain⟨its,r,p,z⟩:=I.list (h:SqL X.K H l xs);exact⟨its,r,p.isList,z⟩
def Inv.src_inj(I:Inv X U Z H s)(h:SqV k X.K H l xs)(h':SqV k X.K H l ys):xs=ys:=by
 cases k with
 |true=>exact I.tuple_inj (h:SqT X.K H l xs) h'
 |false=>exact I.list_inj (h:SqL X.K H l xs) h'
def jh9(I:Inv X U Z H s)(h:SqV k X.K H l xs)(f:FpOk X U H b):l≠b:=by
 intro e;subst e;obtain⟨f0,f1,f2,f3,_⟩:=f;have base:∀o,X.K.lookup l=some o->False:=λo q=>by
  have hb:=I.ok.mod.kin l o q;rcases f3 with z|z
  .exact I.ok.noex l o hb z
  .exact absurd (zcx (zbv hb) (zdz I.ok.bsz z)) (bH _)
 cases k with
 |true=>
  rcases(h:SqT X.K H l xs)with q|⟨o,its,n,q,_⟩
  .rcases q with q|⟨o,q⟩<;>(rw[f0]at q;cases q)
  .exact base o q
 |false=>
  rcases(h:SqL X.K H l xs)with q|⟨o,its,n,q,_⟩
  .rcases q with q|⟨o,q⟩<;>(rw[f0]at q;cases q)
  .exact base o q
end
def Itz(k1 k2:Bool)(K:Af)(l1 l2:Addr):It:=
  ⟨λi H=>∃xs ys x y,SqV k1 K H l1 xs/\SqV k2 K H l2 ys/\xs[i]?=some x/\ys[i]?=some y,
   λi H v H'=>∃T x y,H T=none/\v=.ref T/\H'=upd H T (.tup [x,y])/\(∀xs,SqV k1 K H l1 xs->xs[i]?=some x)/\(∀ys,SqV k2 K H l2 ys->ys[i]?=some y),
   λi H=>∃xs ys,SqV k1 K H l1 xs/\SqV k2 K H l2 ys/\(xs.length<=i\/ys.length<=i)⟩
def mm0{l:Ak}:a∈a::l:=.head _
def mm1{l:Ak}:b∈a::b::l:=.tail _ mm0
def mm2{l:Ak}:c∈a::b::c::l:=.tail _ mm1
def mm3{l:Ak}:d∈a::b::c::d::l:=.tail _ mm2
def mm4{l:Ak}:e∈a::b::c::d::e::l:=.tail _ mm3
@[elab_as_elim] theorem in5{motive:Addr->Prop}{b z a c d e:Addr}(h:b∈[z,a,c,d,e])(h0:motive z)(h1:motive a)(h2:motive c)(h3:motive d)(h4:motive e):motive b:=by
 cases h with
 |head=>exact h0
 |tail _ h=>cases h with
  |head=>exact h1
  |tail _ h=>cases h with
   |head=>exact h2
   |tail _ h=>cases h with
    |head=>exact h3
    |tail _ h=>cases h with
     |head=>exact h4
     |tail _ h=>cases h
def jAm{K:Af}(k1 k2:Bool)(l1 l2 z TI TO i1 i2:Addr)(D:ZFar z TI TO i1 i2):
  Turn P w K (.Tuple es kk tp) (Itz k1 k2 K l1 l2) [z,TI,TO,i1,i2] z (λi h=>IsZip h z TI TO .none/\IsPair h TI (.ref i1) (.ref i2)/\(∃a b,IsPair h TO a b)/\ItOn k1 h i1 l1 i/\ItOn k2 h i2 l2 i) where
 mem:=mm0
 obj:=λi h st b hb=>by
  obtain⟨q1,q2,⟨a,b',q3⟩,q4,q5⟩:=st;refine in5 hb ?_ ?_ ?_ ?_ ?_
  .grind
  .grind
  .grind
  .obtain⟨o,vs,e,d⟩:=q4.ob;exact⟨o,e,λv z=>by rw[d]at z;cases z⟩
  .obtain⟨o,vs,e,d⟩:=q5.ob;exact⟨o,e,λv z=>by rw[d]at z;cases z⟩
 keep:=λi h h' st k=>by obtain⟨q1,q2,⟨a,b',q3⟩,q4,q5⟩:=st;exact⟨k z mm0 _ q1,k TI mm1 _ q2,⟨a,b',k TO mm2 _ q3⟩,q4.mv λo e=>k i1 mm3 o e,q5.mv λo e=>k i2 mm4 o e⟩
 item:=by
  intro X hP hw hK hc i U s Z H E I hf st hg;subst hP hw hK;obtain⟨q1,q2,⟨a,b',q3⟩,q4,q5⟩:=st;obtain⟨xs,ys,x,y,sx,sy,hx,hy⟩:=hg;obtain⟨ix,rx,cx,_⟩:=I.src sx;obtain⟨iy,ry,cy,_⟩:=I.src sy;obtain⟨u,hu,ru⟩:=rx.get hx;obtain⟨v,hv,rv⟩:=ry.get hy;have far:∀{k:Bool}{l:Addr}{xs:List V},SqV k X.K H l xs->LFar z TO i1 i2 l:=λh=>⟨jh9 I h (hf z mm0),jh9 I h (hf TO mm2),jh9 I h (hf i1 mm3),jh9 I h (hf i2 mm4)⟩
  have hu':ix.toArray[i]?=some u:=by grind
  have hv':iy.toArray[i]?=some v:=by grind
  refine jqj (I.ok.hd hc) D (far sx) (far sy) q1 q2 q3 q4 q5 cx cy (λu0 v0 hu0 hv0 h' b1 b2 b3 b4 b5 b6=>⟨_,rfl,?_⟩) λz=>by rw[hu',hv']at z;rcases z with z|z<;>cases z
  cases hu'.symm.trans hu0;cases hv'.symm.trans hv0;have keep:∀b o,b∉[z,TI,TO,i1,i2]->s.heap.get? b=some o->h'.get? b=some o:=λb o hb e=>by grind
  have e2:IsPair h' TI (.ref i1) (.ref i2):=b6 TI _ D.a1 D.a5 D.a6 D.a7 q2;have hfr:H s.heap.objs.size=none:=I.hok.fresh (zac _);have hno:s.heap.get? s.heap.objs.size=none:=bW (zac _);have Tz:s.heap.objs.size≠z:=cQ (zbv q1);refine wpAny_letOwnedTupleGo_zip b1 λh2 z2 s2=>?_
  have up2:∀b o,b≠z->h'.get? b=some o->h2.get? b=some o:=λb o hb e=>s2.extBut _ _ hb e
  have keep2:∀b o,b∉[z,TI,TO,i1,i2]->s.heap.get? b=some o->h2.get? b=some o:=λb o hb e=>up2 b o (λq=>hb (q ▸ mm0)) (keep b o hb e)
  have tu:IsTup h2 s.heap.objs.size [u,v].toArray:=⟨_,up2 _ _ Tz b5,rfl,0,rfl⟩
  have I2:Inv X U Z (upd H s.heap.objs.size (.tup [x,y])) { s with heap:=h2 }:=I.spun (t':=s.toks) hf keep2 (λb hb=>by
   refine in5 hb ?_ ?_ ?_ ?_ ?_
   .grind
   .grind
   .grind
   .obtain⟨o,vs,e,_⟩:=b3.ob;grind
   .obtain⟨o,vs,e,_⟩:=b4.ob;grind) hno hfr (.cons ru (.cons rv .nil)) (by grind[sizeLine]) tu
  refine⟨.ref s.heap.objs.size,_,I2,rfl,⟨_,x,y,hfr,rfl,rfl,λxs' h=>by rw[I.src_inj h sx];exact hx,λys' h=>by rw[I.src_inj h sy];exact hy⟩,?_,λb hb=>?_⟩
  .exact⟨z2,up2 _ _ D.a1 e2,⟨_,_,up2 _ _ D.a2 b2⟩,b3.mv λo e=>up2 _ o D.a3 e,b4.mv λo e=>up2 _ o D.a4 e⟩
  .have:b≠s.heap.objs.size:=by
    refine in5 hb Tz.symm ?_ ?_ ?_ ?_
    .grind
    .grind
    .obtain⟨o,vs,e,_⟩:=q4.ob;exact zcw (zbv e)
    .obtain⟨o,vs,e,_⟩:=q5.ob;exact zcw (zbv e)
   rw[jae this];exact(hf b hb).1
 done:=by
  intro X hP hw hK hc i U s Z H E I hf st hg;subst hP hw hK;obtain⟨q1,q2,⟨a,b',q3⟩,q4,q5⟩:=st;obtain⟨xs,ys,sx,sy,hend⟩:=hg;obtain⟨ix,rx,cx,_⟩:=I.src sx;obtain⟨iy,ry,cy,_⟩:=I.src sy;have far:∀{k:Bool}{l:Addr}{xs:List V},SqV k X.K H l xs->LFar z TO i1 i2 l:=λh=>⟨jh9 I h (hf z mm0),jh9 I h (hf TO mm2),jh9 I h (hf i1 mm3),jh9 I h (hf i2 mm4)⟩
  have lx:=rx.length;have ly:=ry.length;refine jqj (I.ok.hd hc) D (far sx) (far sy) q1 q2 q3 q4 q5 cx cy (λu v hu hv=>?_) λr h' k=>⟨rfl,I.spun0 (t':=s.toks) hf λb o hb e=>?_⟩
  .have:=(bI.mp hu).1;have:=(bI.mp hv).1;simp only[zbx]at *
   lia
  .simp only[aM,aK,or_false,not_or]at hb;exact k b o hb.1 hb.2.2.1 hb.2.2.2.1 hb.2.2.2.2 e
 self:=λr r r r r st h=>wpAny_pyIter_zip st.1 h
def zfar(n:Nat):ZFar (n+4) (n+2) (n+3) n (n+1):=⟨show(n+2:Nat)≠n+4 by lia,show(n+3:Nat)≠n+4 by lia,show(n:Nat)≠n+4 by lia,show(n+1:Nat)≠n+4 by lia,show(n+2:Nat)≠n+3 by lia,
 show(n+2:Nat)≠n by lia,show(n+2:Nat)≠n+1 by lia,show(n+3:Nat)≠n by lia,show(n+3:Nat)≠n+1 by lia,show(n:Nat)≠n+1 by lia⟩
section
variable {X:Cx}
def iZip(K:Af)(ta:TA):TI:=λZ H R=>ta Z H λvs H1=>∃k1 k2 l1 l2 xs ys,vs=[.ref l1,.ref l2]/\SqV k1 K H1 l1 xs/\SqV k2 K H1 l2 ys/\R (Itz k1 k2 K l1 l2) H1
def jK4(hg:Gl X "zip")(hm:X.mg "zip"=none)(ha:PA X [a,b] ta)(hs:starEach [a,b] X.env=[(false,eval a X.env),(false,eval b X.env)])(hs2:starEach [b] X.env=[(false,eval b X.env)]):
  PI X (.Tuple es kk tp) (.Call (.Name "zip" p) [a,b] [] pos) (iZip X.K ta):=by
 intro U s Z H R I h;refine Call_ (jko I hg hm boot_zip (bX (thn (ha pos U s Z H _ I h) λus s1 hzz=>?_) (by rw[hs,hs2]) (by rw[hs2];rfl)));obtain⟨vs,H1,I1,r1,q1⟩:=hzz;obtain⟨k1,k2,l1,l2,xs,ys,e,sx,sy,q⟩:=q1;subst e;obtain⟨u1,u2,rfl,e1,e2⟩:=r1.two;cases e1;cases e2;obtain⟨ix,rx,cx,_⟩:=I1.src sx;obtain⟨iy,ry,cy,_⟩:=I1.src sy;refine callType_new F.called_zip (by decide) (F.typeCall_zip_2 _ _) (F.newCall_zip_2 _ _) (λobj=>F.args_object_init_3 obj _ _) F.entry_zip_new (juo l1 l2 ix.toArray iy.toArray) ⟨cx,cy,λo1 o2 w1 w2=>?_⟩;have n1:(s1.heap.push o1).objs.size=s1.heap.objs.size+1:=bR ..;have n2:(zA s1.heap o1 o2).objs.size=s1.heap.objs.size+2:=by show(Heap.push _ _).objs.size=_;rw[bR,n1]
 have n3:(zB s1.heap o1 o2).objs.size=s1.heap.objs.size+3:=by show(Heap.push _ _).objs.size=_;rw[bR,n2]
 have n4:(zC s1.heap o1 o2).objs.size=s1.heap.objs.size+4:=by show(Heap.push _ _).objs.size=_;rw[bR,n3]
 have g5:(zD s1.heap o1 o2).get? (zC s1.heap o1 o2).objs.size=some _:=zbz _ rfl;have g4:(zD s1.heap o1 o2).get? (zB s1.heap o1 o2).objs.size=some _:=zaz _ (zbz _ rfl);have g3:(zD s1.heap o1 o2).get? (zA s1.heap o1 o2).objs.size=some _:=zaz _ (zaz _ (zbz _ rfl));have kk2:∀c o,(zA s1.heap o1 o2).get? c=some o->(zD s1.heap o1 o2).get? c=some o:=λc o e=>zaz _ (zaz _ (zaz _ e))
 have kk1:∀c o,(s1.heap.push o1).get? c=some o->(zD s1.heap o1 o2).get? c=some o:=λc o e=>kk2 c o (zaz _ e)
 have kk0:∀c o,s1.heap.get? c=some o->(zD s1.heap o1 o2).get? c=some o:=λc o e=>kk1 c o (zaz _ e)
 rw[n1]at w2 g3;rw[n2]at g3;rw[n3]at g4;rw[n4,n2,n3]at g5;show _/\_;rw[n4];refine⟨⟨_,g5,rfl⟩,wpAny_pyIter_zip g5 ?_⟩;have D:ZFar (s1.heap.objs.size+4) (s1.heap.objs.size+2) (s1.heap.objs.size+3) s1.heap.objs.size (s1.heap.objs.size+1):=zfar _;refine⟨s1.heap.objs.size+4,[s1.heap.objs.size+4,s1.heap.objs.size+2,s1.heap.objs.size+3,s1.heap.objs.size,s1.heap.objs.size+1],_,_,H1,rfl,I1.kept (t':=s1.toks) λc o e=>kk0 c o e,
  jAm k1 k2 l1 l2 _ _ _ _ _ D,⟨g5,g3,⟨_,_,g4⟩,w1.mv λo e=>kk1 _ o e,w2.mv λo e=>kk2 _ o e⟩,λb hb=>?_,q⟩
 have hb':s1.heap.objs.size<=b:=by simp only[aM,aK,or_false]at hb;show(s1.heap.objs.size:Nat)<=(b:Nat);have hb2:(b:Nat)=b:=rfl;rcases hb with q|q|q|q|q<;>(rw[q];first|exact zac _|simp_all)
 exact I1.fpOk hb' (I1.hok.fresh hb')
end
def Ite(K:Af)(l:Addr):It:=
  ⟨λi H=>∃xs x,SqL K H l xs/\xs[i]?=some x,
   λi H v H'=>∃T x,H T=none/\v=.ref T/\H'=upd H T (.tup [.int i,x])/\(∀xs,SqL K H l xs->xs[i]?=some x),
   λi H=>∃xs,SqL K H l xs/\xs.length<=i⟩
def jwv{K:Af}(l e it:Addr)(D:e≠it):
  Turn P w K (.Tuple es kk tp) (Ite K l) [e,it] e (λi h=>(∃old,IsEnum h e it i old)/\h.IsListIter it l i) where
 mem:=by simp
 obj:=λi h st b hb=>by
  obtain⟨⟨old,q1⟩,o,q2,_,q3⟩:=st;grind
 keep:=λi h h' st k=>by obtain⟨⟨old,q1⟩,q2⟩:=st;exact⟨⟨old,k e (by simp) _ q1⟩,q2.at λo z=>k it (by simp) o z⟩
 item:=by
  intro X hP hw hK hc i U s Z H E I hf st hg;subst hP hw hK;obtain⟨⟨old,q1⟩,q2⟩:=st;obtain⟨xs,x,sx,hx⟩:=hg;obtain⟨ix,rx,cx,_⟩:=I.list sx;obtain⟨u,hu,ru⟩:=rx.get hx;refine wpAny_pyNext_enum_item q1 q2 cx.isList (x:=u) (by simp_all) D λh' b1 b2 b3 b4 b5=>⟨_,rfl,?_⟩
  have hfr:H s.heap.objs.size=none:=I.hok.fresh (zac _);have hno:s.heap.get? s.heap.objs.size=none:=bW (zac _);have Te:s.heap.objs.size≠e:=cQ (zbv q1);have Ti:s.heap.objs.size≠it:=by obtain⟨o,q,_⟩:=q2;exact cQ (zbv q)
  refine wpAny_letOwnedTupleGo_enum b1 λh2 e2 s2=>?_
  have up2:∀b o,b≠e->h'.get? b=some o->h2.get? b=some o:=λb o hb z=>s2.extBut _ _ hb z
  have keep2:∀b o,b∉[e,it]->s.heap.get? b=some o->h2.get? b=some o:=λb o hb z=>by clear b1 b4;grind
  have tu:IsTup h2 s.heap.objs.size [.int i s.toks,u].toArray:=⟨_,up2 _ _ Te b3,rfl,0,rfl⟩
  have i2:h2.IsListIter it l (i+1):=b2.at λo z=>up2 _ o D.symm z
  have I2:Inv X U Z (upd H s.heap.objs.size (.tup [.int i,x])) { s with heap:=h2,toks:=s.toks+1 }:=I.spun hf keep2 (λb hb=>by
   simp only[aM,aK,or_false]at hb;rcases hb with rfl|rfl
   .grind
   .obtain⟨o,q,_⟩:=i2;grind) hno hfr (.cons ⟨_,rfl⟩ (.cons ru .nil)) (by clear b3 hc;grind[sizeLine]) tu
  refine⟨.ref s.heap.objs.size,_,I2,rfl,⟨_,x,hfr,rfl,rfl,λxs' h=>by rw[I.list_inj h sx];exact hx⟩,⟨⟨u,by assumption⟩,i2⟩,λb hb=>?_⟩;have:b≠s.heap.objs.size:=λq=>by clear b1 b4;grind
  rw[jae this];exact(hf b hb).1
 done:=by
  intro X hP hw hK hc i U s Z H E I hf st hg;subst hP hw hK;obtain⟨⟨old,q1⟩,q2⟩:=st;obtain⟨xs,sx,hend⟩:=hg;obtain⟨ix,rx,cx,_⟩:=I.list sx;have lx:=rx.length;refine wpAny_pyNext_enum_end (I.ok.hd hc) q1 q2 cx.isList (by simp;simp_all) λh' k=>⟨rfl,I.spun0 (t':=s.toks) hf λb o hb z=>?_⟩
  simp only[aM,aK,or_false,not_or]at hb;exact k b o hb.2 z
 self:=λy y y y y st h=>by grind[st,wpAny_pyIter_enum]
section
variable {X:Cx}
def jOv(K:Af)(ta:TA):TI:=λZ H R=>ta Z H λvs H1=>∃l xs,vs=[.ref l]/\SqL K H1 l xs/\R (Ite K l) H1
def jFa(hg:Gl X "enumerate")(hm:X.mg "enumerate"=none)(ha:PA X [a] ta)(hs:starEach [a] X.env=[(false,eval a X.env)]):
  PI X (.Tuple es kk tp) (.Call (.Name "enumerate" p) [a] [] pos) (jOv X.K ta):=by
 intro U s Z H R I h;refine Call_ (jko I hg hm boot_enumerate (bX (thn (ha pos U s Z H _ I h) λus s1 hzz=>?_) hs rfl));obtain⟨vs,H1,I1,r1,q1⟩:=hzz;obtain⟨l,xs,e,sx,q⟩:=q1;subst e;obtain⟨u,rfl,e1⟩:=r1.one;cases e1;obtain⟨ix,rx,cx,_⟩:=I1.list sx;refine call_enumerate_list cx.isList λh' b1 b2 b3 b4=>wpAny_pyIter_enum b1 ?_
 refine⟨s1.heap.objs.size+1,[s1.heap.objs.size+1,s1.heap.objs.size],_,_,H1,rfl,I1.kept (t':=s1.toks) λc o e=>b4 c o e,jwv l _ _ (show(s1.heap.objs.size+1:Nat)≠s1.heap.objs.size by clear b4;lia),⟨⟨_,b1⟩,b2⟩,λb hb=>?_,q⟩;have hb':s1.heap.objs.size<=b:=by simp only[aM,aK,or_false]at hb;rcases hb with q|q<;>(simp_all)
 exact I1.fpOk hb' (I1.hok.fresh hb')
end
end L2
namespace SI
open L2
section
variable {X:Cx}
def pr(J:Rho):J<+:J:=aF J
def pget{i:Nat}(h:Paired F l m)(e:l[i]?=some x):∃y,m[i]?=some y/\F x y:=by
 induction h generalizing i with
 |nil=>cases e
 |cons a t ih=>cases i with
  |zero=>cases e;exact⟨_,rfl,a⟩
  |succ j=>exact ih e
@[elab_as_elim] theorem pc1{α β:Type}{F:α->β->Prop}{a:α}{us:List β}{motive:List β->Prop}(h:Paired F [a] us)(k:∀x,F a x->motive [x]):motive us:=by cases h with|cons r t=>cases t;exact k _ r
@[elab_as_elim] theorem pc2{α β:Type}{F:α->β->Prop}{a b:α}{us:List β}{motive:List β->Prop}(h:Paired F [a,b] us)(k:∀x y,F a x->F b y->motive [x,y]):motive us:=by cases h with|cons r t=>exact pc1 t λz=>k _ _ r
def ob{o:Option α}{f:α->Option β}{p:Prop}(h:o.bind f=some b)(k:∀a,o=some a->f a=some b->p):p:=by cases o with|none=>cases h|some a=>exact k a rfl h
noncomputable def lsO:SO->Option (List D)
|.lst ds=>some ds
|.fro ds=>some ds
|_=>none
noncomputable def tuO:SO->Option (List D)
|.tup ds=>some ds
|_=>none
def R.rd{K:Af}{i:Nat}{u:V}{o:SO}(h:R mg J A H)(r:RV J (.obj i) u)(e:A[i]?=some o):∃a,u=.ref a/\J[i]?=some a/\At mg J H a o:=by obtain⟨a,e1,rfl⟩:=r;exact⟨a,rfl,e1,h.ats i a o e1 e⟩
def R.rdL(h:R mg J A H)(r:RV J (.obj i) u)(e:A[i]?.bind lsO=some ds):∃a xs,u=.ref a/\SqL K H a xs/\Paired (RV J) ds xs:=by
 obtain⟨o,e1,e2⟩:=aG.mp e;obtain⟨a,rfl,_,t⟩:=h.rd (K:=K) r e1
 cases o with
 |lst _=>cases e2;obtain⟨xs,p,q⟩:=t;exact⟨a,xs,rfl,SqL.of p,q⟩
 |fro _=>cases e2;obtain⟨xs,p,q⟩:=t;exact⟨a,xs,rfl,.inl p,q⟩
 |_=>cases e2
def R.rdT(h:R mg J A H)(r:RV J (.obj i) u)(e:A[i]?.bind tuO=some ds):∃a xs,u=.ref a/\SqT K H a xs/\Paired (RV J) ds xs:=by
 obtain⟨o,e1,e2⟩:=aG.mp e;obtain⟨a,rfl,_,t⟩:=h.rd (K:=K) r e1
 cases o with
 |tup _=>cases e2;obtain⟨xs,p,q⟩:=t;exact⟨a,xs,rfl,SqT.of p,q⟩
 |_=>cases e2
abbrev Itr:=Nat->MS (Option D)
def ItS(mg:qc)(J:Rho)(t:Itr)(Jq:It):Prop:=∀(i:Nat) {A o A'} ρ1 H,t i A=some (o,A')->J<+:ρ1->R mg ρ1 A H->match o with
 |.ok (some d)=>Jq.go i H/\∀x H',Jq.yld i H x H'->∃ρ2,ρ1<+:ρ2/\R mg ρ2 A' H'/\RV ρ2 d x
 |.ok none=>Jq.stop i H/\A'=A
 |.error _=>False
def SW(X:Cx)(Er:Err)(tg iter:Expr)(f:DSt->MS Itr):Prop:=PI X tg iter (tS (ItS X.mg) X.mg Er f)
def yldT(h:R mg J A H)(hT:H T=none)(r1:RV J d1 x)(r2:RV J d2 y):∃ρ2,J<+:ρ2/\R mg ρ2 (A++[.tup [d1,d2]]) (upd H T (.tup [x,y]))/\RV ρ2 (.obj A.length) (.ref T):=
 have l:=aA J [T]
 ⟨_,l,h.new hT ⟨_,jad,.cons (r1.mono l) (.cons (r2.mono l) .nil)⟩,T,by rw[<- h.len];simp,rfl⟩
abbrev Tg:=D->DSt->Sto->Option DSt
inductive tT(mg:qc)(g:Tg)(v:V)(Z:St)(H:Hp)(Q:St->Hp->Prop):Prop
| mk (J:Rho) (Y:DSt) (A:Sto) (h:R mg J A H) (l:Lo J Y Z) (d:D) (r:RV J d v) (Y':DSt) (hf:g d Y A=some Y') (k:∀Z',Lo J Y' Z'->Q Z' H)
def SG(X:Cx)(tg:Expr)(g:Tg):Prop:=PG X tg (tT X.mg g)
noncomputable def jhz(i:Nat):Tg:=λd Y z=>some (Y.set i (some d))
def jGd(hN:X.N.Nodup)(hi:X.N[i]?=some x)(hx:Loc X.env.scope x)(hf:An X x):SG X (.Name x pos) (jhz i):=by rintro U s Z H v u Q I rv ⟨J,Y,A,h,l,d,r,Y',e,k⟩;cases e;exact jvc hN hi hx hf _ s Z H v u Q I rv (k _ (l.set r))
def forS(t:Itr)(g:Tg)(body:DSt->MS Out):Nat->Nat->DSt->MS Out
|0,_,_=>λz=>none
|n+1,j,Y=>(t j).b λo=>match o with
  |none=>MS.p (.nx Y)
  |some d=>λA=>match g d Y A with
   |none=>none
   |some Y1=>((body Y1).b λo=>match o with
    |.nx Y2=>forS t g body n (j+1) Y2
    |.ct Y2=>forS t g body n (j+1) Y2
    |.bk Y2=>MS.p (.nx Y2)
    |.rt d=>MS.p (.rt d)) A
def oFor(n:Nat)(fi:DSt->MS Itr)(g:Tg)(body:DSt->MS Out):DSt->MS Out:=λY=>(fi Y).b λt=>forS t g body n 0 Y
def jMr(hp:PassesOwn (model X.prog X.w) X.A X.env X.xe)(hc:X.calm=true)(hi:SW X Er tg iter fi)(hg:SG X tg g)(hb:SSs X Er body gb)(hs:Ao X iter):SS X Er (.For tg iter body [] pos) (oFor n fi g gb):=by
 refine sgO (jK8 hp hc hi hg hb hs) λh l q hf k=>bO h l hf k λt A1 hf Jq ρ1 H1 h l it k v=>?_
 refine⟨λi m Z' H'=>∃J' Y' A',R _ J' A' H'/\Lo J' Y' Z'/\ρ1<+:J'/\forS t g gb m i Y' A'=some q,⟨n,ρ1,_,A1,h,l,pr _,hf⟩,?_⟩;rintro i m Z' H' ⟨ρ2,Y2,A2,h2,l2,p2,e2⟩
 cases m with
 |zero=>cases e2
 |succ m=>
  rcases MS.b_inv e2 with ⟨o,A3,e3,e4⟩|⟨x,A3,e3,rfl⟩
  .have:=it i ρ2 H' e3 p2 h2
   cases o with
   |none=>obtain⟨st,rfl⟩:=this;cases e4;exact .inl ⟨st,k Z' ρ2 H' p2 h2 l2⟩
   |some d=>
    refine .inr ⟨this.1,_,λZ5 H5 z=>⟨m,cM _,z⟩,λx H5 y=>?_⟩;obtain⟨ρ5,p5,h5,r5⟩:=this.2 x H5 y;dsimp only at e4
    cases e6:g d Y2 A3 with
    |none=>simp_all
    |some Y1=>
     rw[e6]at e4;refine⟨ρ5,Y2,A3,h5,l2.mono p5,d,r5,Y1,e6,λZ6 l6=>?_⟩;rcases MS.b_inv e4 with ⟨o,A7,e7,e8⟩|⟨x,A7,e7,rfl⟩
     .refine⟨ρ5,Y1,A3,h5,l6,_,e7,?_⟩
      cases o with
      |nx Y8=>exactλZ8 J8 H8 p8 h8 l8=>⟨J8,Y8,A7,h8,l8,p2.trans (p5.trans p8),e8⟩
      |ct Y8=>exactλZ8 J8 H8 p8 h8 l8=>⟨J8,Y8,A7,h8,l8,p2.trans (p5.trans p8),e8⟩
      |bk Y8=>cases e8;exact k.up (p2.trans p5)
      |rt d8=>cases e8;exact k.up (p2.trans p5)
     .exact⟨ρ5,Y1,A3,h5,l6,_,e7,k.up (p2.trans p5)⟩
  .exact (it i ρ2 H' e3 p2 h2).elim
end
end SI
namespace DL
open L2
set_option genInjectivity true in
inductive D where
| non|bl (b:Bool)|int (i:Int)|str (x:Str)|ty (n:String)|obj (i:Nat)|tup (xs:List D)|lst (xs:List D)
structure XD where
 cls:Str
 fs:List (Str×D)
abbrev M(α:Type):=Option (Except XD α)
noncomputable def M.b{α β:Type}(m:M α)(f:α->M β):M β:=match m with
 |none=>none
 |some (.error x)=>some (.error x)
 |some (.ok a)=>f a
noncomputable def M.p{α:Type}(a:α):M α:=some (.ok a)
noncomputable def M.o{α:Type}:Option α->M α
|none=>none
|some a=>some (.ok a)
inductive M.BInv{α β:Type}(m:M α)(f:α->M β)(r:Except XD β):Prop
| ok (a:α) (h1:m=some (.ok a)) (h2:f a=some r)
| err (x:XD) (h1:m=some (.error x)) (h2:r=.error x)
def M.b_inv(h:m.b f=some r):M.BInv m f r:=by
 cases m with
 |none=>cases h
 |some e=>
  cases e with
  |error x=>exact .err x rfl (zby h).symm
  |ok a=>exact .ok a rfl h
def M.o_inv(h:M.o m=some r):∃a,m=some a/\r=.ok a:=by
 cases m with
 |none=>cases h
 |some a=>exact⟨a,rfl,(zby h).symm⟩
@[simp] theorem M.b_ok(a:α)(f:α->M β):M.b (some (.ok a)) f=f a:=rfl
@[simp] theorem M.b_p(a:α)(f:α->M β):M.b (M.p a) f=f a:=rfl
@[simp] theorem M.b_err(x:XD)(f:α->M β):M.b (some (.error x)) f=some (.error x):=rfl
@[simp] theorem M.o_some(a:α):M.o (some a)=M.p a:=rfl
abbrev Rho:=Nat->Ag
mutual
def Rep(J:Rho)(K:Af)(H:Hp):D->V->Prop
|.non,v=>v=.non
|.bl b,v=>v=.bl b
|.int i,v=>v=.int i
|.str x,v=>v=.str x
|.ty n,v=>v=.ty n
|.obj i,v=>∃a,J i=some a/\v=.ref a
|.tup ds,v=>∃a xs,v=.ref a/\SqT K H a xs/\Reps J K H ds xs
|.lst ds,v=>∃a xs,v=.ref a/\SqL K H a xs/\Reps J K H ds xs
def Reps(J:Rho)(K:Af)(H:Hp):List D->List V->Prop
|[],xs=>xs=[]
|d::ds,xs=>∃v vs,xs=v::vs/\Rep J K H d v/\Reps J K H ds vs
end
def jvz(e:Same H H')(h:Rd H a u):Rd H' a u:=by
 rcases h with h|⟨o,h⟩
 .exact .inl (e a _ h)
 .exact .inr ⟨o,e a _ h⟩
def jnf(e:Same H H')(h:SqL K H a xs):SqL K H' a xs:=h.imp (jvz e) id
def jq1(e:Same H H')(h:SqT K H a xs):SqT K H' a xs:=h.imp (jvz e) id
mutual
theorem Rep.mono(e:Same H H'):∀{d:D}{v:V},Rep J K H d v->Rep J K H' d v
|.non,_,h=>by unfold Rep at h |-;exact h
|.bl _,_,h=>by unfold Rep at h |-;exact h
|.int _,_,h=>by unfold Rep at h |-;exact h
|.str _,_,h=>by unfold Rep at h |-;exact h
|.ty _,_,h=>by unfold Rep at h |-;exact h
|.obj _,_,h=>by unfold Rep at h |-;exact h
|.tup _,_,h=>by
  unfold Rep at h |-
  obtain⟨a,xs,q1,q2,q3⟩:=h;exact⟨a,xs,q1,jq1 e q2,Reps.mono e q3⟩
|.lst _,_,h=>by
  unfold Rep at h |-
  obtain⟨a,xs,q1,q2,q3⟩:=h;exact⟨a,xs,q1,jnf e q2,Reps.mono e q3⟩
theorem Reps.mono(e:Same H H'):∀{ds:List D}{vs:List V},Reps J K H ds vs->Reps J K H' ds vs
|[],_,h=>by unfold Reps at h |-;exact h
|_::_,_,h=>by
  unfold Reps at h |-
  obtain⟨v,vs,q1,q2,q3⟩:=h;exact⟨v,vs,q1,Rep.mono e q2,Reps.mono e q3⟩
end
def reps_nil:Reps J K H [] vs↔vs=[]:=Iff.rfl
def reps_cons:Reps J K H (d::ds) vs↔∃v r,vs=v::r/\Rep J K H d v/\Reps J K H ds r:=by rfl
def Reps.cons(h:Rep J K H d v)(t:Reps J K H ds vs):Reps J K H (d::ds) (v::vs):=reps_cons.mpr ⟨v,vs,rfl,h,t⟩
def Reps.nil:Reps J K H [] []:=reps_nil.mpr rfl
theorem Reps.length:∀{ds:List D}{vs:List V},Reps J K H ds vs->vs.length=ds.length
|[],_,h=>by rw[reps_nil.mp h];rfl
|_::_,_,h=>by obtain⟨v,r,rfl,_,t⟩:=reps_cons.mp h;simp[Reps.length t]
theorem Reps.get:∀{ds:List D}{vs:List V}{i:Nat}{d:D},Reps J K H ds vs->ds[i]?=some d->∃v,vs[i]?=some v/\Rep J K H d v
|[],_,_,_,_,e=>by simp at e
|_::_,_,0,_,h,e=>by
  obtain⟨v,r,rfl,q,_⟩:=reps_cons.mp h;simp_all
|_::_,_,i+1,_,h,e=>by
  obtain⟨v,r,rfl,_,t⟩:=reps_cons.mp h;obtain⟨u,q1,q2⟩:=Reps.get t (by simpa using e);grind
def rep_int:Rep J K H (.int i) v↔v=.int i:=Iff.rfl
def rep_str:Rep J K H (.str x) v↔v=.str x:=Iff.rfl
def rep_bl:Rep J K H (.bl b) v↔v=.bl b:=Iff.rfl
def rep_non:Rep J K H .non v↔v=.non:=Iff.rfl
def rep_tup:Rep J K H (.tup ds) v↔∃a xs,v=.ref a/\SqT K H a xs/\Reps J K H ds xs:=by rfl
def rep_lst:Rep J K H (.lst ds) v↔∃a xs,v=.ref a/\SqL K H a xs/\Reps J K H ds xs:=by rfl
theorem reps_ints:∀{ns:Ae}{vs:List V},Reps J K H (ns.map .int) vs↔vs=ns.map V.int
|[],vs=>reps_nil
|n::ns,vs=>by
  constructor
  .rintro⟨v,r,rfl,h1,h2⟩;rw[rep_int.mp h1,reps_ints.mp h2];rfl
  .rintro rfl;exact⟨_,_,rfl,rep_int.mpr rfl,reps_ints.mpr rfl⟩
noncomputable def hid(H:Hp)(G:qf):Hp:=λb=>if G b=true then none else H b
def hid_some:hid H G b=some o↔G b=false/\H b=some o:=by grind[hid]
def jdo:Same (hid H G) H:=λb o q=>(hid_some.mp q).2
abbrev DSt:=List (Option D)
def vR(i:Nat):DSt->M D:=λY=>M.o (Y[i]?).join
def fC(d:D):DSt->M D:=λz=>M.p d
def f2(g:D->D->Option D)(fa fb:DSt->M D):DSt->M D:=λY=>(fa Y).b λx=>(fb Y).b λy=>M.o (g x y)
def f1(g:D->Option D)(fa:DSt->M D):DSt->M D:=λY=>(fa Y).b λx=>M.o (g x)
def t2(g:D->D->Option D)(fa fb:DSt->M D):DSt->M Bool:=λY=>(fa Y).b λx=>(fb Y).b λy=>match g x y with
 |some (.bl b)=>M.p b
 |_=>none
def fNil:DSt->M (List D):=λz=>M.p []
def fCons(f:DSt->M D)(g:DSt->M (List D)):DSt->M (List D):=λY=>(f Y).b λx=>(g Y).b λxs=>M.p (x::xs)
def fL(k:List D->Option D)(g:DSt->M (List D)):DSt->M D:=λY=>(g Y).b λxs=>M.o (k xs)
def OpD(K:Af)(g:D->D->Option D)(r:R2):Prop:=∀x y d,g x y=some d->∀(J:Rho)(H:Hp)(G:qf) u v (Q:VK),(∀p,H p=none->G p=false)->Rep J K (hid H G) x u->Rep J K (hid H G) y v ->
 (∀w H',Same H H'->Rep J K (hid H' G) d w->Q w H')->r u v H Q
def UnD(K:Af)(g:D->Option D)(r:V->Hp->VK->Prop):Prop:=∀x d,g x=some d->∀(J:Rho)(H:Hp)(G:qf) u (Q:VK),(∀p,H p=none->G p=false)->Rep J K (hid H G) x u ->
 (∀w H',Same H H'->Rep J K (hid H' G) d w->Q w H')->r u H Q
def CaD(K:Af)(g:List D->Option D)(r:List V->Hp->VK->Prop):Prop:=∀xs d,g xs=some d->∀(J:Rho)(H:Hp)(G:qf) us (Q:VK),(∀p,H p=none->G p=false)->Reps J K (hid H G) xs us ->
 (∀w H',Same H H'->Rep J K (hid H' G) d w->Q w H')->r us H Q
noncomputable def gTupD(xs:List D):Option D:=if xs.length<=sizeLine then some (.tup xs)else none
noncomputable def gLstD(xs:List D):Option D:=if xs.length<=sizeLine then some (.lst xs)else none
def fAnd(fa fb:DSt->M D):DSt->M D:=λY=>(fa Y).b λx=>match x with
 |.bl true=>fb Y
 |.bl false=>M.p (.bl false)
 |_=>none
def fOr(fa fb:DSt->M D):DSt->M D:=λY=>(fa Y).b λx=>match x with
 |.bl true=>M.p (.bl true)
 |.bl false=>fb Y
 |_=>none
noncomputable def gNot:D->Option D
|.bl b=>some (.bl !b)
|_=>none
def tAnd(ta tb:DSt->M Bool):DSt->M Bool:=λY=>(ta Y).b λx=>if x=true then tb Y else M.p false
def tOr(ta tb:DSt->M Bool):DSt->M Bool:=λY=>(ta Y).b λx=>if x=true then M.p true else tb Y
def tNot(ta:DSt->M Bool):DSt->M Bool:=λY=>(ta Y).b λx=>M.p !x
def fIf(tc:DSt->M Bool)(fa fb:DSt->M D):DSt->M D:=λY=>(tc Y).b λx=>if x=true then fa Y else fb Y
noncomputable def truD:D->Option Bool
|.non=>some false
|.bl b=>some b
|.int i=>some (i != 0)
|.str x=>if x.length<=sizeLine then some ((x.length:Int) != 0)else none
|.tup xs=>some !xs.isEmpty
|.lst xs=>some !xs.isEmpty
|_=>none
def tTru(fa:DSt->M D):DSt->M Bool:=λY=>(fa Y).b λx=>M.o (truD x)
def fChain(g g':D->D->Option D)(fa fb fc:DSt->M D):DSt->M D:=λY=>(fa Y).b λx=>(fb Y).b λy=>match g x y with
 |some (.bl true)=>(fc Y).b λz=>M.o (g' y z)
 |some (.bl false)=>M.p (.bl false)
 |_=>none
set_option genInjectivity true in
inductive Out where
| nx (Y:DSt)|rt (d:D)|bk (Y:DSt)|ct (Y:DSt)
def gNx:DSt->M Out:=λY=>M.p (.nx Y)
def gSeq(g1 g2:DSt->M Out):DSt->M Out:=λY=>(g1 Y).b λo=>match o with
 |.nx Y'=>g2 Y'
 |o=>M.p o
def gSet(i:Nat)(f:DSt->M D):DSt->M Out:=λY=>(f Y).b λd=>M.p (.nx (Y.set i (some d)))
def gRet(f:DSt->M D):DSt->M Out:=λY=>(f Y).b λd=>M.p (.rt d)
def gDrop(f:DSt->M D):DSt->M Out:=λY=>(f Y).b λz=>M.p (.nx Y)
def gIf(t:DSt->M Bool)(g1 g2:DSt->M Out):DSt->M Out:=λY=>(t Y).b λb=>if b=true then g1 Y else g2 Y
noncomputable def gNever:DSt->M Out:=λz=>none
def gApp(i:Nat)(f:DSt->M D):DSt->M Out:=λY=>(f Y).b λd=>match (Y[i]?).join with
 |some (.lst ds)=>if ds.length<sizeLine then M.p (.nx (Y.set i (some (.lst (ds++[d])))))else none
 |_=>none
def forD(g:DSt->M Out)(tg:D->DSt->Option DSt):List D->DSt->M Out
|[],Y=>M.p (.nx Y)
|d::ds,Y=>match tg d Y with
  |none=>none
  |some Y1=>(g Y1).b λo=>match o with
   |.nx Y'=>forD g tg ds Y'
   |.ct Y'=>forD g tg ds Y'
   |.bk Y'=>M.p (.nx Y')
   |.rt v=>M.p (.rt v)
def gFor(fi:DSt->M (List D))(tg:D->DSt->Option DSt)(g:DSt->M Out):DSt->M Out:=λY=>(fi Y).b λds=>forD g tg ds Y
def whileD(t:DSt->M Bool)(g:DSt->M Out):Nat->DSt->M Out
|0,_=>none
|n+1,Y=>(t Y).b λb=>if b=true then(g Y).b λo=>match o with
   |.nx Y'=>whileD t g n Y'
   |.ct Y'=>whileD t g n Y'
   |.bk Y'=>M.p (.nx Y')
   |.rt v=>M.p (.rt v)
  else M.p (.nx Y)
noncomputable def gName(i:Nat):D->DSt->Option DSt:=λd Y=>some (Y.set i (some d))
noncomputable def gTup2(i j:Nat):D->DSt->Option DSt:=λd Y=>match d with
 |.tup [x,y]=>some ((Y.set i (some x)).set j (some y))
 |_=>none
end DL
namespace L2
open PyProof.Rows
def iSeq(K:Af)(tl:TE):TI:=λZ H R=>tl Z H λx H1=>(∃a,x=.ref a/\(∃xs,SqL K H1 a xs)/\R (Itl K a) H1)\/(∃a,x=.ref a/\(∃xs,SqT K H1 a xs)/\R (Itt K a) H1)
def jK2(hl:PE X l tl):PI X tg l (iSeq X.K tl):=by
 intro U s Z H R I h;refine thn (hl _ s Z H _ I h) λv s1 hzz=>?_
 obtain⟨x,H1,I1,r1,q1⟩:=hzz;have fp1:∀b∈[s1.heap.objs.size],FpOk X _ H1 b:=λb hb=>by
  have e:=by simpa using hb
  subst e;exact I1.fpOk (zac _) (I1.hok.fresh (zac _))
 rcases q1 with ⟨a,e,⟨xs,hq⟩,q⟩|⟨a,e,⟨xs,hq⟩,q⟩
 .subst e;cases r1;obtain⟨its,rv,p,hz⟩:=I1.list hq;exact dS p.isList ⟨_,_,_,_,H1,rfl,I1.kept λb o e=>zaz _ e,jww a _,⟨_,zbz _ rfl,rfl,rfl⟩,fp1,q⟩
 .subst e;cases r1;obtain⟨its,rv,p,hz⟩:=I1.tuple hq;exact f9 (p) ⟨_,_,_,_,H1,rfl,I1.kept λb o e=>zaz _ e,jsh a _,⟨_,zbz _ rfl,rfl,rfl⟩,fp1,q⟩
noncomputable def Itv(val:Nat->V)(n:Nat):It:=⟨λi z=>i<n,λi H x H'=>H'=H/\x=val i,λi z=>i=n⟩
noncomputable def jne(nm:String):Bool:=!["enumerate","zip","dict_itemiterator","dict_reverseitemiterator","odict_iterator","itertools.zip_longest","itertools.pairwise"].contains nm
def jha{K:Af}(it:Addr)(val:Nat->V)(n:Nat)(Stn:Nat->Heap->Prop)(W:∀A:Around,A.handled=none->Walks P w A it [it] [it] n (λi v=>RelV (val i) v) Stn)
  (ob:∀i h,Stn i h->∃o nm vs,h.get? it=some o/\o.cls=.type nm/\o.data=.fields vs/\jne nm=true)
  (sf:∀(A:Around)(i:Nat)(s:Shared)(Q:qe)(E:qe),Stn i s.heap->Q (.ref it) s->wpAny (model P w) A (pyIter (.ref it)) Q E s):Turn P w K tg (Itv val n) [it] it Stn where
 mem:=by simp
 obj:=λi h st b hb=>by grind
 keep:=λi h h' st k=>(W { handled:=none,frames:=some []} rfl).frame i h h' st k
 item:=by
  intro X hP hw hK hc i U s Z H E I hf st hg;refine(W X.A (I.ok.hd hc)).item i s _ _ hg st λv h' tk hv st' kk=>⟨v,rfl,?_⟩
  obtain⟨o,nm,vs,q1,q2,q3,q4⟩:=ob _ _ st';exact jDw q1 q2 q3 (by grind[jne]) ⟨_,H,(I.spun0 hf kk),hv,⟨rfl,rfl⟩,st',λb hb=>(hf b hb).1⟩
 done:=by intro X hP hw hK hc i U s Z H E I hf st hg;subst hg;exact(W X.A (I.ok.hd hc)).done s _ _ st λh' tk kk=>⟨rfl,I.spun0 hf kk⟩
 self:=λA i s Q E st h=>sf A i s Q E st h
section
variable {X:Cx}
def jGg(lo hi st:Int)(h:0<st):0<=Builtin.Range.rangeSize lo hi st:=by
 unfold Builtin.Range.rangeSize;rw[aD h]
 split
 .have:=Int.ediv_nonneg (a:=hi-lo-1) (b:=st) (by lia) (by lia);omega
 .lia
def jlm{U:qd}{Z:St}{H:Hp}{s:Shared}{R:It->Hp->Prop}{E:qe}{lo hi st:Int}{t u v:Tok}{tk:Nat}(I:Inv X U Z H s)(hst:0<st)
  (q:R (Itv (λi=>.int (lo+(i:Nat)*st)) (Builtin.Range.rangeSize lo hi st).toNat) H):Am X (pyIter (.ref s.heap.objs.size)) (PIE X U Z tg R) E { s with heap:=s.heap.push { cls:=.type "range",data:=.fields #[.int lo t,.int hi u,.int st v]},toks:=tk }:=by
 have I1:Inv X _ Z H { s with heap:=s.heap.push { cls:=.type "range",data:=.fields #[.int lo t,.int hi u,.int st v]},toks:=tk }:=I.kept λb o e=>zaz _ e
 have hn:=jGg lo hi st hst;generalize hN:(Builtin.Range.rangeSize lo hi st).toNat=N at q;have hN':Builtin.Range.rangeSize lo hi st=(N):=by lia
 have fpk:∀b∈[(s.heap.push { cls:=.type "range",data:=.fields #[.int lo t,.int hi u,.int st v]}).objs.size],FpOk X _ H b:=λb hb=>by
  have e:b=(s.heap.push { cls:=.type "range",data:=.fields #[.int lo t,.int hi u,.int st v]}).objs.size:=by simpa using hb
  subst e;exact I1.fpOk (zac _) (I1.hok.fresh (zac _))
 have e1:lo+((0:Nat))*st=lo:=by simp
 have e2:Builtin.Range.rangeSize lo hi st-((0:Nat))=Builtin.Range.rangeSize lo hi st:=by simp
 by_cases hsm:Builtin.Range.small lo hi st=true
 .refine wpAny_pyIter_range (IsRange.new ..) hsm ?_;refine⟨_,[_],_,_,H,rfl,I1.kept λb o e=>zaz _ e,jha _ _ N _ (λA hA=>Walks.range hA _ lo st N) (λi h e=>⟨_,_,_,e,rfl,rfl,rfl⟩) (λA i s Q E e h=>wpAny_pyIter_rangeiter e h),?_,fpk,q⟩;rw[<- hN',e1,e2];exact zbz _ rfl
 .refine wpAny_pyIter_longrange (IsRange.new ..) (by grind) ?_;refine⟨_,[_],_,_,H,rfl,I1.kept λb o e=>zaz _ e,jha _ _ N _ (λA hA=>Walks.longrange hA _ lo st N) (λi h e=>⟨_,_,_,e,rfl,rfl,rfl⟩) (λA i s Q E e h=>wpAny_pyIter_longiter e h),?_,fpk,q⟩;rw[<- hN',e1,e2];exact zbz _ rfl
def iRgA(ta:TA):TI:=λZ H R=>ta Z H λvs H1=>(∃j:Int,vs=[.int j]/\R (Itv (λi=>.int (0+(i:Nat)*1)) (Builtin.Range.rangeSize 0 j 1).toNat) H1) \/
 (∃i j:Int,vs=[.int i,.int j]/\R (Itv (λn=>.int (i+(n:Nat)*1)) (Builtin.Range.rangeSize i j 1).toNat) H1)
def jy6(hg:Gl X "range")(hm:X.mg "range"=none)(ha:PA X (a::es) ta)(hs:starEach (a::es) X.env=(false,eval a X.env)::starEach es X.env)(hp:zbT pos es X.env):
  PI X tg (.Call (.Name "range" p) (a::es) [] pos) (iRgA ta):=by
 intro U s Z H R I h;refine Call_ (jko I hg hm boot_range (bX (thn (ha pos _ s Z H _ I h) λus s1 hzz=>?_) hs hp));obtain⟨vs,H1,I1,r1,q1⟩:=hzz;rcases q1 with ⟨j,e,q⟩|⟨i,j,e,q⟩
 .subst e;obtain⟨u,rfl,t,rfl⟩:=r1.one;exact call_range_1 (jlm I1 (by decide) q)
 .subst e;obtain⟨u,v,rfl,⟨t,rfl⟩,⟨t',rfl⟩⟩:=r1.two;exact call_range_2 (jlm I1 (by decide) q)
def iStr(tl:TE):TI:=λZ H R=>tl Z H λx H1=>∃z,x=.str z/\R (Itv (λi=>.str ⟨#[z.cps.getD i 0]⟩) z.cps.size) H1
def jK3(hl:PE X l tl):PI X tg l (iStr tl):=by
 intro U s Z H R I h;refine thn (hl _ s Z H _ I h) λv s1 hzz=>?_
 obtain⟨x,H1,I1,r1,q1⟩:=hzz;obtain⟨z,e,q⟩:=q1;subst e;obtain⟨t,rfl⟩:=r1;have fp1:∀b∈[s1.heap.objs.size],FpOk X _ H1 b:=λb hb=>by
  have e:=by simpa using hb
  subst e;exact I1.fpOk (zac _) (I1.hok.fresh (zac _))
 have wk:∀i v,SignAt z i v->RelV (.str ⟨#[z.cps.getD i 0]⟩) v:=λi v ⟨c,u,q1,q2⟩=>⟨u,by simp_all⟩
 cases ha:z.cps.all _
 .exact wpAny_pyIter_wide ha ⟨_,[_],_,_,H1,rfl,I1.kept λb o e=>zaz _ e,jha _ _ _ _ (λA hA=>(Walks.strWide hA _ z t).weaken wk) (λi h ⟨o,q1,q2,q3⟩=>⟨o,_,_,q1,q2,q3,rfl⟩) (λA i s Q E e h=>wpAny_pyIter_striter_wide e h),⟨_,zbz _ rfl,rfl,rfl⟩,fp1,q⟩
 .exact wpAny_pyIter_ascii ha ⟨_,[_],_,_,H1,rfl,I1.kept λb o e=>zaz _ e,jha _ _ _ _ (λA hA=>(Walks.strAscii hA _ z t).weaken wk) (λi h ⟨o,q1,q2,q3⟩=>⟨o,_,_,q1,q2,q3,rfl⟩) (λA i s Q E e h=>wpAny_pyIter_striter_ascii e h),⟨_,zbz _ rfl,rfl,rfl⟩,fp1,q⟩
end
end L2
namespace DL
open L2
noncomputable def seqD:D->Option (List D)
|.lst ds=>some ds
|.tup ds=>some ds
|_=>none
def iSeqD(f:DSt->M D):DSt->M (List D):=λY=>(f Y).b λd=>M.o (seqD d)
noncomputable def jbn(lo:Int)(n:Nat):List D:=(List.range n).map λi=>.int (lo+(i:Nat))
def rangeArgs:List D->Option (List D)
|[.int j]=>some (jbn 0 j.toNat)
|[.int i,.int j]=>some (jbn i (j-i).toNat)
|_=>none
noncomputable def zipD:List D->List D->List D
|x::xs,y::ys=>.tup [x,y]::zipD xs ys
|_,_=>[]
def zipArgs:List D->Option (List D)
|[x,y]=>match seqD x,seqD y with
  |some xs,some ys=>some (zipD xs ys)
  |_,_=>none
|_=>none
noncomputable def enumD:Int->List D->List D
|_,[]=>[]
|k,d::ds=>.tup [.int k,d]::enumD (k+1) ds
def enumArgs:List D->Option (List D)
|[.lst xs]=>some (enumD 0 xs)
|_=>none
def iArgs(k:List D->Option (List D))(f:DSt->M (List D)):DSt->M (List D):=λY=>(f Y).b λds=>M.o (k ds)
def sqv_t:SqV true K H l xs↔SqT K H l xs:=Iff.rfl
def sqv_l:SqV false K H l xs↔SqL K H l xs:=Iff.rfl
def jLu(e:Same H H')(h:SqV k K H l xs):SqV k K H' l xs:=by
 cases k with
 |true=>exact jq1 e h
 |false=>exact jnf e h
def jv5(hd:seqD d=some ds)(h:Rep J K H d v):∃k l xs,v=.ref l/\SqV k K H l xs/\Reps J K H ds xs:=by
 cases d with
 |lst es=>cases hd;obtain⟨q,xs,rfl,q2,q3⟩:=rep_lst.mp h;exact⟨false,q,xs,rfl,q2,q3⟩
 |tup es=>cases hd;obtain⟨q,xs,rfl,q2,q3⟩:=rep_tup.mp h;exact⟨true,q,xs,rfl,q2,q3⟩
 |_=>cases hd
noncomputable def compD(h:D->DSt->Option DSt)(tc:DSt->M Bool)(fe:DSt->M D):List D->DSt->Option (List D)
|[],_=>some []
|d::ds,Y=>match h d Y with
  |none=>none
  |some Y1=>match tc Y1 with
   |some (.ok true)=>(match fe Y1 with
    |some (.ok y)=>(compD h tc fe ds Y1).map (y::·)
    |_=>none)
   |some (.ok false)=>compD h tc fe ds Y1
   |_=>none
noncomputable def innerD(own:Nat)(caps:qh)(Y:DSt):DSt:=List.replicate own none++caps.map λp=>(Y[p.2]?).join
def fComp(own:Nat)(caps:qh)(fi:DSt->M (List D))(h:D->DSt->Option DSt)(tc:DSt->M Bool)(fe:DSt->M D):DSt->M D:=λY=>(fi Y).b λds=>M.o ((compD h tc fe ds (innerD own caps Y)).bind gLstD)
def tYes:DSt->M Bool:=λz=>M.p true
noncomputable def capsFree(O:Aa)(caps:qh):Bool:=caps.all λp=>!O.contains p.2
mutual
def okD:D->Bool
|.ty _=>false
|.obj _=>false
|.tup ds=>okDs ds
|.lst ds=>okDs ds
|_=>true
def okDs:List D->Bool
|[]=>true
|d::ds=>okD d&&okDs ds
end
mutual
def depD:D->Nat
|.tup ds=>depDs ds+1
|.lst ds=>depDs ds+1
|_=>0
def depDs:List D->Nat
|[]=>0
|d::ds=>max (depD d) (depDs ds)
end
mutual
def eqB:D->D->Bool
|.non,.non=>true
|.bl a,.bl b=>a==b
|.bl a,.int b=>(if a then 1 else 0)==b
|.int a,.bl b=>a==(if b then 1 else 0)
|.int a,.int b=>a==b
|.str a,.str b=>a==b
|.tup a,.tup b=>eqBs a b
|.lst a,.lst b=>eqBs a b
|_,_=>false
def eqBs:List D->List D->Bool
|[],[]=>true
|a::as,b::bs=>eqB a b&&eqBs as bs
|_,_=>false
end
mutual
theorem jk4:∀d:D,okD d=true->eqB d d=true
|.non,_=>by unfold eqB;rfl
|.bl _,_=>by unfold eqB;simp
|.int _,_=>by unfold eqB;simp
|.str _,_=>by unfold eqB;simp
|.ty _,h=>by unfold okD at h;cases h
|.obj _,h=>by unfold okD at h;cases h
|.tup ds,h=>by unfold okD at h;unfold eqB;exact eqBs_refl ds h
|.lst ds,h=>by unfold okD at h;unfold eqB;exact eqBs_refl ds h
theorem eqBs_refl:∀ds:List D,okDs ds=true->eqBs ds ds=true
|[],_=>by unfold eqBs;rfl
|d::ds,h=>by simp_all [okDs,aC,eqBs,jk4,eqBs_refl]
end
theorem jpz:∀{as bs:List D},eqBs as bs=true->as.length=bs.length
|[],[],_=>rfl
|[],_::_,h=>by trivial
|_::_,[],h=>by trivial
|a::as,b::bs,h=>by unfold eqBs at h;rw[aC]at h;simp[jpz h.2]
theorem jpy:∀{as bs:List D},as.length=bs.length->∀(k:Nat->Bool),(∀j a b,as[j]?=some a->bs[j]?=some b->k j=eqB a b)->(List.range as.length).all k=eqBs as bs
|[],[],_,k,_=>by rfl
|[],_::_,h,_,_=>by simp at h
|_::_,[],h,_,_=>by simp at h
|a::as,b::bs,h,k,hk=>by rw[aI,List.range_succ_eq_map,bN,List.all_map,hk 0 a b rfl rfl];congr 1;exact jpy (by simpa using h) _ λj x y e1 e2=>hk _ x y (by assumption) (by assumption)
theorem jlk:∀{ds:List D}{i:Nat}{d:D},okDs ds=true->ds[i]?=some d->okD d=true
|[],_,_,_,e=>by simp at e
|d::ds,0,x,h,e=>by simp_all [okDs]
|d::ds,i+1,x,h,e=>by unfold okDs at h;rw[aC]at h;exact jlk h.2 (by simpa using e)
theorem jmf:∀{ds:List D}{i:Nat}{d:D},ds[i]?=some d->depD d<=depDs ds
|[],_,_,e=>by simp at e
|d::ds,0,x,e=>by grind[depDs]
|d::ds,i+1,x,e=>by have:=jmf (by simpa using e);unfold depDs;lia
section
variable {X:Cx}
def jJx(I:Inv X U Z H s)(h1:SqT X.K H l xs)(h2:SqL X.K H l ys):False:=by obtain⟨i1,_,p1,_⟩:=I.tuple h1;obtain⟨i2,_,p2,_⟩:=I.list h2;exact SeqAt.ne_of_list_tuple p2.isList p1 rfl
mutual
theorem jvr(I:Inv X U Z H s):∀{d e:D}{v:V},okD d=true->okD e=true->Rep J X.K H d v->Rep J X.K H e v->d=e:=by
  intro d e v od oe h k;cases d<;>cases e<;>unfold okD at od oe<;>unfold Rep at h k<;>first
    | (cases od;done)
    | (cases oe;done)
    | (subst h;first|(cases k<;>rfl)|(obtain⟨_,_,z,_⟩:=k;cases z))
    | (subst k;obtain⟨_,_,z,_⟩:=h;cases z)
    | (obtain⟨a,xs,rfl,q1,q2⟩:=h
       obtain⟨b,ys,z,p1,p2⟩:=k;cases z
       first|exact(jJx I q1 p1).elim|exact(jJx I p1 q1).elim|(first|rw[I.tuple_inj q1 p1]at q2|rw[I.list_inj q1 p1]at q2);rw[reps_inj I od oe q2 p2])
theorem reps_inj(I:Inv X U Z H s):∀{ds es:List D}{vs:List V},okDs ds=true->okDs es=true->Reps J X.K H ds vs->Reps J X.K H es vs->ds=es
|[],[],_,_,_,_,_=>rfl
|[],_::_,_,_,_,h,k=>by cases reps_nil.mp h;obtain⟨_,_,z,_⟩:=reps_cons.mp k;cases z
|_::_,[],_,_,_,h,k=>by cases reps_nil.mp k;obtain⟨_,_,z,_⟩:=reps_cons.mp h;cases z
|d::ds,e::es,vs,od,oe,h,k=>by obtain⟨v,r,rfl,h1,h2⟩:=reps_cons.mp h;obtain⟨v',r',z,k1,k2⟩:=reps_cons.mp k;cases z;unfold okDs at od oe;rw[aC]at od oe;rw[jvr I od.1 oe.1 h1 k1,reps_inj I od.2 oe.2 h2 k2]
end
def Itm(J:Rho)(K:Af)(H:Hp)(ds:List D)(ix:Ac):Prop:=ix.length=ds.length/\∀(j:Nat) d,ds[j]?=some d->∃v u,ix[j]?=some u/\Rep J K H d v/\RelV v u
def Itm.mk(q:Reps J X.K H ds xs)(r:Vals xs ix):Itm J X.K H ds ix:=⟨r.length.symm.trans q.length,λj d h=>by obtain⟨v,e,w⟩:=q.get h;obtain⟨u,f,z⟩:=r.get e;exact⟨v,u,f,w,z⟩⟩
inductive VW(J:Rho)(K:Af)(H:Hp)(s:Shared):D->Value->Prop
| n:VW J K H s .non .none
| b k:VW J K H s (.bl k) (.bool k)
| i x t:VW J K H s (.int x) (.int x t)
| s x t:VW J K H s (.str x) (.str x t)
| t ds l ix (p:s.heap.IsTuple l (List.toArray ix)) (q:Itm J K H ds ix):VW J K H s (.tup ds) (.ref l)
| l ds l ix (p:s.heap.IsList l (List.toArray ix)) (q:Itm J K H ds ix):VW J K H s (.lst ds) (.ref l)
def vw(I:Inv X U Z H s)(o:okD d=true)(h:Rep J X.K H d v)(r:RelV v a):VW J X.K H s d a:=by
  cases d<;>unfold Rep at h<;>first
    | (cases o;done)
    | (subst h;first|(constructor)|(obtain⟨t,rfl⟩:=r;constructor))
    | (obtain⟨l,xs,rfl,q1,q2⟩:=h
       cases r
       first
         | (obtain⟨ix,rx,px,_⟩:=I.tuple q1;exact .t _ _ _ px (.mk q2 rx))
         | (obtain⟨ix,rx,px,_⟩:=I.list q1;exact .l _ _ _ px.isList (.mk q2 rx)))
def eqJ(ds es:List D)(j:Nat):Bool:=match ds[j]?,es[j]? with
 |some x,some y=>eqB x y
 |_,_=>false
def jtq(h:ds.length=es.length):(List.range ds.length).all (eqJ ds es)=eqBs ds es:=jpy h _ λj a b h1 h2=>by unfold eqJ;rw[h1,h2]
def jnx(h:ds.length≠es.length):eqBs ds es=false:=by
 cases z:eqBs ds es with
 |false=>rfl
 |true=>exact absurd (jpz z) h
def jvq(h:RelV v (.ref l)):v=.ref l:=by cases v<;>simp_all [RelV]
set_option tactic.hygienic true in
def jA9(I:Inv X U Z H s):∀(n:Nat)(A:Around)(d e:D)(v u:V)(a b:Value),depD d<=n->A.units+n+1<cLine->okD d=true->okD e=true->Rep J X.K H d v->Rep J X.K H e u->RelV v a->RelV u b ->
    SeqAt.RcAt A s a b (eqB d e)/\SeqAt.EqAt A s a b (eqB d e)/\SeqAt.RcNeAt A s a b (!eqB d e):=by
  intro n
  induction n using Nat.strongRecOn with
  |_ n ih=>
  intro A d e v u a b hd hu od oe rd re ra rb;have hu':A.units<cLine:=by lia
  have both:∀{l m:Addr}{r:Bool},a=.ref l->b=.ref m->eqB d e=r->SeqAt.RcAt A s (.ref l) (.ref m) r->SeqAt.EqAt A s (.ref l) (.ref m) r:=by
    rintro l m r rfl rfl rfl R
    by_cases z:l=m
    . subst z;cases jvq ra;cases jvq rb;rw[jvr I od oe rd re,jk4 e oe];exact .same _
    . exact .of_refs z R
  have go:∀{ds es:List D}{ix iy:List _},depDs ds+1<=n->okDs ds=true->okDs es=true->Itm J X.K H ds ix->Itm J X.K H es iy->∀j (h1:j<ix.toArray.size) (h2:j<iy.toArray.size),SeqAt.EqAt A.in1 s ix.toArray[j] iy.toArray[j] (eqJ ds es j):=by
    rintro ds es ix iy hn o1 o2 ⟨l1,g1⟩ ⟨l2,g2⟩ j h1 h2;have e1:=zax (l:=ds) (i:=j) (l1 ▸ h1);have e2:=zax (l:=es) (i:=j) (l2 ▸ h2);obtain⟨v1,u1,f1,r1,s1⟩:=g1 j _ e1;obtain⟨v2,u2,f2,r2,s2⟩:=g2 j _ e2;have:=jmf e1;have:=(ih (n-1) (by lia) A.in1 _ _ v1 v2 u1 u2 (by lia) (by show A.units+1+(n-1)+1<cLine;lia) (jlk o1 e1) (jlk o2 e2) r1 r2 s1 s2).2.1;unfold eqJ
    grind
  cases (vw I od rd ra)<;>cases (vw I oe re rb)<;>simp only[eqB,Bool.not_false,Bool.not_true]<;>first
    | (refine⟨?_,?_,?_⟩<;>first
        | ((with_reducible first|refine' .none_none ..|refine' .same ..|refine' .none_bool ..|refine' .none_int ..|refine' .none_str ..|refine' .none_tuple ..|refine' .bool_none ..|refine' .bool_bool ..|refine' .bool_int ..|refine' .bool_str ..|refine' .bool_tuple ..|refine' .int_none ..|refine' .int_bool ..|refine' .int_int ..|refine' .int_str ..|refine' .int_tuple ..|refine' .str_none ..|refine' .str_bool ..|refine' .str_int ..|refine' .str_str ..|refine' .str_tuple ..|refine' .tuple_none ..|refine' .tuple_bool ..|refine' .tuple_int ..|refine' .tuple_str ..|refine' .tuple_list ..)
           all_goals try assumption
           done)
        | ((with_reducible first|refine' .none_list ..|refine' .bool_list ..|refine' .int_list ..|refine' .str_list ..|refine' .list_none ..|refine' .list_bool ..|refine' .list_int ..|refine' .list_str ..|refine' .list_tuple ..)
           all_goals try assumption))
    | skip
  . rename_i ds l ix p q es m iy p' q';have fin:((List.range (min ix.toArray.size iy.toArray.size)).all (eqJ ds es)&&ix.toArray.size==iy.toArray.size)=eqBs ds es:=by
      rw[zbx,zbx,q.1,q'.1]
      by_cases hl:ds.length=es.length
      . rw[<- jtq hl];simp[hl]
      . rw[jnx hl];simp[hl]
    have R:=SeqAt.RcAt.tuples p p' hu' (go hd od oe q q');have N:=SeqAt.RcNeAt.tuples p p' hu' (go hd od oe q q');rw[fin]at R N;exact⟨R,both rfl rfl (by rfl) R,N⟩
  . rename_i ds l ix p q es m iy p' q'
    by_cases hl:ds.length=es.length
    . have sz:=q.1.trans (hl.trans q'.1.symm);have R:=SeqAt.RcAt.lists p p' sz hu' (go hd od oe q q');have N:=SeqAt.RcNeAt.lists p p' sz hu' (go hd od oe q q');rw[zbx,q.1,jtq hl]at R N;exact⟨R,both rfl rfl (by rfl) R,N⟩
    . have sz:(ix.toArray.size != iy.toArray.size)=true:=by simp[q.1,q'.1,hl]
      have R:=SeqAt.RcAt.lists_lengths p p' sz hu';rw[jnx hl];exact⟨R,both rfl rfl (jnx hl) R,SeqAt.RcNeAt.lists_lengths p p' sz hu'⟩
def jC9(I:Inv X U Z H s)(n:Nat)(A:Around)(d e:D)(v u:V)(a b:Value)(h1:depD d<=n)(h2:A.units+n+1<cLine)(h3:okD d=true)(h4:okD e=true)(h5:Rep J X.K H d v)(h6:Rep J X.K H e u)(h7:RelV v a)(h8:RelV u b):SeqAt.RcAt A s a b (eqB d e)/\SeqAt.EqAt A s a b (eqB d e):=
 have h:=jA9 I n A d e v u a b h1 h2 h3 h4 h5 h6 h7 h8;⟨h.1,h.2.1⟩
end
def BIGN:Nat:=Classical.choose (⟨2^100000,rfl⟩:∃n:Nat,n=2^100000)
def jsk:BIGN=2^100000:=dC (⟨_,rfl⟩:∃n:Nat,n=2^100000)
def BIG:Int:=(BIGN:Int)
def DIVN:Nat:=Classical.choose (⟨2^9000,rfl⟩:∃n:Nat,n=2^9000)
theorem jsl:DIVN=2^9000:=dC (⟨_,rfl⟩:∃n:Nat,n=2^9000)
def DIVB:Int:=(DIVN:Int)
def inBig(i:Int):Bool:=decide (-BIG<i)&&decide (i<BIG)
noncomputable def gAdd:D->D->Option D
|.int i,.int j=>some (.int (i+j))
|.str x,.str y=>if x.length+y.length<=sizeLine then some (.str (x++y))else none
|_,_=>none
noncomputable def gSub:D->D->Option D
|.int i,.int j=>some (.int (i-j))
|_,_=>none
def gMul:D->D->Option D
|.int i,.int j=>if(inBig i&&inBig j)=true then some (.int (i*j))else none
|.str x,.int n=>if x.length<=4096/\-4096<=n/\n<=4096 then some (.str (Txt.mul x n))else none
|_,_=>none
noncomputable def gMod:D->D->Option D
|.int i,.int j=>if 0<j then some (.int (i % j))else none
|_,_=>none
def gFdiv:D->D->Option D
|.int i,.int j=>if 0<j/\j<DIVB then some (.int (i / j))else none
|_,_=>none
noncomputable def gPow:D->D->Option D
|.int i,.int j=>if 0<=j/\j<=1000/\-(2^60)<i/\i<2^60 then some (.int (i ^ j.toNat))else none
|_,_=>none
noncomputable def gCmp(p:Int->Int->Bool)(q:Str->Str->Bool):D->D->Option D
|.int i,.int j=>some (.bl (p i j))
|.str x,.str y=>some (.bl (q x y))
|_,_=>none
def gLt:=gCmp (λi j=>decide (i<j)) (λx y=>decide (x.cps.toList<y.cps.toList))
def gLe:=gCmp (λi j=>decide (i<=j)) (λx y=>!decide (y.cps.toList<x.cps.toList))
def gGt:=gCmp (λi j=>decide (j<i)) (λx y=>decide (y.cps.toList<x.cps.toList))
def gGe:=gCmp (λi j=>decide (j<=i)) (λx y=>!decide (x.cps.toList<y.cps.toList))
def gEq:D->D->Option D:=λx y=>if(okD x&&okD y&&decide (depD x<=20))=true then some (.bl (eqB x y))else none
def gNe:D->D->Option D:=λx y=>if(okD x&&okD y&&decide (depD x<=20))=true then some (.bl !(eqB x y))else none
noncomputable def gNeg:D->Option D
|.int i=>some (.int (-i))
|_=>none
def gIx:D->D->Option D
|.lst ds,.int i=>atI ds i
|.tup ds,.int i=>atI ds i
|.str z,.int i=>if z.length<=sizeLine then(atI z.cps.toList i).map λc=>.str ⟨#[c]⟩else none
|_,_=>none
def jpj(h:inBig i=true):Builtin.Int.intBits i<=100001:=by
 unfold inBig at h;rw[aC,aV,aV]at h;unfold Builtin.Int.intBits
 split
 .simp_all
 .have hn:i.natAbs≠0:=by
   intro z;have:i=0:=by simp_all
   subst this;simp at *
  have hlt:i.natAbs<BIGN:=by unfold BIG at h;omega
  rw[jsk]at hlt;have:=(eZ hn).mpr hlt;lia
def jCn(h1:inBig i=true)(h2:inBig j=true):IntMulOk i j:=by
 have b1:=jpj h1;have b2:=jpj h2;unfold IntMulOk;have:Builtin.Int.intTooBig ((Builtin.Int.intBits i)+(Builtin.Int.intBits j))=false:=by
  unfold Builtin.Int.intTooBig bitsLine;simp;grind
 simp_all
section
variable {X:Cx}
def opd_add:OpD X.K gAdd (λx y H Q=>rI0 (λi j=>.int (i+j)) x y H Q\/∃i j,x=.str i/\y=.str j/\i.length+j.length<=sizeLine/\Q (.str (i++j)) H):=by
 intro x y d hd J H G u v Q hG ru rv k;unfold gAdd at hd
 split at hd
 .cases hd;exact .inl ⟨_,_,rep_int.mp ru,rep_int.mp rv,k _ H (Same.refl H) (rep_int.mpr rfl)⟩
 .split at hd
  .rename_i hz;cases hd;exact .inr ⟨_,_,rep_str.mp ru,rep_str.mp rv,hz,k _ H (Same.refl H) (rep_str.mpr rfl)⟩
  .cases hd
 .cases hd
def op_addD:OpR X (binaryOp .Add) (λx y H Q=>rI0 (λi j=>.int (i+j)) x y H Q\/∃i j,x=.str i/\y=.str j/\i.length+j.length<=sizeLine/\Q (.str (i++j)) H):=op_add.or jr2
def opd_sub:OpD X.K gSub (rI0 λi j=>.int (i-j)):=by
 intro x y d hd J H G u v Q hG ru rv k;unfold gSub at hd
 split at hd
 .cases hd;exact⟨_,_,rep_int.mp ru,rep_int.mp rv,k _ H (Same.refl H) (rep_int.mpr rfl)⟩
 .cases hd
def op_mulD:OpR X (binaryOp .Mult) (λx y H Q=>rI (λi j=>(inBig i&&inBig j)=true) (λi j=>.int (i*j)) x y H Q\/∃z n,x=.str z/\y=.int n/\(z.length<=4096/\-4096<=n/\n<=4096)/\Q (.str (Txt.mul z n)) H):=by refine OpR.or (opI λi j t u s E Q hc q=>PyProof.Rows.mul_int q (by simp_all [jCn])) ?_;intro U s Z H x y v u Q I rx ry h;obtain⟨z,n,rfl,rfl,⟨h1,h2,h3⟩,q⟩:=h;obtain⟨t,rfl⟩:=rx;obtain⟨t',rfl⟩:=ry;refine SB.mul (PyProof.Rows.mulOk_of _ _ h1 h3 (by clear h3 I q;omega) (by decide) (by decide)) λt' k=>⟨.str _,H,I.tok _,⟨_,rfl⟩,q⟩
def opd_mul:OpD X.K gMul (λx y H Q=>rI (λi j=>(inBig i&&inBig j)=true) (λi j=>.int (i*j)) x y H Q\/∃z n,x=.str z/\y=.int n/\(z.length<=4096/\-4096<=n/\n<=4096)/\Q (.str (Txt.mul z n)) H):=by
 intro x y d hd J H G u v Q hG ru rv k;unfold gMul at hd
 split at hd
 .split at hd
  .rename_i hz;cases hd;exact .inl ⟨_,_,rep_int.mp ru,rep_int.mp rv,hz,k _ H (Same.refl H) (rep_int.mpr rfl)⟩
  .cases hd
 .split at hd
  .rename_i hz;cases hd;exact .inr ⟨_,_,rep_str.mp ru,rep_int.mp rv,hz,k _ H (Same.refl H) (rep_str.mpr rfl)⟩
  .cases hd
 .cases hd
def opd_mod:OpD X.K gMod (rI (λ_ j=>0<j) λi j=>.int (i % j)):=by
 intro x y d hd J H G u v Q hG ru rv k;unfold gMod at hd
 split at hd
 .split at hd
  .rename_i hz;cases hd;exact⟨_,_,rep_int.mp ru,rep_int.mp rv,hz,k _ H (Same.refl H) (rep_int.mpr rfl)⟩
  .cases hd
 .cases hd
def op_fdivD:OpR X (binaryOp .FloorDiv) (rI (λz j=>0<j/\j<DIVB) λi j=>.int (i / j)):=opI λi j t u s E Q hc q=>by
 refine PyProof.Rows.floordiv_int (by omega) (by grind) (.inl (gB ?_));have hlt:j.natAbs<DIVN:=by have:=hc.2;unfold DIVB at this;omega
 rw[jsl]at hlt;exact(eZ (by omega)).mpr hlt
def opd_fdiv:OpD X.K gFdiv (rI (λ_ j=>0<j/\j<DIVB) λi j=>.int (i / j)):=by
 intro x y d hd J H G u v Q hG ru rv k;unfold gFdiv at hd
 split at hd
 .split at hd
  .rename_i hz;cases hd;exact⟨_,_,rep_int.mp ru,rep_int.mp rv,hz,k _ H (Same.refl H) (rep_int.mpr rfl)⟩
  .cases hd
 .cases hd
def opd_pow:OpD X.K gPow (rI CPow λi j=>.int (i ^ j.toNat)):=by
 intro x y d hd J H G u v Q hG ru rv k;unfold gPow at hd
 split at hd
 .split at hd
  .rename_i hz;cases hd;exact⟨_,_,rep_int.mp ru,rep_int.mp rv,⟨hz.1,by omega,by omega⟩,k _ H (Same.refl H) (rep_int.mpr rfl)⟩
  .cases hd
 .cases hd
def opd_cmp:OpD X.K (gCmp p q) (λx y H Q=>rI0 (λi j=>.bl (p i j)) x y H Q\/∃i j,x=.str i/\y=.str j/\Q (.bl (q i j)) H):=by
 intro x y d hd J H G u v Q hG ru rv k;unfold gCmp at hd
 split at hd
 .cases hd;exact .inl ⟨_,_,rep_int.mp ru,rep_int.mp rv,k _ H (Same.refl H) (rep_bl.mpr rfl)⟩
 .cases hd;exact .inr ⟨_,_,rep_str.mp ru,rep_str.mp rv,k _ H (Same.refl H) (rep_bl.mpr rfl)⟩
 .cases hd
def jot{q:Str->Str->Bool}(h:∀{prog:Program}{w:World}{A:Around}{E:qe}{s:Shared}{Q:qe} (x y:Str) (t u:Tok),Q (.bool (q x y)) s->wpAny (model prog w) A (compareOp op (.str x t) (.str y u)) Q E s):
  OpR X (compareOp op) (λx y H Q=>∃i j,x=.str i/\y=.str j/\Q (.bl (q i j)) H):=by intro U s Z H x y v u Q I rx ry k;obtain⟨i,j,rfl,rfl,k⟩:=k;obtain⟨t,rfl⟩:=rx;obtain⟨t',rfl⟩:=ry;exact h i j t t' ⟨.bl _,H,I,rfl,k⟩
def op_ltD:OpR X (compareOp .Lt) (λx y H Q=>rI0 (λi j=>.bl (decide (i<j))) x y H Q\/∃i j,x=.str i/\y=.str j/\Q (.bl (decide (i.cps.toList<j.cps.toList))) H):=op_lt.or ju6
def op_leD:OpR X (compareOp .LtE) (λx y H Q=>rI0 (λi j=>.bl (decide (i<=j))) x y H Q\/∃i j,x=.str i/\y=.str j/\Q (.bl (!decide (j.cps.toList<i.cps.toList))) H):=op_le.or (jot λx y t u h=>P.le_str h)
def op_gtD:OpR X (compareOp .Gt) (λx y H Q=>rI0 (λi j=>.bl (decide (j<i))) x y H Q\/∃i j,x=.str i/\y=.str j/\Q (.bl (decide (j.cps.toList<i.cps.toList))) H):=op_gt.or (jot λx y t u h=>P.gt_str h)
def op_geD:OpR X (compareOp .GtE) (λx y H Q=>rI0 (λi j=>.bl (decide (j<=i))) x y H Q\/∃i j,x=.str i/\y=.str j/\Q (.bl (!decide (i.cps.toList<j.cps.toList))) H):=op_ge.or (jot λx y t u h=>P.ge_str h)
def rEqD(K:Af)(neg:Bool):R2:=λu v H Q=>∃J x y,okD x=true/\okD y=true/\depD x<=20/\Rep J K H x u/\Rep J K H y v/\Q (.bl (if neg then !eqB x y else eqB x y)) H
def op_eqD(hu:X.A.units+30<cLine):OpR X (compareOp .Eq) (rEqD X.K false):=by intro U s Z H x y v u Q I rx ry h;obtain⟨J,d,e,o1,o2,hd,r1,r2,q⟩:=h;exact(jC9 I 20 X.A d e x y v u hd (by clear hd r1 ry;grind) o1 o2 r1 r2 rx ry).1 _ _ _ _ ⟨.bl _,H,I,rfl,q⟩
def opd_eq:OpD X.K gEq (rEqD X.K false):=by
 intro x y d hd J H G u v Q hG ru rv k;unfold gEq at hd
 split at hd
 .rename_i h;rw[aC,aC,aV]at h;cases hd;exact⟨J,x,y,h.1.1,h.1.2,h.2,ru.mono jdo,rv.mono jdo,k _ H (Same.refl H) (rep_bl.mpr rfl)⟩
 .cases hd
def opd_ne:OpD X.K gNe (rEqD X.K true):=by
 intro x y d hd J H G u v Q hG ru rv k;unfold gNe at hd
 split at hd
 .rename_i h;rw[aC,aC,aV]at h;cases hd;exact⟨J,x,y,h.1.1,h.1.2,h.2,ru.mono jdo,rv.mono jdo,k _ H (Same.refl H) (rep_bl.mpr rfl)⟩
 .cases hd
def op_neD(hu:X.A.units+30<cLine):OpR X (compareOp .NotEq) (rEqD X.K true):=by intro U s Z H x y v u Q I rx ry h;obtain⟨J,d,e,o1,o2,hd,r1,r2,q⟩:=h;exact(jA9 I 20 X.A d e x y v u hd (by lia) o1 o2 r1 r2 rx ry).2.2 _ _ _ _ ⟨.bl _,H,I,rfl,q⟩
def und_neg:UnD X.K gNeg (rU λi=>.int (-i)):=by
 intro x d hd J H G u Q hG ru k
 cases x with
 |int i=>cases hd;exact⟨i,rep_int.mp ru,k _ H (Same.refl H) (rep_int.mpr rfl)⟩
 |_=>cases hd
def kLen:List D->Option D
|[.lst ds]=>some (.int ds.length)
|[.tup ds]=>some (.int ds.length)
|[.str z]=>if z.length<=sizeLine then some (.int z.length)else none
|_=>none
def joy(h:Reps J K H [d] vs):∃v,vs=[v]/\Rep J K H d v:=by
 obtain⟨v,r,rfl,q1,q2⟩:=reps_cons.mp h;cases reps_nil.mp q2;simp_all
def call_lenD:CallR X (.builtin "len") (λxs H Q=>(∃p ys,xs=[.ref p]/\(SqL X.K H p ys\/SqT X.K H p ys)/\Q (.int ys.length) H)\/∃z,xs=[.str z]/\z.length<=sizeLine/\Q (.int z.length) H):=call_len_seq.or jl8
noncomputable def kTuple:List D->Option D
|[.lst ds]=>some (.tup ds)
|[.tup ds]=>some (.tup ds)
|_=>none
noncomputable def jOx:List D->Option D
|[.lst ds]=>some (.lst ds)
|[.tup ds]=>some (.lst ds)
|_=>none
noncomputable def kAbs:List D->Option D
|[.int i]=>some (.int (if i<0 then -i else i))
|_=>none
def cad_abs:CaD X.K kAbs (λxs H Q=>∃i,xs=[.int i]/\Q (.int (if i<0 then -i else i)) H):=by
 intro xs d hd J H G us Q hG ru k;unfold kAbs at hd
 split at hd
 .cases hd;obtain⟨v,rfl,q1⟩:=joy ru;cases rep_int.mp q1;exact⟨_,rfl,k _ H (Same.refl H) (rep_int.mpr rfl)⟩
 .cases hd
noncomputable def intsD:List D->Option Ae
|[]=>some []
|.int i::ds=>(intsD ds).map (i::·)
|_::_=>none
theorem jp9:∀{ds:List D}{ns:Ae},intsD ds=some ns->ds=ns.map .int
|[],_,h=>by cases h;rfl
|.int i::ds,ns,h=>by
  unfold intsD at h
  cases e:intsD ds with
  |none=>rw[e]at h;cases h
  |some ms=>rw[e]at h;cases h;rw[jp9 e];rfl
|.non::_,_,h=>by cases h
|.bl _::_,_,h=>by cases h
|.str _::_,_,h=>by cases h
|.ty _::_,_,h=>by cases h
|.obj _::_,_,h=>by cases h
|.tup _::_,_,h=>by cases h
|.lst _::_,_,h=>by cases h
theorem jt3(ns:Ae):intsD (ns.map .int)=some ns:=by induction ns<;>grind[intsD]
def kSum:List D->Option D
|[d]=>match seqD d with
  |some ds=>(intsD ds).map λns=>.int ns.sum
  |none=>none
|_=>none
def jvh(ns:Ae):∀k,k<=ns.length->preSum (λi=>ns.getD i 0) k=(ns.take k).sum:=by
 intro k
 induction k with
 |zero=>intro _;rfl
 |succ k ih=>
  intro h;show preSum _ k+ns.getD k 0=_;rw[ih (by lia),List.take_succ,List.sum_append]
  grind
def call_sumD(hc:X.calm=true):CallR X (.builtin "sum") (λxs H Q=>∃k p,∃ns:Ae,xs=[.ref p]/\SqV k X.K H p (ns.map V.int)/\Q (.int ns.sum) H):=by
 intro U s Z H xs us Q I r h;obtain⟨k,p,ns,rfl,hq,q⟩:=h;obtain⟨u,rfl,rx⟩:=r.one;cases rx;obtain⟨its,rv,src,hz⟩:=I.src hq;have hl:=rv.length;rw[zav]at hl;have hh:X.A.in1.handled=none:=I.ok.hd hc;have val:∀(i:Nat) v,its.toArray[i]?=some v->∃t,v=.int (ns.getD i 0) t:=λi v e=>by
  have hi:i<ns.length:=by rw[hl];have:=(bI.mp e).1;simpa using this
  obtain⟨v',e1,r1⟩:=rv.get (i:=i) (x:=.int ns[i]) (by simp_all);have:=by
   have e':=by simpa using e
   rw[e']at e1;exact zby e1
  subst this;rw[List.getD_eq_getElem?_getD,zax hi];exact r1
 have fin:∀{it:Addr}{s2:Shared}{h':Heap}{tk:Nat}{t':Tok},s.heap.objs.size=it->(∀b o,s.heap.get? b=some o->s2.heap.get? b=some o)->s2={ s with heap:=s2.heap }->(∀b o,b∉[it]->s2.heap.get? b=some o->h'.get? b=some o) ->
   EP X _ Z Q (.int (preSum _ _) t') { s2 with heap:=h',toks:=tk }:=λ{it s2 h' tk t'} e1 e2 e3 e4=>by
  have ep:preSum (λi=>ns.getD i 0) its.toArray.size=ns.sum:=by rw[zbx,<- hl,jvh ns _ (zac _),List.take_length]
  rw[ep,e3];refine⟨.int _,H,I.kept λb o e=>e4 b o ?_ (e2 b o e),⟨_,rfl⟩,q⟩;intro z;have:=by simpa using z
  rw[this,<- e1]at e;exact absurd (zbv e) (bH _)
 refine call_sum_walkG ?_
 cases k with
 |true=>
  have src':=src;have hp:p<s.heap.objs.size:=by obtain⟨o,e,_⟩:=src';exact zbv e
  refine f9 src' ?_;refine⟨_,_,_,_,_,_,_,rfl,Walks.tuple hh _ p (zcw hp) _,⟨⟨_,zbz _ rfl,rfl,rfl⟩,src'.at λo e=>zaz _ e⟩,λb hb=>?_,val,λh' tk t' kp=>fin rfl (λb o e=>zaz _ e) rfl kp⟩;rw[bR]
  clear q;grind
 |false=>
  have src':=src;have hp:p<s.heap.objs.size:=by obtain⟨o,e,_⟩:=src';exact zbv e
  refine dS src' ?_;refine⟨_,_,_,_,_,_,_,rfl,Walks.list hh _ p (zcw hp) _,⟨⟨_,zbz _ rfl,rfl,rfl⟩,src'.at λo e=>zaz _ e⟩,λb hb=>?_,val,λh' tk t' kp=>fin rfl (λb o e=>zaz _ e) rfl kp⟩;rw[bR];grind
set_option tactic.hygienic true in
def cad_sum:CaD X.K kSum (λxs H Q=>∃k p,∃ns:Ae,xs=[.ref p]/\SqV k X.K H p (ns.map V.int)/\Q (.int ns.sum) H):=by
 intro xs d hd J H G us Q hG ru k;unfold kSum at hd
 split at hd
 .split at hd
  .rename_i ds es
   cases e:intsD ds with
   |none=>simp_all
   |some ns=>rw[e]at hd;cases hd;obtain⟨v,rfl,q⟩:=joy ru;obtain⟨kk,l,ys,rfl,q1,q2⟩:=jv5 es q;rw[jp9 e]at q2;rw[reps_ints.mp q2]at q1;exact⟨kk,l,ns,rfl,jLu jdo q1,k _ H (Same.refl H) (rep_int.mpr rfl)⟩
  .cases hd
 .cases hd
noncomputable def isiD(T:String):D->Option Bool
|.non=>some (T == "NoneType")
|.bl _=>some (T == "bool" || T == "int")
|.int _=>some (T == "int")
|.str _=>some (T == "str")
|.tup _=>some (T == "tuple")
|.lst _=>some (T == "list")
|_=>none
def kIsi:List D->Option D
|[d,.ty T]=>if T="int"\/T="bool"\/T="tuple"\/T="list"\/T="str" then(isiD T d).map .bl else none
|_=>none
end
def FunAt(K:Af)(mg:qc)(x:Str)(st:Stmt)(ps:Ab):Prop:=∃f fd,mg x=some (.ref f)/\Fun K x x st f fd/\Binds K fd ps []
noncomputable def startD(n:Nat)(ds:List D):DSt:=ds.map some++List.replicate (n-ds.length) none
def outD:Out->M D
|.rt d=>M.p d
|.nx _=>M.p .non
|_=>none
def mir(n N:Nat)(g:DSt->M Out):List D->M D:=λds=>if ds.length=n then(g (startD N ds)).b outD else none
def funAt_law(hf:FunAt K mg "law" st [x])(hm:mg "law"=some (.ref f))
  (hb:∀(kV doc pm:Value)(an:Ag)(cdv ct:Value)(s:Shared)(u:Value),BindsTo s (W.fnOf "law" "law" (jbu st) (jdj st) (jat st) .none kV doc pm an cdv ct) ⟨[u],[]⟩ [(x,u)]):
  ∃fd,Fun K "law" "law" st f fd/\∀(s:Shared)(u:Value),BindsTo s fd ⟨[u],[]⟩ [(x,u)]:=by
 obtain⟨f',fd,hm',F,_⟩:=hf;rw[hm]at hm';cases hm';refine⟨fd,F,λs u=>?_⟩;obtain⟨oc,od,kV,doc,pm,an,cdv,ct,osl,rfl,lk,hcd⟩:=F.ex;simp_all
def fCall(m:List D->M D)(fl:DSt->M (List D)):DSt->M D:=λY=>(fl Y).b m
def hu30(hr:Room k A):A.units+30<cLine:=eC (fJ (by decide) _) hr.units
def bt_len:bootBuiltins "len"=some (.builtin "len"):=by decide +kernel
def bt_sum:bootBuiltins "sum"=some (.builtin "sum"):=by decide +kernel
def bt_abs:bootBuiltins "abs"=some (.builtin "abs"):=by decide +kernel
def bt_isinstance:bootBuiltins "isinstance"=some (.builtin "isinstance"):=by decide +kernel
def bt_tuple:bootBuiltins "tuple"=some (.type "tuple"):=by decide +kernel
def bt_int:bootBuiltins "int"=some (.type "int"):=by decide +kernel
def bt_str:bootBuiltins "str"=some (.type "str"):=by decide +kernel
def bt_all:bootBuiltins "all"=some (.builtin "all"):=by decide +kernel
def bt_set:bootBuiltins "set"=some (.type "set"):=by decide +kernel
noncomputable def gCat:D->D->Option D
|.int i,.int j=>some (.int (i+j))
|.str x,.str y=>if x.length+y.length<=sizeLine then some (.str (x++y))else none
|.lst xs,.lst ys=>if xs.length+ys.length<=sizeLine then some (.lst (xs++ys))else none
|.tup xs,.tup ys=>if xs.length+ys.length<=sizeLine/\xs≠[]/\ys≠[]then some (.tup (xs++ys))else none
|_,_=>none
def jzf(K:Af):R2:=λx y H Q=>∃l b xs zs,x=.ref l/\y=.ref b/\SqL K H l xs/\SqL K H b zs/\xs.length+zs.length<=sizeLine/\∀p,H p=none->Q (.ref p) (upd H p (.lst (xs++zs)))
section
variable {X:Cx}
def op_catQ:OpR X (binaryOp .Add) (jzf X.K):=by
 intro U s Z H x y v u Q I rx ry h;obtain⟨l,b,xs,zs,rfl,rfl,hH,hB,hz,q⟩:=h;cases rx;cases ry;obtain⟨its,r,⟨⟨cls,dd,data,sl⟩,n,ho,hc,_,hd⟩,_⟩:=I.list hH;obtain⟨its2,r2,⟨⟨cls2,dd2,data2,sl2⟩,n2,ho2,hc2,_,hd2⟩,_⟩:=I.list hB;subst hc hd hc2 hd2;have l1:=r.length;have l2:=r2.length;have ea:its.toArray++its2.toArray=(its++its2).toArray:=by simp
 refine concat_meets ⟨_,ho,rfl⟩ ⟨_,ho2,rfl⟩ noFill_list_add seq_list_add PySem.F.slot_list_add PySem.F.entry_list_add (PySem.F.args_list_add_2 _ _) (PyProof.Rows.list_addW l b _ _ n n2 dd dd2 sl sl2 (by simp_all)) ⟨ho,ho2,?_⟩;rw[ea];exact⟨.ref _,_,I.lnew (r.append r2) (by simp_all),rfl,q _ I.fresh⟩
def op_addC:OpR X (binaryOp .Add) (λx y H Q=>(rI0 (λi j=>.int (i+j)) x y H Q\/∃i j,x=.str i/\y=.str j/\i.length+j.length<=sizeLine/\Q (.str (i++j)) H)\/jzf X.K x y H Q\/jFq X.K x y H Q):=op_addD.or (op_catQ.or jEv)
def fRep(fl:DSt->M (List D))(fb:DSt->M D):DSt->M D:=λY=>(fl Y).b λxs=>if xs.length<=sizeLine then(fb Y).b λy=>match y with
  |.int k=>if -(2^63)<=k/\k<2^63/\xs.length*k.toNat<=sizeLine then M.p (.lst (List.replicate k.toNat xs).flatten)else none
  |_=>none
 else none
def oNone:DSt->M (Option Int):=λz=>M.p none
noncomputable def intD:D->Option (Option Int)
|.int i=>some (some i)
|_=>none
def oSome(f:DSt->M D):DSt->M (Option Int):=λY=>(f Y).b λd=>M.o (intD d)
def cutL{α:Type}(xs:List α)(lo hi:Option Int):List α:=(xs.drop (HT.sIx xs.length 0 lo)).take (HT.sIx xs.length xs.length hi-HT.sIx xs.length 0 lo)
def cutD:D->Option Int->Option Int->Option D
|.lst ds,lo,hi=>some (.lst (cutL ds lo hi))
|.tup ds,lo,hi=>if HT.sIx ds.length 0 lo=0/\HT.sIx ds.length ds.length hi=ds.length then none else some (.tup (cutL ds lo hi))
|.str x,lo,hi=>if x.length<=sizeLine then some (.str (Txt.slice x lo hi))else none
|_,_,_=>none
def rSlS:V->Option Int->Option Int->Hp->VK->Prop:=λx lo hi H Q=>∃z,x=.str z/\z.length<=sizeLine/\Q (.str (Txt.slice z lo hi)) H
def sl_str:SlR X rSlS:=by
 intro U s Z H x v vl vu lo hi sl Q I rx hs pl pu h;obtain⟨z,rfl,hz,q⟩:=h;obtain⟨t,rfl⟩:=rx;have fin:∀{l u:Option _},l.map _=lo->u.map _=hi->s.heap.IsSlice sl l u none->Am X (getItem (.str z t) _) _ X.xe s:=λ{l u} e1 e2 h=>by
  refine wpAny_getItem_str_slice h rfl ?_;have hw:∀t' k,EP X _ Z Q (.str _ t') { s with toks:=k }:=λt' k=>⟨.str _,H,I.tok _,⟨_,rfl⟩,q⟩
  rw[<- e1,<- e2]at hw;exact post_val_or_str ⟨zdz (Txt.slice_le z _ _) hz,hw⟩
 obtain⟨os,ho,hc,hd⟩:=hs;refine⟨_,_,PySem.F.slot_str_getitem.lookup,fD _ _ _,?_⟩
 cases pl with
 |none=>cases pu with
  |none=>exact fin (l:=none) (u:=none) rfl rfl ⟨os,ho,hc,hd⟩
  |int j tj=>exact fin (l:=none) (u:=some (j,tj)) rfl rfl ⟨os,ho,hc,hd⟩
 |int i ti=>cases pu with
  |none=>exact fin (l:=some (i,ti)) (u:=none) rfl rfl ⟨os,ho,hc,hd⟩
  |int j tj=>exact fin (l:=some (i,ti)) (u:=some (j,tj)) rfl rfl ⟨os,ho,hc,hd⟩
def fSl(fa:DSt->M D)(fl fh:DSt->M (Option Int)):DSt->M D:=λY=>(fa Y).b λx=>(fl Y).b λlo=>(fh Y).b λhi=>M.o (cutD x lo hi)
noncomputable def jj5:D->Bool
|.non=>true
|.bl _=>true
|.int _=>true
|.str _=>true
|_=>false
def inD(x:D)(ds:List D):Bool:=ds.any λy=>eqB y x
def gIn:D->D->Option D:=λx y=>match seqD y with
 |some ds=>if(jj5 x&&ds.all jj5)=true then some (.bl (inD x ds))else none
 |none=>none
def gNotIn:D->D->Option D:=λx y=>match seqD y with
 |some ds=>if(jj5 x&&ds.all jj5)=true then some (.bl !(inD x ds))else none
 |none=>none
def jla(h:jj5 d=true)(r:Rep J K H d v):jj6 v=true:=by
 cases d with
 |non=>cases rep_non.mp r;rfl
 |bl _=>cases rep_bl.mp r;rfl
 |int _=>cases rep_int.mp r;rfl
 |str _=>cases rep_str.mp r;rfl
 |_=>cases h
def jC8{d e:D}(h:jj5 d=true)(h2:jj5 e=true)(r:Rep J K H d v)(r2:Rep J K H e u):eqV v u=eqB d e:=by
 cases d with
 |non=>cases rep_non.mp r;(cases e with
  |non=>cases rep_non.mp r2;rfl
  |bl _=>cases rep_bl.mp r2;rfl
  |int _=>cases rep_int.mp r2;rfl
  |str _=>cases rep_str.mp r2;rfl
  |_=>cases h2)
 |bl _=>cases rep_bl.mp r;(cases e with
  |non=>cases rep_non.mp r2;rfl
  |bl _=>cases rep_bl.mp r2;rfl
  |int _=>cases rep_int.mp r2;rfl
  |str _=>cases rep_str.mp r2;rfl
  |_=>cases h2)
 |int _=>cases rep_int.mp r;(cases e with
  |non=>cases rep_non.mp r2;rfl
  |bl _=>cases rep_bl.mp r2;rfl
  |int _=>cases rep_int.mp r2;rfl
  |str _=>cases rep_str.mp r2;rfl
  |_=>cases h2)
 |str _=>cases rep_str.mp r;(cases e with
  |non=>cases rep_non.mp r2;rfl
  |bl _=>cases rep_bl.mp r2;rfl
  |int _=>cases rep_int.mp r2;rfl
  |str _=>cases rep_str.mp r2;rfl
  |_=>cases h2)
 |_=>cases h
theorem jt1(hx:jj5 x=true)(rx:Rep J K H x v):∀{ds:List D}{vs:List V},ds.all jj5=true->Reps J K H ds vs->vs.all jj6=true/\inV v vs=inD x ds
|[],_,_,h=>by rw[reps_nil.mp h];exact⟨rfl,rfl⟩
|d::ds,_,ha,h=>by
  obtain⟨u,r,rfl,q,t⟩:=reps_cons.mp h;rw[bN,aC]at ha;obtain⟨i1,i2⟩:=jt1 hx rx ha.2 t;refine⟨by rw[bN,jla ha.1 q,i1];rfl,?_⟩;unfold inV inD at i2 |-
  rw[dO,dO,jC8 ha.1 hx q rx,i2]
set_option tactic.hygienic true in
theorem opd_in:OpD X.K gIn (rIn X.K false):=by
 intro x y d hd J H G u v Q hG ru rv k;unfold gIn at hd
 split at hd
 .rename_i ds hs
  split at hd
  .rename_i hz;cases hd;rw[aC]at hz;obtain⟨kk,l,xs,rfl,q1,q2⟩:=jv5 hs rv;obtain⟨i1,i2⟩:=jt1 hz.1 ru hz.2 q2;refine⟨l,xs,rfl,?_,jla hz.1 ru,i1,k _ H (Same.refl H) (rep_bl.mpr (by rw[i2];rfl))⟩
   cases kk with
   |true=>exact .inr (jq1 jdo (sqv_t.mp q1))
   |false=>exact .inl (jnf jdo (sqv_l.mp q1))
  .cases hd
 .cases hd
set_option tactic.hygienic true in
theorem opd_notin:OpD X.K gNotIn (rIn X.K true):=by
 intro x y d hd J H G u v Q hG ru rv k;unfold gNotIn at hd
 split at hd
 .rename_i ds hs
  split at hd
  .rename_i hz;cases hd;rw[aC]at hz;obtain⟨kk,l,xs,rfl,q1,q2⟩:=jv5 hs rv;obtain⟨i1,i2⟩:=jt1 hz.1 ru hz.2 q2;refine⟨l,xs,rfl,?_,jla hz.1 ru,i1,k _ H (Same.refl H) (rep_bl.mpr (by rw[i2];rfl))⟩
   cases kk with
   |true=>exact .inr (jq1 jdo (sqv_t.mp q1))
   |false=>exact .inl (jnf jdo (sqv_l.mp q1))
  .cases hd
 .cases hd
def gAug(i:Nat)(g:D->D->Option D)(f:DSt->M D):DSt->M Out:=λY=>(M.o (Y[i]?).join).b λx=>(f Y).b λy=>(M.o (g x y)).b λd=>M.p (.nx (Y.set i (some d)))
def SmR(X:Cx)(name:Str)(r:Str->V->Hp->VK->Prop):Prop:=∀(U:qd)(s:Shared)(Z:St)(x:Str)(t:Tok)(pos:Pos)(a:Sem Value) (Q:VK),
 Am X a (λv s₁=>∃y H1,Inv X U Z H1 s₁/\RelV y v/\r x y H1 Q) X.xe s->MethodOnS X.prog X.w X.A X.xe name (.str x t) pos [(false,a)] (EP X U Z Q) s
def SmD(K:Af)(g:Str->D->Option D)(r:Str->V->Hp->VK->Prop):Prop:=∀x y d,g x y=some d->∀(J:Rho)(H:Hp)(G:qf) v (Q:VK),(∀p,H p=none->G p=false)->Rep J K (hid H G) y v->(∀w H',Same H H'->Rep J K (hid H' G) d w->Q w H')->r x v H Q
def fSm(g:Str->D->Option D)(fo fe:DSt->M D):DSt->M D:=λY=>(fo Y).b λx=>match x with
 |.str z=>(fe Y).b λy=>M.o (g z y)
 |_=>none
noncomputable def gStarts(x:Str):D->Option D
|.str y=>some (.bl (Txt.startswith x y))
|_=>none
def sm_starts:SmR X "startswith" (λx y H Q=>∃z,y=.str z/\Q (.bl (Txt.startswith x z)) H):=λU s Z x t pos a Q h=>SB.startswith (thn h λv s1 ⟨y,H1,I1,ry,z,hz,q⟩=>by subst hz;obtain⟨u,rfl⟩:=ry;exact⟨z,u,rfl,.bl _,H1,I1,rfl,q⟩)
def smd_starts:SmD X.K gStarts (λx y H Q=>∃z,y=.str z/\Q (.bl (Txt.startswith x z)) H):=by
 intro x y d hd J H G v Q hG rv k
 cases y with
 |str z=>cases hd;exact⟨z,rep_str.mp rv,k _ H (Same.refl H) (rep_bl.mpr rfl)⟩
 |_=>cases hd
noncomputable def kStr:List D->Option D
|[.int i]=>if i.natAbs.log2<1920 then some (.str (toString i))else none
|_=>none
set_option tactic.hygienic true in
def cad_str:CaD X.K kStr (λxs H Q=>∃i,xs=[.int i]/\i.natAbs.log2<1920/\Q (.str (toString i)) H):=by
 intro xs d hd J H G us Q hG ru k;unfold kStr at hd
 split at hd
 .split at hd
  .rename_i i hz;cases hd;obtain⟨v,rfl,q1⟩:=joy ru;cases rep_int.mp q1;exact⟨_,rfl,hz,k _ H (Same.refl H) (rep_str.mpr rfl)⟩
  .cases hd
 .cases hd
noncomputable def kIntT:List D->Option D
|[.int i]=>some (.int i)
|[.bl k]=>some (.int (if k then 1 else 0))
|[.str x]=>if x.length<=640 then(PySem.intText? x).map .int else none
|_=>none
def call_intT:CallR X (.type "int") (λxs H Q=>((∃i,xs=[.int i]/\Q (.int i) H)\/∃k,xs=[.bl k]/\Q (.int (if k then 1 else 0)) H)\/∃x n,xs=[.str x]/\x.length<=640/\PySem.intText? x=some n/\Q (.int n) H):=
 call_int1.or (by intro U s Z H xs us Q I r h;obtain⟨x,n,rfl,hl,hn,q⟩:=h;obtain⟨u,rfl,t,rfl⟩:=r.one;exact W.KIN.call_text hn hl ⟨.int n,H,I.tok _,⟨_,rfl⟩,q⟩)
set_option tactic.hygienic true in
def cad_intT:CaD X.K kIntT (λxs H Q=>((∃i,xs=[.int i]/\Q (.int i) H)\/∃k,xs=[.bl k]/\Q (.int (if k then 1 else 0)) H)\/∃x n,xs=[.str x]/\x.length<=640/\PySem.intText? x=some n/\Q (.int n) H):=by
 intro xs d hd J H G us Q hG ru k;unfold kIntT at hd
 split at hd
 .cases hd;obtain⟨v,rfl,q1⟩:=joy ru;cases rep_int.mp q1;exact .inl (.inl ⟨_,rfl,k _ H (Same.refl H) (rep_int.mpr rfl)⟩)
 .cases hd;obtain⟨v,rfl,q1⟩:=joy ru;cases rep_bl.mp q1;exact .inl (.inr ⟨_,rfl,k _ H (Same.refl H) (rep_int.mpr rfl)⟩)
 .split at hd
  .rename_i x hz;obtain⟨v,rfl,q1⟩:=joy ru;cases rep_str.mp q1
   cases e:PySem.intText? x with
   |none=>simp_all
   |some n=>rw[e]at hd;cases hd;exact .inr ⟨x,n,rfl,hz,e,k _ H (Same.refl H) (rep_int.mpr rfl)⟩
  .cases hd
 .cases hd
end
end DL
namespace L2
open PyProof.Rows
section
variable {X:Cx}
def iRg3(ta:TA):TI:=λZ H R=>ta Z H λvs H1=>∃i j k:Int,vs=[.int i,.int j,.int k]/\0<k/\k<2^60/\R (Itv (λn=>.int (i+(n:Nat)*k)) (Builtin.Range.rangeSize i j k).toNat) H1
def pi_range3(hg:Gl X "range")(hm:X.mg "range"=none)(ha:PA X (a::es) ta)(hs:starEach (a::es) X.env=(false,eval a X.env)::starEach es X.env)(hp:zbT pos es X.env):
  PI X tg (.Call (.Name "range" p) (a::es) [] pos) (iRg3 ta):=by
 intro U s Z H R I h;refine Call_ (jko I hg hm boot_range (bX (thn (ha pos _ s Z H _ I h) λus s1 hzz=>?_) hs hp));obtain⟨vs,H1,I1,r1,q1⟩:=hzz;obtain⟨i,j,k,e,hk,hk2,q⟩:=q1;subst e
 cases r1 with
|cons p1 r1=>
  cases r1 with
  |cons p2 r1=>
   cases r1 with
   |cons p3 r1=>
    cases r1;obtain⟨t1,rfl⟩:=p1;obtain⟨t2,rfl⟩:=p2;obtain⟨t3,rfl⟩:=p3;refine call_range_3 (by omega) (jlm I1 hk q) (.inl (gB ?_));have:k.natAbs<2^60:=by omega
    exact bC ((eZ (by omega)).mpr this) (by decide)
end
end L2
namespace DL
open L2
section
variable {X:Cx}
noncomputable def jb0(lo:Int)(st:Int)(n:Nat):List D:=(List.range n).map λi=>.int (lo+(i:Nat)*st)
def rangeArgs3:List D->Option (List D)
|[.int i,.int j,.int k]=>if 0<k/\k<2^60 then some (jb0 i k (Builtin.Range.rangeSize i j k).toNat)else none
|_=>none
noncomputable def blsD:List D->Option (List Bool)
|[]=>some []
|.bl b::ds=>(blsD ds).map (b::·)
|_::_=>none
theorem jst:∀{ds:List D}{ns:List Bool},blsD ds=some ns->ds=ns.map .bl
|[],_,h=>by cases h;rfl
|.bl i::ds,ns,h=>by
  unfold blsD at h
  cases e:blsD ds with
  |none=>rw[e]at h;cases h
  |some ms=>rw[e]at h;cases h;rw[jst e];rfl
|.non::_,_,h=>by cases h
|.int _::_,_,h=>by cases h
|.str _::_,_,h=>by cases h
|.ty _::_,_,h=>by cases h
|.obj _::_,_,h=>by cases h
|.tup _::_,_,h=>by cases h
|.lst _::_,_,h=>by cases h
theorem reps_bls:∀{ns:List Bool}{vs:List V},Reps J K H (ns.map .bl) vs↔vs=ns.map V.bl
|[],vs=>reps_nil
|n::ns,vs=>by
  constructor
  .rintro⟨v,r,rfl,h1,h2⟩;rw[rep_bl.mp h1,reps_bls.mp h2];rfl
  .rintro rfl;exact⟨_,_,rfl,rep_bl.mpr rfl,reps_bls.mpr rfl⟩
def kAll:List D->Option D
|[.lst ds]=>(blsD ds).map λns=>.bl (ns.all id)
|_=>none
def jsp(ns:List Bool):(List.range ns.length).all (λi=>ns.getD i true)=ns.all id:=by
 induction ns with
 |nil=>rfl
 |cons n ns ih=>rw[aI,List.range_succ_eq_map,bN,List.all_map,bN];congr 1
def call_allD(hc:X.calm=true):CallR X (.builtin "all") (λxs H Q=>∃p,∃ns:List Bool,xs=[.ref p]/\SqL X.K H p (ns.map V.bl)/\Q (.bl (ns.all id)) H):=by
 intro U s Z H xs us Q I r h;obtain⟨p,ns,rfl,hq,q⟩:=h;obtain⟨u,rfl,rx⟩:=r.one;cases rx;obtain⟨its,rv,src,hz⟩:=I.list hq;have hl:=rv.length;rw[zav]at hl;have hh:X.A.in1.handled=none:=I.ok.hd hc;have src':=src.isList;refine call_all_walk ?_;refine dS src' ?_;refine⟨_,_,_,_,_,_,(λi=>ns.getD i true),rfl,Walks.list hh _ p (zcw (by obtain⟨o,e,_⟩:=src';exact zbv e)) _,⟨⟨_,zbz _ rfl,rfl,rfl⟩,src'.at λo e=>zaz _ e⟩,λi v s' Q' E' hP hQ=>?_,λh' tk kp=>?_⟩
 .have e:=hP;have hi:i<ns.length:=by rw[hl];have:=(bI.mp e).1;simpa using this
  obtain⟨v',e1,r1⟩:=rv.get (by rw[zba,zax hi];rfl);have:=by
   have e':=by simpa using e
   rw[e']at e1;exact zby e1
  subst this;subst r1;refine cK ?_;dsimp only at hQ;rw[List.getD_eq_getElem?_getD,zax hi]at hQ;exact hQ
 .refine⟨_,H,I.kept λb o e=>kp b o ?_ (zaz _ e),?_,q⟩
  .intro z;have:=by simpa using z
   rw[this]at e;exact absurd (zbv e) (bH _)
  .have:its.toArray.size=ns.length:=by rw[zbx];simp_all
   rw[this,jsp];rfl
set_option tactic.hygienic true in
def cad_all:CaD X.K kAll (λxs H Q=>∃p,∃ns:List Bool,xs=[.ref p]/\SqL X.K H p (ns.map V.bl)/\Q (.bl (ns.all id)) H):=by
 intro xs d hd J H G us Q hG ru k;unfold kAll at hd
 split at hd
 .rename_i ds
  cases e:blsD ds with
  |none=>simp_all
  |some ns=>rw[e]at hd;cases hd;obtain⟨v,rfl,q⟩:=joy ru;obtain⟨l,ys,rfl,q1,q2⟩:=rep_lst.mp q;rw[jst e]at q2;rw[reps_bls.mp q2]at q1;exact⟨l,ns,rfl,jnf jdo q1,k _ H (Same.refl H) (rep_bl.mpr rfl)⟩
 .cases hd
noncomputable def strsD:List D->Option Ab
|[]=>some []
|.str b::ds=>(strsD ds).map (b::·)
|_::_=>none
theorem strsD_eq:∀{ds:List D}{ns:Ab},strsD ds=some ns->ds=ns.map .str
|[],_,h=>by cases h;rfl
|.str i::ds,ns,h=>by
  unfold strsD at h
  cases e:strsD ds with
  |none=>rw[e]at h;cases h
  |some ms=>rw[e]at h;cases h;rw[strsD_eq e];rfl
|.non::_,_,h=>by cases h
|.int _::_,_,h=>by cases h
|.bl _::_,_,h=>by cases h
|.ty _::_,_,h=>by cases h
|.obj _::_,_,h=>by cases h
|.tup _::_,_,h=>by cases h
|.lst _::_,_,h=>by cases h
def jwn(ns:Ab):strsD (ns.map .str)=some ns:=by induction ns<;>grind[strsD]
theorem reps_strs:∀{ns:Ab}{vs:List V},Reps J K H (ns.map .str) vs↔vs=ns.map V.str
|[],vs=>reps_nil
|n::ns,vs=>by
  constructor
  .rintro⟨v,r,rfl,h1,h2⟩;rw[rep_str.mp h1,reps_strs.mp h2];rfl
  .rintro rfl;exact⟨_,_,rfl,rep_str.mpr rfl,reps_strs.mpr rfl⟩
def gJoin(x:Str):D->Option D
|.lst ds=>match strsD ds with
  |some ys=>if(ys.map (·.length)).sum+ys.length*x.length<=16777216 then some (.str (Txt.join x ys))else none
  |none=>none
|_=>none
theorem jnp:∀{ys:Ab}{us:Ac},Vals (ys.map V.str) us->PyProof.Rows.StrsAre us ys
|[],_,h=>by cases h;exact .nil
|y::ys,_,h=>by
  cases h with
  |cons r t=>obtain⟨tk,rfl⟩:=r;exact .cons y tk (jnp t)
def jP0(K:Af):V->List V->Hp->VK->Prop:=λx vs H Q=>∃z l ys,x=.str z/\vs=[.ref l]/\SqL K H l (ys.map V.str)/\(ys.map (·.length)).sum+ys.length*z.length<=16777216/\Q (.str (Txt.join z ys)) H
def mt_join:MtR X "str.join" (jP0 X.K):=by intro U s Z H x xs v us Q I rx rxs h;obtain⟨z,l,ys,rfl,rfl,hq,hz,q⟩:=h;obtain⟨t,rfl⟩:=rx;obtain⟨u,rfl,ru⟩:=rxs.one;cases ru;obtain⟨its,rv,src,_⟩:=I.list hq;exact PyProof.Rows.join_list src.isList (by grind[jnp]) hz λt' k=>⟨.str _,H,I.tok _,⟨_,rfl⟩,q⟩
def jCe(X:Cx)(cs:Ab)(f:Str):Prop:=∀c∈cs,∀C,X.mg c=some (.ref C)->Cls X.K C/\NoAttr X.K C f
end
section
variable {K:Af}{mg:qc}
structure MetAt(K:Af)(mg:qc)(c x q:Str)(st:Stmt)(ps:Ab):Prop where
 ex:∃C f fd,mg c=some (.ref C)/\Cls K C/\Meth K C x f/\Fun K x q st f fd/\Binds K fd ps []
structure IniAt(K:Af)(mg:qc)(c q:Str)(st:Stmt)(ps:Ab):Prop where
 ex:∃C f fd,mg c=some (.ref C)/\Mk K C f/\Fun K "__init__" q st f fd/\Binds K fd ps []
end
noncomputable def clsStmt(st:Stmt)(j:Nat):Stmt:=match st with
 |.ClassDef _ _ _ b _ _ _ _ _ _ _=>b.getD j (.Pass ⟨0,0,0,0⟩)
 |_=>.Pass ⟨0,0,0,0⟩
def FUEL:Nat:=Classical.choose (⟨100000,rfl⟩:∃n:Nat,n=100000)
def jCf:FUEL=100000:=dC (⟨_,rfl⟩:∃n:Nat,n=100000)
@[simp] theorem jIl(i:Nat):vR i Y=M.o (Y[i]?).join:=rfl
@[simp] theorem e_C(d:D):fC d Y=M.p d:=rfl
@[simp] theorem e_2:f2 g fa fb Y=(fa Y).b λx=>(fb Y).b λy=>M.o (g x y):=rfl
@[simp] theorem e_1:f1 u fa Y=(fa Y).b λx=>M.o (u x):=rfl
def asB:Option D->M Bool
|some (.bl b)=>M.p b
|_=>none
@[simp] theorem jH0(b:Bool):asB (some (.bl b))=M.p b:=rfl
@[simp] theorem e_t2:t2 g fa fb Y=(fa Y).b λx=>(fb Y).b λy=>asB (g x y):=rfl
@[simp] theorem jIj:fNil Y=M.p []:=rfl
@[simp] theorem jcf:fCons fa fl Y=(fa Y).b λx=>(fl Y).b λxs=>M.p (x::xs):=rfl
@[simp] theorem e_L:fL k fl Y=(fl Y).b λxs=>M.o (k xs):=rfl
@[simp] theorem jix:fCall m fl Y=(fl Y).b m:=rfl
@[simp] theorem jOn:gNot (.bl b)=some (.bl !b):=rfl
@[simp] theorem jIk:tNot ta Y=(ta Y).b λx=>M.p !x:=rfl
@[simp] theorem jtn:tAnd ta tb Y=(ta Y).b λx=>if x=true then tb Y else M.p false:=rfl
@[simp] theorem jOo:tOr ta tb Y=(ta Y).b λx=>if x=true then M.p true else tb Y:=rfl
@[simp] theorem e_if:fIf ta fa fb Y=(ta Y).b λx=>if x=true then fa Y else fb Y:=rfl
def andB(b:D)(r:M D):M D:=match b with
 |.bl true=>r
 |.bl false=>M.p (.bl false)
 |_=>none
def orB(b:D)(r:M D):M D:=match b with
 |.bl true=>M.p (.bl true)
 |.bl false=>r
 |_=>none
@[simp] theorem andB_t(r:M D):andB (.bl true) r=r:=rfl
@[simp] theorem andB_f(r:M D):andB (.bl false) r=M.p (.bl false):=rfl
@[simp] theorem orB_t(r:M D):orB (.bl true) r=M.p (.bl true):=rfl
@[simp] theorem jPo(r:M D):orB (.bl false) r=r:=rfl
@[simp] theorem jOj:fAnd fa fb Y=(fa Y).b λx=>andB x (fb Y):=rfl
@[simp] theorem e_or:fOr fa fb Y=(fa Y).b λx=>orB x (fb Y):=rfl
@[simp] theorem jtp:tTru fa Y=(fa Y).b λx=>M.o (truD x):=rfl
@[simp] theorem jNi(b:Bool):truD (.bl b)=some b:=rfl
@[simp] theorem jQs:truD .non=some false:=rfl
@[simp] theorem e_nx:gNx Y=M.p (.nx Y):=rfl
def seqO(g2:DSt->M Out):Out->M Out
|.nx Y'=>g2 Y'
|o=>M.p o
@[simp] theorem jGa(Y':DSt):seqO g2 (.nx Y')=g2 Y':=rfl
@[simp] theorem jv4(d:D):seqO g2 (.rt d)=M.p (.rt d):=rfl
@[simp] theorem jP9(Y':DSt):seqO g2 (.bk Y')=M.p (.bk Y'):=rfl
@[simp] theorem jQa(Y':DSt):seqO g2 (.ct Y')=M.p (.ct Y'):=rfl
@[simp] theorem jC5:gSeq g1 g2 Y=(g1 Y).b (seqO g2):=by congr 1
@[simp] theorem jxz(i:Nat):gSet i fa Y=(fa Y).b λd=>M.p (.nx (Y.set i (some d))):=rfl
@[simp] theorem jtm:gRet fa Y=(fa Y).b λd=>M.p (.rt d):=rfl
@[simp] theorem e_drop:gDrop fa Y=(fa Y).b λz=>M.p (.nx Y):=rfl
@[simp] theorem jOm:gIf ta g1 g2 Y=(ta Y).b λb=>if b=true then g1 Y else g2 Y:=rfl
def appO(i:Nat)(Y:DSt)(d:D):Option D->M Out
|some (.lst ds)=>if ds.length<sizeLine then M.p (.nx (Y.set i (some (.lst (ds++[d])))))else none
|_=>none
def jpi(h:ds.length<sizeLine):appO i Y d (some (.lst ds))=M.p (.nx (Y.set i (some (.lst (ds++[d]))))):=aD h
@[simp] theorem jC3(i:Nat):gApp i fa Y=(fa Y).b λd=>appO i Y d (Y[i]?).join:=rfl
@[simp] theorem jOl:gFor fi tg g1 Y=(fi Y).b λds=>forD g1 tg ds Y:=rfl
@[simp] theorem jtl:iArgs ki fl Y=(fl Y).b λds=>M.o (ki ds):=rfl
@[simp] theorem jIh:iSeqD fa Y=(fa Y).b λd=>M.o (seqD d):=rfl
@[simp] theorem e_yes:tYes Y=M.p true:=rfl
@[simp] theorem jxy(d:D):outD (.rt d)=M.p d:=rfl
@[simp] theorem jN2(Y:DSt):outD (.nx Y)=M.p .non:=rfl
def jer(N:Nat)(x0:D):mir 1 N g1 [x0]=(g1 (some x0::List.replicate (N-1) none)).b outD:=rfl
def jde(N:Nat)(x0 x1:D):mir 2 N g1 [x0,x1]=(g1 (some x0::some x1::List.replicate (N-2) none)).b outD:=rfl
def jfp(N:Nat)(x0 x1 x2:D):mir 3 N g1 [x0,x1,x2]=(g1 (some x0::some x1::some x2::List.replicate (N-3) none)).b outD:=rfl
def jIi(N:Nat)(x0 x1 x2 x3:D):mir 4 N g1 [x0,x1,x2,x3]=(g1 (some x0::some x1::some x2::some x3::List.replicate (N-4) none)).b outD:=rfl
@[simp] theorem b_none(f:α->M β):M.b none f=none:=rfl
@[simp] theorem jCm(m:M α)(f:α->M β)(h:β->M γ):(m.b f).b h=m.b λa=>(f a).b h:=by
 cases m with
 |none=>rfl
 |some e=>cases e<;>rfl
@[simp] theorem jIg:fComp own caps fi tg tc fa Y=(fi Y).b λds=>M.o ((compD tg tc fa ds (innerD own caps Y)).bind gLstD):=rfl
@[simp] theorem lt_int(i j:Int):gLt (.int i) (.int j)=some (.bl (decide (i<j))):=rfl
@[simp] theorem le_int(i j:Int):gLe (.int i) (.int j)=some (.bl (decide (i<=j))):=rfl
@[simp] theorem gt_int(i j:Int):gGt (.int i) (.int j)=some (.bl (decide (j<i))):=rfl
@[simp] theorem ge_int(i j:Int):gGe (.int i) (.int j)=some (.bl (decide (j<=i))):=rfl
@[simp] theorem add_int(i j:Int):gAdd (.int i) (.int j)=some (.int (i+j)):=rfl
@[simp] theorem sub_int(i j:Int):gSub (.int i) (.int j)=some (.int (i-j)):=rfl
@[simp] theorem neg_int(i:Int):gNeg (.int i)=some (.int (-i)):=rfl
def mod_int(h:0<j):gMod (.int i) (.int j)=some (.int (i % j)):=aD h
def Bt(k:Nat)(i:Int):Prop:=i.natAbs<2 ^ k
def Bt.mono(h:Bt a i)(hab:a<=b):Bt b i:=zcx h (dX (by decide) hab)
def Bt.mul(h:Bt a i)(k:Bt b j):Bt (a+b) (i*j):=by unfold Bt;rw[Int.natAbs_mul,Nat.pow_add];exact Nat.mul_lt_mul'' h k
def Bt.add(h:Bt a i)(k:Bt a j):Bt (a+1) (i+j):=by unfold Bt at *;omega
def Bt.neg(h:Bt a i):Bt a (-i):=by unfold Bt at *;simp_all
def Bt.big(h:Bt k i)(hk:k<=100000):inBig i=true:=by have h':=zcx h (dX (by decide) hk);rw[<- jsk]at h';unfold inBig BIG;rw[aC,aV,aV];omega
def jut(h:Bt a i)(k:Bt b j)(ha:a<=100000)(hb:b<=100000):gMul (.int i) (.int j)=some (.int (i*j)):=by
 have:(inBig i&&inBig j)=true:=by rw[h.big ha,k.big hb];rfl
 exact aD this
def fdiv_int(h:0<j)(h2:j<2^200):gFdiv (.int i) (.int j)=some (.int (i / j)):=by
 refine aD ⟨h,?_⟩;unfold DIVB;have:(2^200)<=2^9000:=dX (by decide) (by decide)
 grind[jsl]
theorem atI_get{j:Nat}(h:xs[j]?=some v):atI xs (j:Int)=some v:=by
 have hj:=(zbb.mp h).1;unfold atI ixN;simp_all
@[simp] theorem ix_t(ds:List D)(i:Int):gIx (.tup ds) (.int i)=atI ds i:=rfl
@[simp] theorem ix_l(ds:List D)(i:Int):gIx (.lst ds) (.int i)=atI ds i:=rfl
@[simp] theorem at0(x:α)(xs:List α):atI (x::xs) 0=some x:=by have:=atI_get (xs:=x::xs) (j:=0) rfl;simpa using this
@[simp] theorem at1(x y:α)(xs:List α):atI (x::y::xs) 1=some y:=by have:=atI_get (xs:=x::y::xs) (j:=1) rfl;simpa using this
@[simp] theorem at2(x y z:α)(xs:List α):atI (x::y::z::xs) 2=some z:=by have:=atI_get (xs:=x::y::z::xs) (j:=2) rfl;simpa using this
@[simp] theorem at3(x y z w:α)(xs:List α):atI (x::y::z::w::xs) 3=some w:=by have:=atI_get (xs:=x::y::z::w::xs) (j:=3) rfl;simpa using this
@[simp] theorem jO2(ds:List D):kLen [.lst ds]=some (.int ds.length):=rfl
@[simp] theorem jO3(ds:List D):kLen [.tup ds]=some (.int ds.length):=rfl
@[simp] theorem jHg(ds:List D):kTuple [.lst ds]=some (.tup ds):=rfl
@[simp] theorem jJt(ds:List D):jOx [.lst ds]=some (.lst ds):=rfl
@[simp] theorem jLj(j:Int):rangeArgs [.int j]=some (jbn 0 j.toNat):=rfl
@[simp] theorem jLk(i j:Int):rangeArgs [.int i,.int j]=some (jbn i (j-i).toNat):=rfl
@[simp] theorem enum_l(xs:List D):enumArgs [.lst xs]=some (enumD 0 xs):=rfl
@[simp] theorem jL9(ds:List D):seqD (.lst ds)=some ds:=rfl
@[simp] theorem jQb(ds:List D):seqD (.tup ds)=some ds:=rfl
@[simp] theorem jQt(x y:D):gTupD [x,y]=some (.tup [x,y]):=rfl
@[simp] theorem jQu(x y z:D):gTupD [x,y,z]=some (.tup [x,y,z]):=rfl
@[simp] theorem tupD4(x y z w:D):gTupD [x,y,z,w]=some (.tup [x,y,z,w]):=rfl
@[simp] theorem jO4:gLstD []=some (.lst []):=rfl
@[simp] theorem lstD1(x:D):gLstD [x]=some (.lst [x]):=rfl
@[simp] theorem jO5(x y:D):gLstD [x,y]=some (.lst [x,y]):=rfl
@[simp] theorem jO6(x y z:D):gLstD [x,y,z]=some (.lst [x,y,z]):=rfl
def jEf(h:ds.length<=sizeLine):gLstD ds=some (.lst ds):=aD h
@[simp] theorem jIp(i j:Int):gEq (.int i) (.int j)=some (.bl (i==j)):=rfl
@[simp] theorem jJ8(i j:Int):gNe (.int i) (.int j)=some (.bl !(i==j)):=rfl
@[simp] theorem eq_bl(i j:Bool):gEq (.bl i) (.bl j)=some (.bl (i==j)):=rfl
def jAi(ns:Ae):kSum [.lst (ns.map .int)]=some (.int ns.sum):=by
 show(match seqD (.lst _)with|some ds=>(intsD ds).map λ(ns:Ae)=>D.int ns.sum|none=>none)=_
 grind[jL9,jt3]
@[simp] theorem joe(i:Int):kIsi [.int i,.ty "int"]=some (.bl true):=rfl
@[simp] theorem jmv(i:Int):kIsi [.int i,.ty "bool"]=some (.bl false):=rfl
@[simp] theorem jod(i:Bool):kIsi [.bl i,.ty "bool"]=some (.bl true):=rfl
@[simp] theorem jye(i:List D):kIsi [.tup i,.ty "tuple"]=some (.bl true):=rfl
theorem jph:∀(xs ys:List D),zipD xs ys=(xs.zip ys).map λp=>.tup [p.1,p.2]
|[],_=>by rfl
|_::_,[]=>by rfl
|x::xs,y::ys=>by simp[zipD,jph xs ys]
theorem jlc(I:List D->DSt->Prop)(h:∀d ds Y,I (d::ds) Y->∃Y1,tg d Y=some Y1/\∃Y2,(g Y1=some (.ok (.nx Y2))\/g Y1=some (.ok (.ct Y2)))/\I ds Y2):
  ∀(ds:List D)(Y:DSt),I ds Y->∃Y',forD g tg ds Y=some (.ok (.nx Y'))/\I [] Y'
|[],Y,hi=>⟨Y,rfl,hi⟩
|d::ds,Y,hi=>by obtain⟨Y1,e1,Y2,e2,i2⟩:=h d ds Y hi;obtain⟨Y',e3,i3⟩:=jlc I h ds Y2 i2;refine⟨Y',?_,i3⟩;unfold forD;rw[e1];dsimp only;rcases e2 with e2|e2<;>(simp_all)
@[simp] theorem jN3(i:Nat)(d:D)(Y:DSt):gName i d Y=some (Y.set i (some d)):=rfl
@[simp] theorem jN4(i j:Nat)(x y:D)(Y:DSt):gTup2 i j (.tup [x,y]) Y=some ((Y.set i (some x)).set j (some y)):=rfl
def jld{g:DSt->M Out}{tg:D->DSt->Option DSt}(ds:List D)(I:Nat->DSt->Prop)
  (h:∀(j:Nat)(hj:j<ds.length)(Y:DSt),I j Y->∃Y1,tg ds[j] Y=some Y1/\∃Y2,(g Y1=some (.ok (.nx Y2))\/g Y1=some (.ok (.ct Y2)))/\I (j+1) Y2) (Y:DSt) (h0:I 0 Y):
  ∃Y',forD g tg ds Y=some (.ok (.nx Y'))/\I ds.length Y':=by
 obtain⟨Y',e,j,hd,hj,hi⟩:=jlc (λrem Y=>∃j,rem=ds.drop j/\j<=ds.length/\I j Y) (λd rem Y ⟨j,hr,hj,hi⟩=>by
  have hlt:j<ds.length:=by
   by_cases q:j<ds.length
   .exact q
   .clear q;grind
  rw[List.drop_eq_getElem_cons hlt]at hr;obtain⟨rfl,rfl⟩:=cZ hr;obtain⟨Y1,e1,Y2,e2,i2⟩:=h j hlt Y hi;exact⟨Y1,e1,Y2,e2,_,rfl,hlt,i2⟩) ds Y ⟨0,rfl,aY _,h0⟩
 refine⟨Y',e,?_⟩;have:j=ds.length:=by
  have:=congrArg List.length hd;simp at this
  clear hd;grind
 simp_all
@[simp] theorem jHs(lo:Int)(n:Nat):(jbn lo n).length=n:=by simp[jbn]
@[simp] theorem jHr(lo:Int)(n j:Nat)(h:j<(jbn lo n).length):(jbn lo n)[j]=.int (lo+j):=by simp[jbn]
def jr6(n:Nat)(F:D->D):(jbn 0 n).map F=(List.range n).map λj=>F (.int (j:Nat)):=by unfold jbn;simp
@[simp] theorem jOk(i:Nat):gAug i g fa Y=(M.o (Y[i]?).join).b λx=>(fa Y).b λy=>(M.o (g x y)).b λd=>M.p (.nx (Y.set i (some d))):=rfl
@[simp] theorem jCs(i j:Int):gCat (.int i) (.int j)=some (.int (i+j)):=rfl
def jCt(h:x.length+y.length<=sizeLine):gCat (.str x) (.str y)=some (.str (x++y)):=aD h
def js5(h:x.length+y.length<=sizeLine):gCat (.lst x) (.lst y)=some (.lst (x++y)):=aD h
def jzj{α:Type}(x:α):∀n:Nat,(List.replicate n [x]).flatten=List.replicate n x
|0=>rfl
|n+1=>by simp_all
def e_rep(x:D)(n:Nat)(hl:fl Y=M.p [x])(hb:fb Y=M.p (.int n))(hn:n<=1000):fRep fl fb Y=M.p (.lst (List.replicate n x)):=by
 unfold fRep;rw[hl,hb];have h3:1000<=sizeLine:=by decide
 rw[M.b_p,aD (by show 1<=sizeLine;decide),M.b_p];dsimp only;rw[aD (⟨by simp_all,by lia,by simp;lia⟩),jzj];rfl
@[simp] theorem jD1(b:Bool):kIntT [.bl b]=some (.int (if b then 1 else 0)):=rfl
theorem jsu:∀bs:List Bool,blsD (bs.map .bl)=some bs
|[]=>rfl
|b::bs=>by rw[aE];unfold blsD;rw[jsu bs];rfl
theorem jso(bs:List Bool):kAll [.lst (bs.map .bl)]=some (.bl (bs.all id)):=by show(blsD _).map _=_;rw[jsu];rfl
def jem{c:DSt}{fe:DSt->M D}{α:Type}{K:α->D×D}{F:α->D}(ps:List α)(x y:Option D)(h:∀p∈ps,fe (some (K p).1::some (K p).2::c)=some (.ok (F p))):compD (gTup2 0 1) tYes fe (ps.map λp=>.tup [(K p).1,(K p).2]) (x::y::c)=some (ps.map F):=by
 induction ps generalizing x y with
 |nil=>rfl
 |cons p ps ih=>rw[aE];unfold compD;have e1:gTup2 0 1 (.tup [(K p).1,(K p).2]) (x::y::c)=some (some _::some _::c):=rfl;rw[e1];dsimp only [M.p];rw[h p zaa,ih _ _ λe he=>h e (zaw _ he)];rfl
def ja7{c:DSt}{fe:DSt->M D}{α:Type}{K:α->D}{F:α->D}(ps:List α)(x:Option D)(h:∀p∈ps,fe (some (K p)::c)=some (.ok (F p))):compD (gName 0) tYes fe (ps.map K) (x::c)=some (ps.map F):=by
 induction ps generalizing x with
 |nil=>rfl
 |cons p ps ih=>rw[aE];unfold compD;have e1:gName 0 (K p) (x::c)=some (some _::c):=rfl;rw[e1];dsimp only [M.p];rw[h p zaa,ih _ λe he=>h e (zaw _ he)];rfl
def jxa(as bs:Ae):zipD (as.map .int) (bs.map .int)=(as.zip bs).map λp=>.tup [.int p.1,.int p.2]:=by rw[jph,List.zip_map,aP];rfl
def jFp(own:Nat)(caps:qh)(Y:DSt):innerD own caps Y=List.replicate own none++caps.map λp=>(Y[p.2]?).join:=rfl
def zip_tt(xs ys:List D):zipArgs [.tup xs,.tup ys]=some (zipD xs ys):=rfl
def jN1(xs ys:List D):zipArgs [.tup xs,.lst ys]=some (zipD xs ys):=rfl
def jCd(xs ys:List D):zipArgs [.lst xs,.tup ys]=some (zipD xs ys):=rfl
def jN0(xs ys:List D):zipArgs [.lst xs,.lst ys]=some (zipD xs ys):=rfl
def jPh(i j:Bool):gNe (.bl i) (.bl j)=some (.bl !(i==j)):=rfl
theorem jil{α:Type}{f:α->D}:∀{xs:List α},(∀x∈xs,okD (f x)=true)->okDs (xs.map f)=true
|[],_=>by rfl
|x::xs,h=>by rw[aE];unfold okDs;rw[h x zaa,jil λy hy=>h y (zaw _ hy)];rfl
theorem jgy{α:Type}{f:α->D}:∀{xs:List α},(∀x∈xs,depD (f x)<=k)->depDs (xs.map f)<=k
|[],_=>by grind[depDs]
|x::xs,h=>by
  rw[aE];unfold depDs
  have h1:=h x zaa;have h2:=jgy λy hy=>h y (zaw _ hy);lia
def jah{g1 g2:DSt->M Out}{Y Y':DSt}(h:g1 Y=some (.ok (.nx Y'))):gSeq g1 g2 Y=g2 Y':=by simp_all
def w_rt{g1 g2:DSt->M Out}{Y:DSt}{d:D}(h:g1 Y=some (.ok (.rt d))):gSeq g1 g2 Y=some (.ok (.rt d)):=by rw[jC5,h,M.b_ok,jv4];rfl
def w_if{t:DSt->M Bool}{g1 g2:DSt->M Out}{Y:DSt}{b:Bool}(h:t Y=some (.ok b)):gIf t g1 g2 Y=if b=true then g1 Y else g2 Y:=by simp_all
def jnq{t:DSt->M Bool}{g1 g2:DSt->M Out}{Y:DSt}(h:t Y=some (.ok false)):gSeq (gIf t g1 gNx) g2 Y=g2 Y:=jah (by rw[w_if h,aJ nofun];rfl)
def jw4{t:DSt->M Bool}{g1:DSt->M Out}{Y:DSt}(h:t Y=some (.ok false)):gIf t g1 gNx Y=some (.ok (.nx Y)):=by rw[w_if h,aJ nofun];rfl
def jbq{fa:DSt->M D}{Y:DSt}{d:D}(hd:fa Y=some (.ok d)):gRet fa Y=some (.ok (.rt d)):=by rw[jtm,hd,M.b_ok];rfl
def jco{fa:DSt->M D}{Y:DSt}{d:D}(i:Nat)(hd:fa Y=some (.ok d)):gSet i fa Y=some (.ok (.nx (Y.set i (some d)))):=by rw[jxz,hd,M.b_ok];rfl
def jAq{fi:DSt->M (List D)}{tg:D->DSt->Option DSt}{g:DSt->M Out}{Y:DSt}{ds:List D}(h:fi Y=some (.ok ds)):gFor fi tg g Y=forD g tg ds Y:=by simp_all
def jpf{fa:DSt->M D}{Y:DSt}{d:D}{ds:List D}(i:Nat)(hd:fa Y=some (.ok d))(hi:Y[i]?=some (some (.lst ds)))(hl:ds.length<=100000):gApp i fa Y=some (.ok (.nx (Y.set i (some (.lst (ds++[d])))))):=by rw[jC3,hd,M.b_ok,hi];exact jpi (by have:=bG;lia)
def jih{g:DSt->M Out}{tg:D->DSt->Option DSt}{d:D}{ds:List D}{Y Y1 Y2:DSt}(h1:tg d Y=some Y1)(h2:g Y1=some (.ok (.nx Y2))):forD g tg (d::ds) Y=forD g tg ds Y2:=by simp_all [forD]
def stp:=And.intro (@if_true.{1}) <| And.intro (@if_false.{1}) <| And.intro (@Bool.false_eq_true) <| And.intro (@jC5) <| And.intro (@jxz) <| And.intro (@e_2) <| And.intro (@e_1) <| And.intro (@e_t2) <| And.intro (@jtm) <| And.intro (@jOm) <| And.intro (@jOl) <| And.intro (@jtl) <| And.intro (@jIh) <| And.intro (@jIg) <| And.intro (@jix) <| And.intro (@jcf) <| And.intro (@jIl) <| And.intro (@jIj) <| And.intro (@e_C) <| And.intro (@e_L) <| And.intro (@e_if) <| And.intro (@jtp) <| And.intro (@jtn) <| And.intro (@jOo) <| And.intro (@jIk) <| And.intro (@jOn) <| And.intro (@e_nx) <| And.intro (@jOk) <| And.intro (@jC3) <| And.intro (@jOj) <| And.intro (@e_or) <| And.intro (@M.o_some) <| And.intro (@M.b_p) <| And.intro (@M.b_ok) <| And.intro (@jCm) <| And.intro (@jGa) <| And.intro (@jv4) <| And.intro (@jxy) <| And.intro (@ix_t) <| And.intro (@ix_l) <| And.intro (@at0) <| And.intro (@at1) <| And.intro (@at2) <| And.intro (@at3) <| And.intro (@jL9) <| And.intro (@jQb) <| And.intro (@jHg) <| And.intro (@jJt) <| And.intro (@jO2) <| And.intro (@jO3) <| And.intro (@jQt) <| And.intro (@jQu) <| And.intro (@jO4) <| And.intro (@lstD1) <| And.intro (@jO5) <| And.intro (@jO6) <| And.intro (@jCs) <| And.intro (@sub_int) <| And.intro (@neg_int) <| And.intro (@jIp) <| And.intro (@jJ8) <| And.intro (@jPh) <| And.intro (@lt_int) <| And.intro (@le_int) <| And.intro (@gt_int) <| And.intro (@ge_int) <| And.intro (@jH0) <| And.intro (@jNi) <| And.intro (@jLj) <| And.intro (@jLk) <| And.intro (@fX) <| And.intro (@jxa) <| And.intro (@jFp) <| And.intro (@zip_tt) <| And.intro (@jN1) <| And.intro (@jCd) <| And.intro (@jN0) <| And.intro (@joe) <| And.intro (@jmv) <| And.intro (@jod) <| And.intro (@jD1) <| And.intro (@eS.{0}) <| And.intro (@gm.{0}) <| And.intro (@List.set_cons_succ.{0}) <| And.intro (@List.set_cons_zero.{0}) <| And.intro (@List.getElem?_cons_zero.{0}) <| And.intro (@fQ.{0}) <| And.intro (@Option.join_some.{0}) <| And.intro (@gf.{0,0}) <| And.intro (@aE.{0,0}) <| And.intro (@aO.{0}) <| And.intro (@cV.{0}) <| And.intro (@dP.{0}) <| And.intro (@aW.{0,0}) <| True.intro
def jAv{α:Type}(xs:List α)(f:α->Bool):kAll [.lst (xs.map λx=>.bl (f x))]=some (.bl (xs.all f)):=by
 have:(xs.map λx=>D.bl (f x))=(xs.map f).map .bl:=by rw[aP];rfl
 grind[jso,List.all_map]
def jwp{α:Type}(xs:List α)(f:α->Int):kSum [.lst (xs.map λx=>.int (f x))]=some (.int (xs.map f).sum):=by
 have:(xs.map λx=>D.int (f x))=(xs.map f).map .int:=by rw[aP];rfl
 rw[this,jAi]
def jj3{α β:Type}(f:α->D)(g:β->D)(as:List α)(bs:List β):zipD (as.map f) (bs.map g)=(as.zip bs).map λp=>.tup [f p.1,g p.2]:=by rw[jph,List.zip_map,aP];rfl
end DL
namespace L2
open PyProof.Rows
section
variable {X:Cx}
def jFh(hc:X.calm=true)(ck:CapsOk X scope caps)
  (hi:PI X tg iter wi) (hg:∀C s0 H0 ex,PG (As X scope own caps C s0 H0 ex) tg g) (ht:∀C s0 H0 ex,PC0 (As X scope own caps C s0 H0 ex) ifs tc)
  (he:∀C s0 H0 ex,PE (As X scope own caps C s0 H0 ex) elt te) (hN:X.N.Nodup) (hix:X.N[i]?=some x) (hx:Loc X.env.scope x) (hsw:swapsWith (.ListComp elt [⟨tg,iter,ifs,0⟩] scope cpos) (some (.Name x pos')) pos.line X.env=pure true)
  (hf:An X x) (hs:Ao X iter):
  PS X (.Assign [.Name x pos'] (.ListComp elt [⟨tg,iter,ifs,0⟩] scope cpos) pos) (λDn Z H=>jwr own.length caps wi g tc te Z H λv H'=>Dn.nx (Z.set i (some v)) H'):=by
 intro U s Z H Dn I h;rw[exec_Assign_Name_used _ _ _ _ hsw];refine zay (eV (zay ?_))
 refine zay (thn (jmc hc ck hi hg ht he hs I h ?_) λz s' hq=>zab (zab hq));intro D H5 C s6 r I6 fc ⟨m6,n6⟩ qn;obtain⟨f1,f2,f3,f4,f5,f6⟩:=fc;refine wpAny_assign_Name (jnn I6 hN hix hx (v:=.ref D) rfl (λs7 I7 hzz=>?_) hf);obtain⟨a,sba,ha⟩:=hzz;have hCa:C≠a:=by
  rcases ha with ha|ha
  .grind
  .grind
 refine⟨m6,n6.sameBut sba hCa,λh8 sb8=>⟨_,H5,I7.turned (λb o hb e=>(sb8.2 b hb).trans e) f1 f2 f4 f5 f6,qn⟩⟩
end
open Att
def ObjOk.here(x:ObjOk P w H h a o):∃ob,h.get? a=some ob:=by
 cases o with
 |lst xs=>obtain⟨_,_,_,_,e⟩:=x;exact⟨_,e⟩
 |tup xs=>obtain⟨_,_,_,o,e,_⟩:=x;exact⟨_,e⟩
 |dK kvs=>obtain⟨_,_,_,_,o,_,_,e,_⟩:=x;exact⟨_,e⟩
 |dT kvs=>obtain⟨_,_,_,_,o,_,_,e,_⟩:=x;exact⟨_,e⟩
 |set S n=>obtain⟨o,_,_,_,e,_⟩:=x;exact⟨_,e⟩
 |ins C dx fs=>obtain⟨_,_,_,e,_⟩:=x;exact⟨_,e⟩
 |own y=>exact x
 |xd fs=>obtain⟨_,⟨_,_,_,e,_⟩,_⟩:=x;exact⟨_,e⟩
 |rng lo hi=>obtain⟨_,_,_,e⟩:=x;exact⟨_,e⟩
 |frz ob u=>obtain⟨e,_⟩:=x;exact⟨_,e⟩
 |tbl ps=>exact⟨_,x⟩
 |met f y=>exact⟨_,x⟩
 |ext φ=>exact x.2.1
end L2
namespace DL
open PyProof.Rows L2
section
variable {K:Af}
variable (hT:K.lookup T=some ⟨.none,none,.fields #[],#[]⟩)
include hT
end
end DL
namespace L2
open PyProof.Rows Builtin Builtin.ObjectAttr
open PySem.W (Frag InstAt Looks findIn mroIn clsIn findObj takerIn tailIn isFn)
noncomputable abbrev bmV:Ac:=[.type "ValueError",.type "Exception",.type "BaseException",.type "object"]
set_option backward.match.sparseCases true in
def xIn(K:Frag)(C:Addr):Bool:=match K.lookup C with
 |some ⟨c,_,.cls cd,sl⟩=>c == .type "type"&&cd.mro == .ref C::cd.mro.tail&&sl.toList==[sl.getD 0 none,sl.getD 1 none,sl.getD 2 none,sl.getD 3 none,some (.builtin "ValueError.__new__"),sl.getD 5 none]&&!cd.hasDel&&cd.hasDict&&tailIn K bmV cd.mro.tail
 |_=>false
inductive XAt(K:Frag)(h:Heap)(C:Addr):Prop
| mk (bm:Ac) (N:Addr) (nm q:Str) (bs:Ac) (sn:Ab) (sub:Ac) (ab:Bool) (col:Option Bool) (dd:Ag) (k0 k1 k2 k3 k5:Al) (cd:ClassData)
  (hC:h.get? C=some (excClassObj nm q C N bs bm true sn sub ab col dd k0 k1 k2 k3 k5 "ValueError.__new__")) (T:OwnTail h bmV bm) (hk:clsIn K C=some cd) (hm:cd.mro=.ref C::bm) (hd:cd.hasDict=true) (hN:cd.ns=N)
set_option tactic.hygienic true in
def x_at{K:Frag}(X:K.In h)(e:xIn K C=true):XAt K h C:=by
 unfold xIn at e
 split at e
 .rename_i c dd cd sl ho;simp only[aC,bB,eG]at e;obtain⟨⟨⟨⟨⟨e0,hm⟩,hs⟩,e3⟩,e4⟩,e5⟩:=e;have z:=X _ _ ho;rw[show sl=#[_,_,_,_,_,_]from Array.toList_inj.mp hs]at z;have q:clsIn K C=some cd:=by unfold clsIn;rw[ho]
  obtain⟨nm,bs,mro,ns,qn,hd,sn,sub,ab,col,del⟩:=cd;dsimp only at hm e3 e4 e5;subst e0 e3 e4;rw[hm]at z;exact⟨_,ns,nm,qn,bs,sn,sub,ab,col,dd,_,_,_,_,_,_,z,W.tail_of_in X e5,q,hm,rfl,rfl⟩
 .cases e
def jox(self:Value)(T:OwnTail h bmV bm):refuseLoop self "__setattr__" bm=pure ():=by
 induction T with
 |base=>exact PySem.F.store_ValueError.passes _
 |own _ _ _ _ ih=>grind[refuseLoop_ref]
section
variable {K:Frag}
def jNw{rest:Ac}{Q:qe}(X:K.In s.heap)(hx:xIn K C=true)(hi:findIn K (.ref C) "__init__"=some (some (.ref f)))(hf:isFn K (.ref f)=true)
  (hq:∀h' e,Heap.MadeExcOf s.heap h' e (.ref C) rest->wpAny (model prog w) (A.under (.builtin "type.__call__" ⟨.ref C::rest,[]⟩)) (call (.ref f) (.ref e::rest)) (λr s'=>r=.none/\Q (.ref e) s') E { s with heap:=h' }) (hrest:rest.length<=sizeLine):
  wpAny (model prog w) A (call (.ref C) rest) Q E s:=by
 obtain⟨bm,N,nm,q,bs,sn,sub,ab,col,dd,k0,k1,k2,k3,k5,cd,hC,T,hk,hm,hd,hN⟩:=x_at X hx;obtain⟨h,g,d,t,os⟩:=s;have F:=gk;have f1:=tc_lookup;have f2:=tc_bind (.ref C);refine dZ (codeAny_of_tree (?_))
 repeat (any_goals (first|assumption|with_reducible refine dW hC ?_|wp_step))
 refine⟨rfl,codeAny_call_builtin_at (gg _ (by decide +kernel)) entry_typeCall (wpAny_check_type_call_sub hC ?_)⟩
 repeat (first|with_reducible refine dW hC ?_|with_reducible refine wpAny_madeBy_exc hC ?_|wp_step)
 refine codeAny_call_builtin_code (gg _ F.quiet) (wpAny_check_new_subT F T hC (codeAny_exc_new_subT F T hC (?_) hrest));have kp:∀b o,h.get? b=some o->((h.push { cls:=.type "tuple",data:=.seq rest.toArray }).push { cls:=.ref C,data:=.fields #[.ref h.objs.size,.none,.none,.none,.bool false,.none]}).get? b=some o:=λb o e=>zaz _ (zaz _ e)
 have X1:=λb o e=>kp b o (X b o e)
 have hg1:((h.push { cls:=.type "tuple",data:=.seq rest.toArray }).push { cls:=.ref C,data:=.fields #[.ref h.objs.size,.none,.none,.none,.bool false,.none]}).get? (h.objs.size+1)=some { cls:=.ref C,data:=.fields #[.ref h.objs.size,.none,.none,.none,.bool false,.none]}:=by heap_get
 repeat (first|with_reducible refine dW hg1 ?_|(with_reducible rw[(by simp)])|wp_step)
 refine wpAny_isSubtype_exc (kp _ _ hC) ?_
 repeat wp_step
 refine(fU X1 hi).at ?_;refine cA (zay ((W.bind_fn X1 _ (bB.mp hf)).at ?_));refine zay (fB (hq _ _ ⟨kp,bW (eE _),_,hg1,bW (zac _),zaz _ (Heap.get?_push_at rfl rfl)⟩) (λr s' hr=>?_) λy y z=>z);obtain⟨rfl,hQ⟩:=hr
 wp_walk
 exact hQ
noncomputable def xNoI(K:Frag)(C:Addr):Bool:=(clsIn K C).any λcd=>W.nsOkIn K cd.ns&&W.nsIn K cd.ns "__init__" == some none
def jHl{rest:Ac}{Q:qe}(X:K.In s.heap)(hx:xIn K C=true)(hi:xNoI K C=true)(hq:∀h' e,Heap.MadeExcOf s.heap h' e (.ref C) rest->Q (.ref e) { s with heap:=h' })(hrest:rest.length<=sizeLine):
  wpAny (model prog w) A (call (.ref C) rest) Q E s:=by obtain⟨bm,N,nm,q,bs,sn,sub,ab,col,dd,k0,k1,k2,k3,k5,cd,hC,T,hk,hm,hd,hN⟩:=x_at X hx;obtain⟨cd',e1,e2⟩:=W.any_some hi;rw[hk]at e1;cases e1;rw[hN,aC,bB]at e2;exact wpAny_call_exc_subT gk T hC (.of_isNs (W.isNs_of_in X e2.1)) (W.nsMap_none_of_in X e2.1 e2.2) hq
def jHm(X:K.In h)(hx:xIn K C=true)(hT:bmV.contains (.type T)=true):mroIn K C (.type T)=some true:=by obtain⟨bm,N,nm,q,bs,sn,sub,ab,col,dd,k0,k1,k2,k3,k5,cd,hC,Tl,hk,hm,hd,hN⟩:=x_at X hx;unfold mroIn;rw[hk,aW,hm,aJ (λz=>by cases z),List.contains_cons,Tl.hasType hT,Bool.or_true]
def jQ1{R:Result->Shared->Prop}{tk:Tok}(X:K.In s.heap)(I:InstAt s.heap x ox C od)(hx:xIn K C=true)(ht:takerIn K C name=some none)
  (h:∀b,wpAny (model prog w) A.in1 (storeInOwnDict (.ref x) (.ref C) (.str name tk) name v b) (λfin s'=>match fin with|.done f=>R (.ok f) s'|.again c'=>c'.quiet=true/\codeAny (model prog w) A c' R s') (λe s'=>R (.error e) s') s):
  codeAny (model prog w) A (.call (.builtin "object.__setattr__") ⟨[.ref x,.str name tk,v],[]⟩) R s:=by
 have SF:=PySem.F.store_object;obtain⟨bm,N,nm,q,bs,sn,sub',ab,col,dd,k0,k1,k2,k3,k5,cd,hC,Tl,hk,hm,hd,hN⟩:=x_at X hx;have hmr:=by have:=(W.looks_clsIn (M:=model prog w) X hk).andThen (f:=λcd=>pure cd.mro) .now;rw[hm]at this;exact this
 refine fT SF.slot.plain SF.entry (@W.check_slot _ _ _ s _ _ _ _ _ [] _ SF.kind SF.split (I.type.andThen (W.looks_mroIn X (jHm X hx rfl))) (SF.args _ _ v) ?_);obtain⟨attr,ha,hr⟩:=aG.mp ht;have L3:Looks (model prog w) s.heap (storeTaker? attr) none:=by
  cases attr with
  |none=>exact .now
  |some a=>
   obtain⟨b,hb,e⟩:=aB.mp hr
   cases b with
   |false=>exact(W.looks_takesIn X hb).andThen .now
   |true=>cases e
 rw[W.osa_eq,refuse_eq];refine zay (zay (I.type.here (zay (hmr.here ?_))));rw[refuseLoop_ref,jox _ Tl];exact zab (zay (I.type.here (zay ((fU X ha).here (zay (L3.here (h _)))))))
def jw7(e:h.get? x=some (xOb C none vs sl)):InstAt h x (xOb C none vs sl) C none:=⟨e,rfl,rfl,trivial⟩
def jw8(e:h.get? x=some (xOb C (some dx) vs sl))(e2:h.get? dx=some o):InstAt h x (xOb C (some dx) vs sl) C (some o):=⟨e,rfl,rfl,e2⟩
def jNx{vs:Ah}{sl:qg}{Q:Unit->Shared->Prop}(X:K.In s.heap)(h0:s.heap.get? x=some (xOb C none vs sl))(hx:xIn K C=true)(hs:findIn K (.ref C) "__setattr__"=some (some (.builtin "object.__setattr__")))(ht:takerIn K C name=some none)
  (h:∀h':Heap,h'.get? x=some (xOb C (some s.heap.objs.size) vs sl)->h'.Ns1 s.heap.objs.size (λy=>if y=name then some v else none)->(∀b ob,b≠x->s.heap.get? b=some ob->h'.get? b=some ob)->Q () { s with heap:=h',toks:=s.toks+2 }):
  wpAny (model prog w) A (setAttr (.ref x) name v) Q E s:=by
 have I:=jw7 h0;refine W.set_plain X I hs (jQ1 X I hx ht λb=>?_);obtain⟨bm,N,nm,q,bs,sn,sub',ab,col,dd,k0,k1,k2,k3,k5,cd,hC,Tl,hk,hm,hd,hN⟩:=x_at X hx;have hxs:=zcw (zbv h0);have h1:(s.heap.push { cls:=.type "dict",data:=.dict #[]}).get? x=some _:=zaz _ h0;refine zay (zab (zay (zay (fR h0 (zay (Looks.here (W.looks_clsIn X hk) ?_))))));rw[hd];refine zay (wpAny_alloc (zay (wpAny_update h1 (zab ?_))));have g1:((s.heap.push { cls:=.type "dict",data:=.dict #[]}).update x λo=>{ cls:=o.cls,dict:=some s.heap.objs.size,data:=o.data,slots:=o.slots }).get? s.heap.objs.size=some { cls:=.type "dict",data:=.dict #[]}:=by rw[Heap.get?_update_ne _ _ _ _ hxs.symm];exact zbz _ rfl
 refine zay (zab (zay (wpAny_nsSet1 (Heap.Ns1.of_empty (⟨_,#[],_,g1,rfl,(λe he=>absurd he (by simp)),λz=>rfl⟩)) λh' hn' hsb=>?_)));obtain⟨oD,esD,epD,hoD,hdD,hcD⟩:=hn'.count (PySem.Within.cons _ v PySem.Within.nil);refine zay (wpAny_lookBehind hoD (by rw[hdD];exact pastItsLine_dict (zdz hcD (by simp_all))) ?_);refine zab (h h' ?_ hn' λb ob nb hb=>((hsb.2 b (zcw (zbv hb))).trans ((Heap.get?_update_ne _ _ _ _ nb).trans (zaz _ hb))))
 .refine (hsb.2 x hxs).trans (bM _ h1 rfl)
end
end L2
namespace L2
open PyProof.Rows Builtin Builtin.ObjectAttr
open PySem.W (Frag InstAt Looks findIn mroIn clsIn findObj takerIn specialIn takesIn hasDictIn isFn)
section
variable {s:Shared}{K:Frag}
def jyh:builtinKind "BaseException.__getattribute__"=some .slot:=by rfl
def jwe:splitId "BaseException.__getattribute__"=some ("BaseException","__getattribute__"):=by rfl
def x_ga{R:Result->Shared->Prop}{tk:Tok}(X:K.In s.heap)(I:InstAt s.heap x ox C od)(hx:xIn K C=true)
  (h:wpAny (model prog w) A.in1 (Builtin.«object.__getattribute__» ⟨[.ref x,.str name tk],[]⟩) (λfin s'=>match fin with|.done f=>R (.ok f) s'|.again c'=>c'.quiet=true/\codeAny (model prog w) A c' R s') (λe s'=>R (.error e) s') s):
  codeAny (model prog w) A (.call (.builtin "BaseException.__getattribute__") ⟨[.ref x,.str name tk],[]⟩) R s:=fT PySem.F.excAttr_ValueError.ga.plain PySem.F.entry_bexc_ga (@W.check_slot _ _ _ s _ _ _ _ _ [] _ jyh jwe (I.type.andThen (W.looks_mroIn X (jHm X hx rfl))) (PySem.F.args_bexc_ga _ _) h)
def x_by{fill expr:Bool}(X:K.In s.heap)(I:InstAt s.heap x ox C od)(hx:xIn K C=true)(hga:findIn K (.ref C) "__getattribute__"=some (some (.builtin "BaseException.__getattribute__")))(hgh:findIn K (.ref C) "__getattr__"=some none)
  (h:wpAny (model prog w) A.in1 (Builtin.«object.__getattribute__» ⟨[.ref x,.str name tk],[]⟩) (λfin s'=>match fin with|.done (.ret v)=>wpAny (model prog w) A (handedOut v) Q E s'|_=>False) (λy y=>False) s):
  wpAny (model prog w) A (getAttrBy (.ref x) (.str name tk) fill expr) Q E s:=by
 refine cA (zay ((I.type).here (zay ((fU X hga).here ?_))));refine zay ((W.looks_hook (mc:=.ref C) X hgh).here (zay (wpAny_attempt (cA ?_))));have e0:callGetattribute (.ref x) (.str name tk) (.builtin "BaseException.__getattribute__") expr=boundAndCalled (.builtin "BaseException.__getattribute__") (.ref x) (.str name tk):=by cases expr<;>rfl
 rw[e0];refine zay (zab (dZ (x_ga X I hx (fB h (λfin s' z=>?_) λy y z=>z.elim))));grind
def jCb(X:K.In s.heap)(I:InstAt s.heap x ox C od)(hf:findObj K C od name=some r)
  (h:wpAny (model prog w) A (match r with|.value v=>ret v|.bind g a=>bindTo g a (.ref x) (.ref C)|.missing=>unsupported "no") Q E s) (hr:r≠.missing):
  wpAny (model prog w) A (Builtin.«object.__getattribute__» ⟨[.ref x,.str name tk],[]⟩) Q E s:=by
 refine zay (zab (zay (zab (zay ((I.type).here (zay ((W.looks_find X I hf).here ?_)))))));grind
def jNv(X:K.In h)(hx:xIn K C=true):hasDictIn K C=true:=by
 obtain⟨bm,N,nm,q,bs,sn,sub',ab,col,dd,k0,k1,k2,k3,k5,cd,hC,Tl,hk,hm,hd,hN⟩:=x_at X hx;unfold hasDictIn;simp_all
def jQ0{vs:Ah}{sl:qg}{dx:Addr}{mA:qc}{expr:Bool}{Q:qe}(X:K.In s.heap)(h0:s.heap.get? x=some (xOb C (some dx) vs sl))(hn:s.heap.Ns1 dx mA)(hx:xIn K C=true)
  (hga:findIn K (.ref C) "__getattribute__"=some (some (.builtin "BaseException.__getattribute__"))) (hgh:findIn K (.ref C) "__getattr__"=some none) (ha:findIn K (.ref C) name=some none) (hv:mA name=some v) (hh:W.handedIn v=true)
  (h:Q v { s with toks:=s.toks+1 }):wpAny (model prog w) A (getAttr (.ref x) name expr) Q E s:=by obtain⟨o,ho,hl⟩:=jm3 hn;have I:=jw8 h0 ho;refine zay (wpAny_mkText (x_by X I hx hga hgh (jCb X I (W.findObj_own (jNv X hx) ha rfl (by rw[hl,hv])) (zab (W.handed_on hh h)) (λz=>nomatch z))))
def jHj{Q:Al->Shared->Prop}(X:K.In s.heap)(I:InstAt s.heap x ox C od)(hx:xIn K C=true)(hga:findIn K (.ref C) "__getattribute__"=some (some (.builtin "BaseException.__getattribute__")))(hgh:findIn K (.ref C) "__getattr__"=some none)
  (ha:findIn K (.ref C) "__class__"=some (some (.builtin "object.__class__"))) (hn:specialIn K (.builtin "object.__class__") "__get__"=some (some (.builtin "getset_descriptor.__get__"))) (htk:takesIn K (.builtin "object.__class__")=some true)
  (h:Q (some (.ref C)) { s with toks:=s.toks+1 }):wpAny (model prog w) A (getAttr? (.ref x) "__class__") Q E s:=by
 obtain⟨bm,N,nm,q,bs,sn,sub',ab,col,dd,k0,k1,k2,k3,k5,cd,hC,Tl,hk,hm,hd,hN⟩:=x_at X hx;have hf:findObj K C od "__class__"=some (.bind (.builtin "getset_descriptor.__get__") (.builtin "object.__class__")):=by unfold W.findObj;rw[hk,aW,ha,aW];rfl
 refine zay (wpAny_mkText (zay (wpAny_attempt (x_by X I hx hga hgh (jCb X I hf (?_) (λz=>nomatch z))))));refine zay (cA (dZ (W.class_get X I (jHm X hx rfl) (zab (W.handed_on rfl (zab h))))))
def jJm(hx:xIn K C=true)(hga:findIn K (.ref C) "__getattribute__"=some (some (.builtin "BaseException.__getattribute__")))(hgh:findIn K (.ref C) "__getattr__"=some none)
  (ha:findIn K (.ref C) "__class__"=some (some (.builtin "object.__class__"))) (hn:specialIn K (.builtin "object.__class__") "__get__"=some (some (.builtin "getset_descriptor.__get__"))) (htk:takesIn K (.builtin "object.__class__")=some true):
  W.KitX K (.ref x) (.ref C) (λh=>∃ox od,InstAt h x ox C od) where
 ty:=λ_ _ _ ⟨_,_,I⟩=>I.type
 it:=λy y X y=>by obtain⟨bm,N,nm,q,bs,sn,sub',ab,col,dd,k0,k1,k2,k3,k5,cd,hC,Tl,hk,hm,hd,hN⟩:=x_at X hx;intro A' Q' E' s' k z;exact zay (fR (k _ _ hC) (zab z))
 ne:=λh tp dd its n sl X htp=>by
  obtain⟨bm,N,nm,q,bs,sn,sub',ab,col,dd',k0,k1,k2,k3,k5,cd,hC,Tl,hk,hm,hd,hN⟩:=x_at X hx;refine Bool.eq_false_iff.mpr λq=>?_
  rw[<- Value.ref.inj (bB.mp q),hC]at htp;exact absurd (Value.type.inj (congrArg Obj.cls (zby htp))) nofun
 ca:=λX ⟨_,_,I⟩ z=>jHj X I hx hga hgh ha hn htk z
end
end L2
namespace L2
open PyProof.Rows
open PySem.W (Frag InstAt Looks findIn mroIn clsIn findObj takerIn specialIn takesIn hasDictIn isFn)
structure XCls(K:Frag)(C:Addr):Prop where
 x:xIn K C=true
 sa:findIn K (.ref C) "__setattr__"=some (some (.builtin "object.__setattr__"))
 ga:findIn K (.ref C) "__getattribute__"=some (some (.builtin "BaseException.__getattribute__"))
 gh:findIn K (.ref C) "__getattr__"=some none
 cl:findIn K (.ref C) "__class__"=some (some (.builtin "object.__class__"))
 kp:W.keepIn K (.ref C)=true
def xCls(K:Frag)(C:Addr):Bool:=xIn K C&&findIn K (.ref C) "__setattr__" == some (some (.builtin "object.__setattr__"))&&findIn K (.ref C) "__getattribute__" == some (some (.builtin "BaseException.__getattribute__"))&&findIn K (.ref C) "__getattr__" == some none&&findIn K (.ref C) "__class__" == some (some (.builtin "object.__class__"))&&W.keepIn K (.ref C)
def jHo{K:Frag}(h:xCls K C=true):XCls K C:=by unfold xCls at h;simp only[aC,bB]at h;obtain⟨⟨⟨⟨⟨h1,h2⟩,h3⟩,h4⟩,h5⟩,h6⟩:=h;exact⟨h1,h2,h3,h4,h5,h6⟩
section
variable {X:Cx}
def jn2{P:Program}{w:World}{φ:Heap->Prop}{h:Heap}(e:φ h)(o:∃ob,h.get? a=some ob)(k:∀h1 h2:Heap,φ h1->(∀ob,h1.get? a=some ob->h2.get? a=some ob)->φ h2):ObjOk P w H h a (.ext φ):=⟨e,o,k⟩
theorem jnr(e:h.get? a=some (xOb C od vs sl))(ef:fr=true->vs[1]?=some .none):ObjOk P w H h a (XO a C od fr):=jn2 ⟨vs,sl,e,ef⟩ ⟨_,e⟩ λ_ _ ⟨vs,sl,e,ef⟩ k=>⟨vs,sl,k _ e,ef⟩
theorem jNz(e:XDv a fs h):ObjOk P w H h a (XDc a fs):=by
 refine jn2 e ?_ ?_
 .obtain⟨mA,⟨o,_,_,q,_⟩,_⟩:=e
  simp_all
 .rintro h1 h2 ⟨mA,n,r,w',l⟩ k;exact⟨mA,n.at k,r,w',l⟩
def jsj(I:Inv X U Z H s)(e:H a=some (XO a C od fr)):∃vs sl,s.heap.get? a=some (xOb C od vs sl)/\(fr=true->vs[1]?=some .none):=(I.hok a _ e).1
def jNy(I:Inv X U Z H s)(e:H dx=some (XDc dx fs)):XDv dx fs s.heap:=(I.hok dx _ e).1
def Inv.laidX(I:Inv X U Z H s)(k:∀b u,s.heap.get? b=some u->h'.get? b=some u)(hD:s.heap.get? a=none)(new:ObjOk X.prog X.w (upd H a o) h' a o):Inv X U Z (upd H a o) { s with heap:=h',toks:=t' }:=by
 have hn:H a=none:=by
  cases e:H a with
  |none=>rfl
  |some u=>obtain⟨o,q⟩:=(I.hok a u e).here;grind
 have nD':∀b u,H b=some u->b≠a:=λb u e z=>by simp_all
 refine I.un ⟨λb u q y y y=>k b u q,λb u q y y y=>⟨_,k b u q⟩,λb u q n y=>by rw[jae ((λb o e z=>by simp_all) b u q)];exact n,λb u q y=>⟨u,k b u q⟩,λb xs q=>by rw[jae (nD' b _ q)];exact q,λb u xs q=>by rw[jae (nD' b _ q)];exact q,λb ps q=>⟨#[],by rw[jae (nD' b _ q),q];rfl⟩⟩ λb u e=>?_
 by_cases z:b=a
 .subst z;rw[jad]at e
  simp_all
 .rw[jae z]at e;exact(I.hok b u e).stay (λc v y q=>k c v q) (λc q=>by rw[jae (nD' c _ q)];exact q) λc xs q=>by rw[jae (nD' c _ q)];exact q
def jii{h:Heap}{b:Addr}(I:Inv X U Z H s)(hD:s.heap.get? b=none):H b=none:=by
 cases e:H b with
 |none=>rfl
 |some u=>obtain⟨o,q⟩:=(I.hok b u e).here;grind
def jAs{y:V}{u:Value}{fr:Bool}{Q:Unit->Shared->Prop}(I:Inv X U Z H s)(e:H a=some (XO a C none fr))(c:XCls X.K C)(ht:takerIn X.K C f=some none)(ry:RelV y u)
  (h:∀d s',H d=none->Inv X U Z (upd (upd H d (XDc d [(f,y)])) a (XO a C (some d) fr)) s'->Q () s'):wpAny (model X.prog X.w) A (setAttr (.ref a) f u) Q E s:=by
 obtain⟨vs,sl,h0,hf0⟩:=jsj I e;refine jNx I.kIn h0 c.x c.sa ht λh' e1 n1 k1=>?_
 have hD:s.heap.get? _=none:=bW (zac _);have hn:=jii (h:=s.heap) I hD;have nd:XDv s.heap.objs.size [(f,y)] h':=by
  refine⟨_,n1,λg=>?_,λg hg=>?_,Nat.le_of_ble_eq_true rfl⟩
  .by_cases q:g=f
   .subst q;rw[aD rfl,aZ,fP];exact ry
   .rw[aJ q,aZ,show(g==f)=false by simpa using q];exact True.intro
  .grind
 refine h _ _ hn ?_;have nD':∀b u,H b=some u->b≠s.heap.objs.size:=λb u q z=>by grind
 have na:∀b,H b=none->b≠a:=λb q z=>by rw[z,e]at q;cases q
 have nx:∀b u,H b=some u->(∀φ,u≠.ext φ)->b≠a:=λb u q hu z=>by rw[z,e]at q;cases q;exact hu _ rfl
 refine I.un ⟨λb u q n t t=>k1 b u (na b n) q,λb u q n t t=>⟨_,k1 b u (na b n) q⟩,λb u q n t=>by rw[jae (na b n),jae ((λb o q z=>by grind) b u q)];exact n,λb u q t=>?_,λb xs q=>by rw[jae (nx b _ q λt z=>nomatch z),jae (nD' b _ q)];exact q,
  λb u xs q=>by rw[jae (nx b _ q λt z=>nomatch z),jae (nD' b _ q)];exact q,λb ps q=>⟨#[],by rw[jae (nx b _ q λt z=>nomatch z),jae (nD' b _ q),q];simp⟩⟩ λb w eb=>?_
 .grind
 .by_cases z:b=a
  .grind[jad,jnr]
  .rw[jae z]at eb
   by_cases z2:b=s.heap.objs.size
   .grind[jad,jNz]
   .rw[jae z2]at eb;refine(I.hok b w eb).stay (λc v hc q=>k1 c v ?_ q) (λc q=>by rw[jae (nx c _ q λt z=>nomatch z),jae (nD' c _ q)];exact q) λc xs q=>by rw[jae (nx c _ q λt z=>nomatch z),jae (nD' c _ q)];exact q
    grind
def jHp(I:Inv X U Z H s)(e:H a=some (XO a C (some dx) fr))(ed:H dx=some (XDc dx fs))(c:XCls X.K C)(ht:findIn X.K (.ref C) f=some none)(l:fs.lookup f=some v)
  (h:∀u s',Inv X U Z H s'->RelV v u->Q u s'):wpAny (model X.prog X.w) A (getAttr (.ref a) f ex) Q E s:=by obtain⟨vs,sl,h0,hf0⟩:=jsj I e;obtain⟨mA,n,r,wi,_⟩:=jNy I ed;obtain⟨u,hu,ru⟩:=RelO.some_of (by rw[<- l];exact r f);exact jQ0 I.kIn h0 n c.x c.ga c.gh ht hu (jmu ru) (h u _ (I.tok _) ru)
def jum(m:Heap.MadeExcOf h h' a (.ref C) us):∃vs sl,h'.get? a=some (xOb C none vs sl)/\vs[1]?=some .none:=by
 obtain⟨_,_,t,e,_⟩:=m;simp_all
end
structure XMk(K:Frag)(C f:Addr):Prop where
 c:XCls K C
 init:findIn K (.ref C) "__init__"=some (some (.ref f))
 fn:isFn K (.ref f)=true
section
variable {X:Cx}
def jvx{U:qd}{Z:St}{H:Hp}{s:Shared}{Q:VK}{us:Ac}{vs:List V}(M:XMk X.K C f)(F:Ap X CX k f fd ps sp)(hr:Room (k+1) X.A)(hb:Binds X.K fd ps [])
  (hx:jgt CX X E) (I:Inv X U Z H s) (r:Vals vs us) (hz:vs.length<=1000)
  (h:∀a,H a=none->sp (.ref a::vs) (upd H a (XO a C none true)) (λv H2=>v=.non/\Q (.ref a) H2) E):
  Am X (call (.ref C) us) (EP X U Z Q) X.xe s:=by
 refine jNw I.kIn M.c.x M.init M.fn (λh' a m=>?_) (by rw[<- r.length,bG];lia);have hq:=h a (jii (h:=s.heap) I m.new);obtain⟨w1,w2,w3,w4⟩:=jum m;have I2:Inv X _ Z (upd H a (XO a C _ true)) _:=I.laidX (t':=s.toks) m.keeps m.new (jnr w3 λz=>w4);have r2:Vals (V.ref a::vs) _:=.cons rfl r;have hl:(Value.ref a::us++[]).length=ps.length:=by rw[aO];have e:=r2.length;rw[F.len _ _ _ _ hq]at e;exact e.symm
 refine dZ (dD (F.run _ _ _ _ _ _ _ _ E (hr.make C us []) (I2.env0.make C us []) (hb _ _ I2.kIn hl) (by simp_all) hq) λr s' hq'=>?_)
 cases r with
|error e=>exact hx _ Z _ _ e s' I2 hq'
|ok fl=>
  cases fl with
  |ret u=>obtain⟨v,H',I3,rv,ev,q3⟩:=I2.after hq';subst ev;exact⟨rv,⟨V.ref a,H',I3,rfl,q3⟩⟩
  |next=>exact False.elim hq'
  |brk=>exact False.elim hq'
  |cont=>exact False.elim hq'
def jNg(C:Addr)(sp:Sp)(E:XK)(t:TA):TE:=λZ H Q=>t Z H λvs H1=>vs.length<=1000/\∀a,H1 a=none->sp (.ref a::vs) (upd H1 a (XO a C none true)) (λv H2=>v=.non/\Q (.ref a) H2) E
def jy4(M:XMk X.K C f)(F:Ap X CX k f fd ps sp)(hr:Room (k+1) X.A)(hg:Gl X x)(hm:X.mg x=some (.ref C))(hb:Binds X.K fd ps [])(hx:jgt CX X E)
  (ha:PA X (e::es) t) (hdb:autoParam (Aq x) zau0._auto_1) (he:autoParam (zsE e es X.env) zau1._auto_1) (hpl:autoParam (zbT pos es X.env) zau1._auto_1):
  PE X (.Call (.Name x p) (e::es) [] pos) (jNg C sp E t):=λU s Z H Q I h=>cD (jge I hg hm (fF I.ok.mod.kin M.c.kp (thn (ha pos _ s Z H _ I h) λus s1 ⟨vs,H1,I1,r,hz,q⟩=>⟨I1.kIn,jvx M F hr hb hx I1 r hz q⟩) he hpl) hdb)
def jE8(c:XCls X.K C)(hi:xNoI X.K C=true)(hg:Gl X x)(hm:X.mg x=some (.ref C))(hdb:autoParam (Aq x) zau0._auto_1):
  PE X (.Call (.Name x p) [] [] pos) (λZ H Q=>∀a,H a=none->Q (.ref a) (upd H a (XO a C none true))):=by intro U s Z H Q I h;refine cD (jge I hg hm (W.callWith_K0 I.kIn c.kp (jHl I.kIn c.x hi (λh' a m=>?_) (aY _))) hdb);obtain⟨w1,w2,w3,w4⟩:=jum m;exact⟨.ref a,_,I.laidX m.keeps m.new (jnr w3 λz=>w4),rfl,h a (jii (h:=s.heap) I m.new)⟩
inductive tXFld(K:Frag)(ta:TE)(g:Str)(Z:St)(H:Hp)(Q:VK):Prop
|mk (h:ta Z H λx H1=>∃a C dx fr fs v,x=.ref a/\H1 a=some (XO a C (some dx) fr)/\H1 dx=some (XDc dx fs)/\XCls K C/\findIn K (.ref C) g=some none/\fs.lookup g=some v/\Q v H1)
def jE7(he:PE X e ta)(hb:attributeBase e g X.env (eval e X.env)=eval e X.env):PE X (.Attribute e g pos) (tXFld X.K ta g):=by intro U s Z H Q I h;refine jsr hb (thn (he _ s Z H _ I h.1) λu s1 hzz=>?_);obtain⟨x,H1,I1,rx,a,C,dx,fr,fs,v,ex,ea,ed,c,n,l,q⟩:=hzz;subst ex;cases rx;exact jHp I1 ea ed c n l λu' s2 I2 ru=>⟨v,H1,I2,ru,q⟩
inductive XPut(K:Frag)(H:Hp)(a:Addr)(g:Str)(y:V)(Q:Hp->Prop):Prop
| first (C:Addr) (fr:Bool) (ea:H a=some (XO a C none fr)) (c:XCls K C) (ht:takerIn K C g=some none) (q:∀d,H d=none->Q (upd (upd H d (XDc d [(g,y)])) a (XO a C (some d) fr)))
def jFj(ha:PE X o ta)(hv:PE X value tv)(hs:swapsWith value (some (.Attribute o g pos')) pos.line X.env=pure false):
  PS X (.Assign [.Attribute o g pos'] value pos) (λD Z H=>tv Z H λy H1=>ta Z H1 λx H2=>∃a,x=.ref a/\XPut X.K H2 a g y (D.nx Z)):=by
 intro U s Z H D I h;refine gn (thn (hv _ s Z H _ I h) λu s1 ⟨y,H1,I1,ry,q⟩=>thn (ha _ s1 Z H1 _ I1 q) λov s2 hzz=>?_) hs;obtain⟨x,H2,I2,rx,a,ex,q2⟩:=hzz;subst ex;cases rx
 cases q2 with
|first C fr ea c ht q=>exact jAs I2 ea c ht ry λd s3 hd I3=>⟨Z,_,I3,q d hd⟩
def jsy(hn:specialIn X.K (.builtin "object.__class__") "__get__"=some (some (.builtin "getset_descriptor.__get__")))(htk:takesIn X.K (.builtin "object.__class__")=some true):
  CallR X (.builtin "isinstance") (λxs H Q=>∃a C od fr v c b,xs=[.ref a,v]/\H a=some (XO a C od fr)/\XCls X.K C/\(∀dx,od=some dx->∃fs,H dx=some (XDc dx fs))/\(∀u,RelV v u->u=c)/\W.kitOne X.K (.ref C) c=some b/\Q (.bl b) H):=by
 intro U s Z H xs us Q I r h;obtain⟨a,C,od,fr,v,c,b,rfl,ea,cl,hd,hv,hk,q⟩:=h;obtain⟨u,c',rfl,ru,rc⟩:=r.two;cases ru;rw[hv c' rc];obtain⟨vs,sl,h0,hf0⟩:=jsj I ea;have Jq:∃ox od',InstAt s.heap a ox C od':=by
  cases od with
  |none=>exact⟨_,_,jw7 h0⟩
  |some dx=>obtain⟨fs,ed⟩:=hd dx rfl;obtain⟨mA,⟨o,_,_,e,_⟩,_⟩:=jNy I ed;exact⟨_,_,jw8 h0 e⟩
 exact W.kia_one (jJm cl.x cl.ga cl.gh cl.cl hn htk) I.kIn Jq hk (λz=>nomatch z) λtk=>⟨.bl b,H,I.tok _,rfl,q⟩
end
end L2
namespace DL
open L2
structure ErrT(K:Af)(mg:qc)(cs fs:Ab)(b:Str):Prop where
 ats:∀c∈cs,∃C,mg c=some (.ref C)
 atb:∃C,mg b=some (.ref C)
 cls:∀c∈cs,∀C,mg c=some (.ref C)->XCls K C
 fld:∀c∈cs,∀C,mg c=some (.ref C)->∀f∈fs,W.findIn K (.ref C) f=some none
 pair:∀c∈cs,∀d∈cs,∀C,mg c=some (.ref C)->∃D,mg d=some (.ref D)/\W.kitOne K (.ref C) (.ref D)=some (c==d)
 base:∀c∈cs,∀C,mg c=some (.ref C)->∃D,mg b=some (.ref D)/\W.kitOne K (.ref C) (.ref D)=some true
 val:∀c∈cs,∀C,mg c=some (.ref C)->W.kitOne K (.ref C) (.type "ValueError")=some true
 sp:W.specialIn K (.builtin "object.__class__") "__get__"=some (some (.builtin "getset_descriptor.__get__"))
 tk:W.takesIn K (.builtin "object.__class__")=some true
def xOne(K:Af)(es:List (Str×Addr))(B:Addr)(fs:Ab)(p:Str×Addr):Bool:=
 xCls K p.2&&fs.all (λf=>W.findIn K (.ref p.2) f==some none)&&W.kitOne K (.ref p.2) (.ref B)==some true&&W.kitOne K (.ref p.2) (.type "ValueError")==some true&&es.all λq=>W.kitOne K (.ref p.2) (.ref q.2)==some (p.1==q.1)
def xTab(K:Af)(es:List (Str×Addr))(B:Addr)(fs:Ab):Bool:=
 es.all (xOne K es B fs)&&W.specialIn K (.builtin "object.__class__") "__get__" == some (some (.builtin "getset_descriptor.__get__"))&&W.takesIn K (.builtin "object.__class__")==some true
def errT_mk{K:Af}{mg:qc}{es:List (Str×Addr)}{B:Addr}{fs:Ab}{b:Str}(hm:∀p∈es,mg p.1=some (.ref p.2))(hb:mg b=some (.ref B))(h:xTab K es B fs=true):ErrT K mg (es.map (·.1)) fs b:=by
 unfold xTab at h;rw[aC,aC,aQ,bB,bB]at h;obtain⟨⟨h1,h2⟩,h3⟩:=h;have one:∀c∈es.map (·.1),∀C,mg c=some (.ref C)->xOne K es B fs (c,C)=true:=λc hc C hC=>by obtain⟨p,hp,rfl⟩:=zcv.mp hc;rw[hm p hp]at hC;cases hC;exact h1 p hp
 have all:=λc hc C hC=>by have:=one c hc C hC;unfold xOne at this;rw[aC,aC,aC,aC,bB,bB]at this;exact this
 refine⟨λc hc=>by obtain⟨p,hp,rfl⟩:=zcv.mp hc;exact⟨_,hm p hp⟩,⟨B,hb⟩,λc hc C hC=>jHo (all c hc C hC).1.1.1.1,λc hc C hC f hf=>(bB.mp (aQ.mp (all c hc C hC).1.1.1.2 f hf)),λc hc d hd C hC=>?_,λc hc C hC=>⟨B,hb,(all c hc C hC).1.1.2⟩,λc hc C hC=>(all c hc C hC).1.2,h2,h3⟩
 .obtain⟨q,hq,rfl⟩:=zcv.mp hd;exact⟨q.2,hm q hq,bB.mp (aQ.mp (all c hc C hC).2 q hq)⟩
structure IniXAt(K:Af)(mg:qc)(c q:Str)(st:Stmt)(ps:Ab):Prop where
 ex:∃C f fd,mg c=some (.ref C)/\XMk K C f/\Fun K "__init__" q st f fd/\Binds K fd ps []
section
variable {c:Str}
inductive NewAt(K:Af)(mg:qc)(c:Str):Prop
| mk (C:Addr) (h1:mg c=some (.ref C)) (h2:XCls K C) (h3:xNoI K C=true)
end
open PyProof.Rows L2
def taker_of{K:Af}(h:W.findIn K (.ref C) f=some none):W.takerIn K C f=some none:=by grind[W.takerIn]
end DL
namespace L2
open PyProof.Rows
open PySem.W (Frag InstAt Looks findIn mroIn clsIn)
section
variable {K:Frag}
def jHn{x:Sem Value}{Q:Flow->Shared->Prop}(hh:A.handled=none)
  (h:wpAny M A x (λv s₁=>∃e C od vs sl,v=.ref e/\K.In s₁.heap/\xIn K C=true/\s₁.heap.get? e=some (xOb C od vs sl)/\vs[1]?=some .none/\E (.ref e) s₁) E s):
  wpAny M A (raiseStmt env (some x) none) Q E s:=by
 refine zay (thn h λv s₁ hzz=>?_);obtain⟨e,C,od,vs,sl,ev,X,hx,he,h1,hE⟩:=hzz;subst ev;obtain⟨bm,N,nm,q,bs,sn,sub,ab,col,dd,k0,k1,k2,k3,k5,cd,hC,T,hk,hm,hd,hN⟩:=x_at X hx;have hcB:(Value.ref C::bm).contains (.type "BaseException")=true:=by rw[List.contains_cons,T.hasType (show bmV.contains _=true by decide),Bool.or_true]
 repeat (first|with_reducible refine dW he ?_|with_reducible refine dW hC ?_|(with_reducible refine wpAny_isSubtype_exc hC ?_;rw[hcB])|wp_step)
 rw[h1];exact zab (zab (wpAny_raiseNew_none hh hE))
noncomputable abbrev frL(l:Aj):Ak:=l.filterMap (·.frame)
inductive TbAt(h:Heap)(vs:Ah):Prop
| no (h1:vs[1]?=some .none)
| yes (T:Addr) (oT:Obj) (ts:Ah) (h1:vs[1]?=some (.ref T)) (h2:h.get? T=some oT) (h3:oT.data=.fields ts) (h4:ts[3]?=some .none)
inductive Note(l:Aj)(e C:Addr)(od:Ag)(vs:Ah)(sl:qg)(h h':Heap):Prop
| mk (vs':Ah) (T:Addr) (oT:Obj) (ts:Ah) (h1:h'.get? e=some (xOb C od vs' sl)) (h2:vs'[1]?=some (.ref T)) (h3:h.get? T=none) (h4:h'.get? T=some oT) (h5:oT.data=.fields ts) (h6:ts[3]?=some .none)
   (h7:∀b o,h.get? b=some o->b∉frL l->b≠e->vs[1]?≠some (.ref b)->h'.get? b=some o) (h8:∀b o,h.get? b=some o->b∈frL l->∃sl',h'.get? b=some { o with slots:=sl' }) (h9:∀T,vs[1]?=some (.ref T)->∃oT ts,h'.get? T=some oT/\oT.data=.fields ts/\ts[3]?=some .none)
def jw6{base:Heap}{env:Env}{outer:Aj}{L e:Addr}{od:Ag}{vs:Ah}{sl:qg}{head:Value}{hadNext:Bool}{Q:Unit->Shared->Prop}
  (hfr:A.frames=some (env::outer)) (hl:s.heap.FunFrames base (env::outer)) (hf:env.frame=some L) (he:s.heap.get? e=some (xOb C od vs sl)) (hsz:1<vs.size)
  (h:∀h' vs' T oT ts,h'.get? e=some (xOb C od vs' sl)->vs'[1]?=some (.ref T)->s.heap.get? T=none->h'.get? T=some oT->oT.data=.fields ts->ts[3]?=some .none->(∀b o,s.heap.get? b=some o->b∉frL (env::outer)->b≠e->h'.get? b=some o) ->
   (∀b o,s.heap.get? b=some o->b∈frL (env::outer)->∃sl',h'.get? b=some { o with slots:=sl' })->Q () { s with heap:=h' }):
  wpAny M A (do let a <- frameOf env;let pl <- entryPlaceOf L hadNext;let b <- EntryCells.newEntry head a .none (rawInt L) .none pl;setField (.ref e) 1 b) (λy s'=>wpAny M A (setFlight (.ref e) none) Q E s') E s:=by
 have nfe:∀b,b∈frL _->b≠e:=λb hb z=>by
  obtain⟨_,o,ho,hnf⟩:=hl.mem hb;grind
 refine zay (wpAny_frameOf_fun hfr hl hf λg hs=>zay (wpAny_entryPlaceOf λpl hpl=>?_));refine zay (dU ?_ (hpl.sizeOk5 _ _ _ _ _));have e1:=(hs.2.1 e λhb=>nfe e hb rfl).trans he;generalize hob:({ cls:=.type _,dict:=none,data:=.fields _ }:Obj)=ob;have hdat:ob.data=.fields ([head,.ref L,.none,rawInt L,.none]++(if pl.isEmpty then List.replicate 6 Value.none else pl)).toArray:=by rw[<- hob]
 have hsz3:3<([head,.ref L,.none,rawInt L,.none]++(if pl.isEmpty then List.replicate 6 Value.none else pl)).toArray.size:=by
  rw[zbx,zcb];show 3<5+_;lia
 have e2:=zaz ob e1;refine dR e2 rfl hsz ?_;have ne:=cQ (zbv e1);have e3:((g.push ob).update e (Obj.mapFields (·.setIfInBounds 1 (Value.ref g.objs.size)))).get? e=some _:=bM _ e2 rfl;have t3:((g.push ob).update e (Obj.mapFields (·.setIfInBounds 1 (Value.ref g.objs.size)))).get? g.objs.size=some ob:=by rw[bL _ _ (cE ne)];exact zbz _ (cH hdat)
 have v1:(vs.setIfInBounds 1 (Value.ref g.objs.size))[1]?=some (.ref g.objs.size):=by simp[hsz]
 refine zay (bP e3 rfl v1 ?_);refine dR t3 hdat hsz3 ?_;have dT:=cT hdat (·.setIfInBounds 3 ((none).elim Value.none λf=>rawInt f));have keep:∀b o,b≠e->g.get? b=some o->(((g.push ob).update e (Obj.mapFields (·.setIfInBounds 1 (Value.ref g.objs.size)))).update _ (Obj.mapFields (·.setIfInBounds 3 ((none).elim Value.none λf=>rawInt f)))).get? b=some o:=λb o hb q=>by rw[bL _ _ (cQ (zbv q)),bL _ _ (cE hb)];exact zaz _ q
 refine h _ _ _ _ _ ?_ v1 (bW (by rw[hs.1];simp)) (bM _ t3 (cH dT)) dT (by rfl) (λb o q hb hbe=>keep b o hbe ((hs.2.1 b hb).trans q)) λb o q hb=>?_
 .rw[bL _ _ ne];exact e3
 .obtain⟨sl',q'⟩:=hs.2.2 b o q;exact⟨sl',keep b _ (nfe b hb) q'⟩
def jHk{base:Heap}{env:Env}{outer:Aj}{L e:Addr}{od:Ag}{vs:Ah}{sl:qg}{Q:Unit->Shared->Prop}
  (hfr:A.frames=some (env::outer)) (hl:s.heap.FunFrames base (env::outer)) (hf:env.frame=some L) (he:s.heap.get? e=some (xOb C od vs sl)) (tb:TbAt s.heap vs) (hne:vs[1]?≠some (.ref e))
  (h:∀h',Note (env::outer) e C od vs sl s.heap h'->Q () { s with heap:=h' }):wpAny M A (noteFrame (.ref e) env) (λy s'=>wpAny M A (setFlight (.ref e) none) Q E s') E s:=by
 unfold noteFrame;simp only[hf]
 cases tb with
|no h1=>refine zay (bP he rfl h1 ?_);refine jw6 hfr hl hf he (bI.mp h1).1 λh' vs' T oT ts a1 a2 a3 a4 a5 a6 a7 a8=>h h' ⟨vs',T,oT,ts,a1,a2,a3,a4,a5,a6,λb o q hb hbe y=>a7 b o q hb hbe,a8,λT z=>by simp_all⟩
|yes T oT ts h1 h2 h3 h4=>
  have hTe:T≠e:=λz=>hne (by rw[h1,z])
  have nT:T∉frL _:=λhb=>by
   obtain⟨_,o,ho,hnf⟩:=hl.mem hb;grind
  refine zay (bP he rfl h1 ?_);refine zay (bP h2 h3 h4 ?_);refine zay (dR h2 h3 (bI.mp h4).1 ?_);have other:∀b,b≠T->(s.heap.update T (Obj.mapFields (·.setIfInBounds 3 Value.none))).get? b=s.heap.get? b:=λb hb=>bL _ _ (cE hb)
  refine jw6 hfr (hl.of_keeps λb o q nf=>⟨o,(other b λz=>nf ts (by grind)).trans q,rfl⟩) hf ((other e (cE hTe)).trans he) (bI.mp h1).1
   λh' vs' T' oT' ts' a1 a2 a3 a4 a5 a6 a7 a8=>h h' ⟨vs',T',oT',ts',a1,a2,?_,a4,a5,a6,λb o q hb hbe hbT=>a7 b o ((other b λz=>hbT (by clear a8 hbT;simp_all)).trans q) hb hbe,λb o q hb=>a8 b o ((other b λz=>nT (by grind)).trans q) hb,λT2 z=>?_⟩
  rotate_left
  .rw[h1]at z;cases z;exact⟨_,_,a7 T _ (bM _ h2 (cH (cT h3 _))) nT hTe,cT h3 _,by clear a8 a7;grind⟩
  by_cases z:T'=T
  .subst z;exact absurd a3 (by rw[bM _ h2 (cH (cT h3 _))];grind)
  simp_all
end
noncomputable def XT(T:Addr):HO:=.ext λh=>∃oT ts,h.get? T=some oT/\oT.data=.fields ts/\ts[3]?=some .none
inductive Fly(H:Hp)(a C:Addr)(od:Ag)(s:Shared):Prop
| mk (e1:H a=some (XO a C od false)) (vs:Ah) (sl:qg) (e2:s.heap.get? a=some (xOb C od vs sl)) (tb:TbAt s.heap vs) (ne:vs[1]?≠some (.ref a)) (tr:∀T,vs[1]?=some (.ref T)->H T=some (XT T))
def jw9(h1:h.get? T=some oT)(h2:oT.data=.fields ts)(h3:ts[3]?=some .none):ObjOk P w H h T (XT T):=
 jn2 ⟨oT,ts,h1,h2,h3⟩ ⟨_,h1⟩ λ_ _ ⟨oT,ts,h1,h2,h3⟩ k=>⟨oT,ts,k _ h1,h2,h3⟩
section
variable {X:Cx}
def jKc{A':Around}{E':qe}{Q:Unit->Shared->Prop}(I:Inv X U Z H s)(F:Fly H a C od s)(hst:X.stack=X.env::X.outer)(hf:X.env.frame=some X.env.locals)(hA:A'.frames=some X.stack)
  (k:∀T h',H T=none->Inv X U Z (upd H T (XT T)) { s with heap:=h' }->Fly (upd H T (XT T)) a C od { s with heap:=h' }->Q () { s with heap:=h' }):
  wpAny (model X.prog X.w) A' (noteFrame (.ref a) X.env) (λy s'=>wpAny (model X.prog X.w) A' (setFlight (.ref a) none) Q E' s') E' s:=by
 obtain⟨e1,vs,sl,e2,tb,ne,tr⟩:=F;refine jHk (by rw[hA,hst]) (by rw[<- hst];exact I.stack) hf e2 tb ne λh' N=>?_
 obtain⟨vs',T,oT,ts,n1,n2,n3,n4,n5,n6,n7,n8,n9⟩:=N;have hT:=jii (h:=s.heap) I n3;have nTb:∀b,H b=none->vs[1]?≠some _:=λb q z=>by rw[tr b z]at q;cases q
 have nT':∀b u,H b=some u->b≠T:=λb u q z=>by rw[z,hT]at q;cases q
 have there:∀b o,s.heap.get? b=some o->∃o',h'.get? b=some o':=λb o q=>by
  by_cases z2:b=a
  .rw[z2];exact⟨_,n1⟩
  .by_cases z3:vs[1]?=some (.ref b)
   .obtain⟨oT,ts,q',_⟩:=n9 b z3;exact⟨oT,q'⟩
   .by_cases z4:b∈frL (X.env::X.outer)
    .obtain⟨sl',q'⟩:=n8 b o q z4;exact⟨_,q'⟩
    .exact⟨o,n7 b o q z4 z2 z3⟩
 have hok:HOk X.prog X.w (upd H T _) h':=λb u e=>by
  by_cases z:b=T
  .subst z;rw[jad]at e;cases e;exact jw9 n4 n5 n6
  .rw[jae z]at e
   by_cases z2:b=a
   .subst z2;rw[e1]at e;cases e;exact jnr n1 λz=>nomatch z
   .by_cases z3:vs[1]?=some (.ref b)
    .rw[tr b z3]at e;cases e;obtain⟨oT,ts,q1,q2,q3⟩:=n9 b z3;exact jw9 q1 q2 q3
    .refine (I.hok b u e).stay (λc v hc q=>?_) (λc q=>by rw[jae (nT' c _ q)];exact q) λc xs q=>by rw[jae (nT' c _ q)];exact q
     have hcn:H c≠none:=by
      rcases hc with r|r
      .rw[r,e];exactλz=>nomatch z
      .rw[r];exactλz=>nomatch z
     refine n7 c v q (λz=>hcn ((λb hb=>I.stkFree b (by rw[hst];exact hb)) c z)) (λz=>?_) λz=>?_
     .rcases hc with r|r
      .exact z2 (r.symm.trans z)
      .rw[z,e1]at r;exact absurd (zby r) (λz=>by cases z)
     .rcases hc with r|r
      .exact z3 (by rw[<- r];exact z)
      .rw[tr c z]at r;exact absurd (zby r) (λz=>by cases z)
 have Jq:=I.call (t':=s.toks) (d':=s.drawn) (ch:=[]) ⟨λb o q n hb y=>n7 b o q (by rw[hst]at hb;exact hb) ((λb q z=>by rw[z,e1]at q;cases q) b n) (nTb b n),λb o q n hb y=>n8 b o q (by rw[hst]at hb;exact hb),
  λb o q n y=>by rw[jae ((λb u q z=>by rw[z,n3]at q;cases q) b o q)];exact n,λb o q y=>there b o q,λb xs q=>by rw[jae (nT' b _ q)];exact q,λb u xs q=>by rw[jae (nT' b _ q)];exact q,λb ps q=>⟨#[],by rw[jae (nT' b _ q),q];rfl⟩⟩ hok I.bare (λb z=>nomatch z)
 refine k T h' hT Jq ⟨by rw[jae (nT' a _ e1)];exact e1,vs',sl,n1,.yes T oT ts n2 n4 n5 n6,λz=>?_,λT2 z=>?_⟩
 .rw[n2]at z;cases z;exact nT' _ _ e1 rfl
 .rw[n2]at z;cases z;exact jad
inductive CXr(P:Program)(w:World)(outer:Aj)(H:Hp)(s:Shared)(E:XK)(e:Value)(s':Shared):Prop
| mk (a C:Addr) (od:Ag) (H1 H':Hp) (h1:e=.ref a) (h2:s'.os=s.os) (h3:AllBare s'.gens) (h4:Un (frs outer) [] H H' s.heap s'.heap) (h5:HOk P w H' s'.heap) (h6:Fly H' a C od s') (h7:∀b o,H1 b=some o->H' b=some o) (h8:E (.ref a) od H1)
def CX1(P:Program)(w:World):CXT:=λouter H s E e s'=>CXr P w outer H s E e s'
inductive Back(X:Cx)(U:qd)(Z:St)(E:XK)(e:Value)(s:Shared):Prop
| mk (a C:Addr) (od:Ag) (H1 H:Hp) (h1:e=.ref a) (I:Inv X U Z H s) (F:Fly H a C od s) (h7:∀b o,H1 b=some o->H b=some o) (h8:E (.ref a) od H1)
def jss(I:Inv X U Z H s)(h:CX1 X.prog X.w X.stack H s E e s'):Back X U Z E e s':=by obtain⟨a,C,od,H1,H',h1,h2,h3,h4,h5,h6,h7,h8⟩:=h;exact⟨a,C,od,H1,H',h1,I.call' h2 h4 h5 h3 (λb z=>nomatch z),h6,h7,h8⟩
def jJr{K:Frag}
  (B:Back (cxOf (CX1 P w) P w K mg base N qual scope f cd A outer s H E) U Z E e s2):(cxOf (CX1 P w) P w K mg base N qual scope f cd A outer s H E).xe e s2:=by obtain⟨a,C,od,H1,H2,rfl,I,F,h7,h8⟩:=B;exact zay (jKc I F rfl rfl I.ok.frames λT h' hT Jq F'=>(⟨a,C,od,H1,_,rfl,Jq.os,Jq.bare,Jq.base,Jq.hok,F',λb o q=>by rw[jae (λz=>by simp_all)];simp_all,h8⟩))
def jza(he:PE X e te)(hc:X.calm=true):PS X (.Raise (some e) none pos) (λD Z H=>te Z H λv H1=>∃a C od,v=.ref a/\H1 a=some (XO a C od true)/\XCls X.K C/\∀U s,Inv X U Z (upd H1 a (XO a C od false)) s->Fly (upd H1 a (XO a C od false)) a C od s->X.xe (.ref a) s):=by intro U s Z H D I h;refine zay (eV (jHn (K:=X.K) (I.ok.hd hc) (zay (thn (he _ s Z H _ I h) λu s1 z=>zay (eV (zab ?_))))));obtain⟨v,H1,I1,rv,a,C,od,ev,ha,cl,k⟩:=z;subst ev;cases rv;obtain⟨vs,sl,h0,hf0⟩:=jsj I1 ha;have h1:=hf0 rfl;exact⟨a,C,od,vs,sl,rfl,I1.kIn,cl.x,h0,h1,(k _ s1 (I1.write (by rw[ha];exact True.intro) (.inl rfl) (λb u y q=>q) ⟨_,h0⟩ (jnr h0 λz=>nomatch z)) ⟨jad,vs,sl,h0,.no h1,λz=>by simp_all,λT z=>by simp_all⟩)⟩
noncomputable abbrev Cx.mk1(X:Cx)(v:Value)(E:qe):Cx:={ X with A:=X.A.mark (some v),calm:=false,xe:=E }
def Inv.mk1(I:Inv X U Z H s)(v:Value)(E:qe):Inv (X.mk1 v E) U Z H s:=
 ⟨⟨I.ok.mod,I.ok.kind,I.ok.glob,I.ok.blt,I.ok.above,I.ok.inj,I.ok.has,I.ok.cab,(λz=>nomatch z),I.ok.frames,I.ok.stk,I.ok.exf,I.ok.bs,I.ok.bsz,I.ok.noex,I.ok.exfs,I.ok.funs,I.ok.frf⟩,I.os,I.bare,I.base,I.loc,I.cell,I.free,I.freeC,I.pin,I.hok,I.len⟩
def Inv.un1(I:Inv X U Z H s)(Jq:Inv (X.mk1 v E) U Z' H' s'):Inv X U Z' H' s' :=
 ⟨I.ok,Jq.os,Jq.bare,Jq.base,Jq.loc,Jq.cell,Jq.free,Jq.freeC,Jq.pin,Jq.hok,Jq.len⟩
def jwx{M:Model}{A:Around}{E:qe}{i:Nat}{x:Str}{v:V}{pos:Pos}{Q:Unit->Shared->Prop}(I:Inv X U Z H s)(hN:X.N.Nodup)(hi:X.N[i]?=some x)(hk:X.env.scope.names.lookup x=some .local)(hv:Z[i]?=some (some v))
  (h:∀s',Inv X U (Z.set i none) H s'->Q () s'):wpAny M A (unbindBehindTheSuite X.env x pos) Q E s:=by
 obtain⟨m,hn,hl⟩:=id I.loc;have cne:=I.cne;obtain⟨u,ru,lk⟩:=hl i x v hi hv (.inl hk);have hu:m x=some u:=by
  rcases lk with ⟨_,e⟩|⟨k,_⟩
  .exact e
  .have hk':X.env.kindOf x=some _:=hk
   simp_all
 refine wpAny_onRaise (wpAny_unbindName_local hk hn hu (by rw[I.ok.kind];rfl) λh' u' hn' hs=>?_);have low:∀{b:Addr}{o:Obj},X.s₀.heap.get? b=some o->b≠X.env.locals:=λe=>zcw (zcx (zbv e) I.ok.above)
 refine h _ ⟨I.ok,I.os,I.bare,⟨λb o e n hb hx=>(hs.2 b (low e)).trans (I.base.keep b o e n hb hx),λb o e n hb hx=>?_,I.base.free,λb o e hx=>?_,I.base.tups,I.base.frzs,I.base.tbls⟩,⟨_,hn',λj y v' e1 e2 e3=>?_⟩,λy c e=>?_,I.free,I.freeC,λp hp=>?_,λb ob e=>?_,by simpa using I.len⟩
 .obtain⟨sl,e1⟩:=I.base.slot b o e n hb hx;exact⟨sl,(hs.2 b (low e)).trans e1⟩
 .obtain⟨o',e1⟩:=I.base.there b o e hx;exact⟨o',(hs.2 b (low e)).trans e1⟩
 .have hj:j≠i:=λz=>by clear hl hv;grind
  rw[zbw (cE hj)]at e2;obtain⟨w,r',q⟩:=hl j y v' e1 e2 e3;refine⟨w,r',?_⟩;rcases q with ⟨k,e⟩|⟨k,c,e,z⟩
  .refine .inl ⟨k,?_⟩;have:y≠x:=λe=>hj (jlj hN e1 (e ▸ hi))
   grind
  .exact .inr ⟨k,c,e,z.sameBut hs (cne y c e)⟩
 .obtain⟨w,z⟩:=I.cell y c e;exact⟨w,z.sameBut hs (cne y c e)⟩
 .obtain⟨e,n,ne,nf,d⟩:=I.pin p hp;exact⟨(hs.2 p.1 ne).trans e,n,ne,nf,d⟩
 .refine (I.hok b ob e).stay (λc w hc q=>(hs.2 c ?_).trans q) (λt q=>q) λt t q=>q
  rintro rfl;rcases hc with z|hc
  .rw[<- z,I.free]at e;cases e
  .rw[I.free]at hc;cases hc
def jO1{A':Around}{E':qe}{Q:Unit->Shared->Prop}(I:Inv X U Z H s)(F:Fly H a C od s)(k:∀s',Inv X U Z H s'->Q () s'):wpAny (model X.prog X.w) A' (setFlight (.ref a) none) Q E' s:=by
 obtain⟨e1,vs,sl,e2,tb,ne,tr⟩:=F
 cases tb with
 |no h1=>exact zay (bP e2 rfl h1 (zab (k s I)))
 |yes T oT ts h1 h2 h3 h4=>
  refine zay (bP e2 rfl h1 ?_);have hs:=(bI.mp h4).1;refine dR h2 h3 hs (k _ ?_);have dT:=cT h3 (·.setIfInBounds 3 ((none).elim Value.none λf=>rawInt f));have q:=bM _ h2 (cH dT);have hT:=tr T h1;have Jq:Inv X _ Z _ { s with heap:=s.heap.update T _,toks:=s.toks } :=
   I.write (by rw[hT];exact True.intro) (.inl rfl) (λb u hb z=>(bL _ _ (cE hb)).trans z) ⟨_,q⟩ (jw9 q dT (by simp[hs]))
  have eH:upd H T (XT T)=H:=by
   funext b
   by_cases z:b=T
   .rw[z,jad,hT]
   .rw[jae z]
  simp_all
def jDx{B n y:Str}{Bc:Addr}{j l:Nat}{np hpos py pn ypos:Pos}{Q:Flow->Shared->Prop}{E':qe}(I:Inv X U Z H s)(F:Fly H a C od s)(hex:W.exmOne X.K (.ref C) (.ref Bc)=some true)(hg:Gl X B)(hm:X.mg B=some (.ref Bc))(hdb:Aq B)
  (hN:X.N.Nodup) (hj:X.N[j]?=some n) (hn:X.env.scope.names.lookup n=some .local) (hl:X.N[l]?=some y) (hy:X.env.scope.names.lookup y=some .local) (hjl:j≠l)
  (hnd:Aq n) (hncd:(n==("__classdict__":Str))=false) (hs:swapsWith (.Name n pn) (some (.Name y py)) ypos.line X.env=pure false)
  (k:∀s',Inv X U (((Z.set j (some (.ref a))).set l (some (.ref a))).set j none) H s'->Q .next s'):
  Am X (handleBy (.ref a) X.env [.ExceptHandler (some (.Name B np)) (some n) [.Assign [.Name y py] (.Name n pn) ypos] hpos]) Q E' s:=by
 have e2:∃vs sl,s.heap.get? a=some (xOb C od vs sl):=by obtain⟨_,vs,sl,e2,_⟩:=F;exact⟨vs,sl,e2⟩
 obtain⟨vs,sl,e2⟩:=e2;have jl:j<Z.length:=by rw[I.len];exact(zbb.mp hj).1
 have I':=I.mk1 (.ref a) λw w=>False
 refine wpAny_handleBy_cons (codeAny_handlers_test (jge I' hg hm ?_ hdb)) (by intro q;cases q);refine(W.exm_one I.kIn (λA' Q' E' s' k z=>zay (fR (k _ _ e2) (zab z))) hex).here ?_;refine codeAny_handlers_suite_as (jO1 (X:=X.mk1 _ _) I' F λs1 I1=>?_);refine jfh (X:=X.mk1 _ _) I1 hN hj (.inl hn) (v:=.ref a) rfl (λs2 I2=>?_) (.inr hn);refine fB ((jvk (jBr (X:=X.mk1 _ _) hN hl (.inl hy) (jBp hj (.inl hn) hnd hncd) hs (.inr hy))) _ s2 _ H ⟨λZ' H'=>Z'=(Z.set j _).set l _/\H'=H,λw w=>False,λw w=>False,λw w=>False⟩ I2 ⟨_,(zcz jl),rfl,rfl⟩) (λf s3 q=>?_) λw w z=>z.elim
 cases f with
|brk=>obtain⟨_,_,_,z⟩:=q;exact z.elim
|cont=>obtain⟨_,_,_,z⟩:=q;exact z.elim
|ret u=>obtain⟨_,_,_,_,_,z⟩:=q;exact z.elim
|next=>
  obtain⟨Z3,H3,I3,rfl,rfl⟩:=q;refine zay (wpAny_bindName (jfh (I.un1 I3) hN hj (.inl hn) (v:=.non) rfl (λs4 I4=>?_) (.inr hn)));refine jwx I4 hN hj hn (zcz (by clear k I3 hg;simp_all)) λs5 I5=>k s5 ?_;simp_all
end
def EX(Er:Addr->Addr->Ag->Hp->Prop):XK:=λv od H=>∃a C,v=.ref a/\H a=some (XO a C od false)/\Er a C od H
def jCc(I:Inv X U Z H s)(h:H a=some (XO a C od f))(h':H a=some (XO a C' od' f')):C=C':=by
 obtain⟨vs,sl,e,_⟩:=jsj I h;obtain⟨vs',sl',e',_⟩:=jsj I h';grind
section
variable {X:Cx}
def jLs(F:Ap X CX k f fd ps sp)(hr:Room k X.A)(hb:Binds X.K fd ps [])(hx:∀H1 s1 e s',Inv X U Z H1 s1->CX X.stack H1 s1 E e s'->X.xe e s')
  (I:Inv X U Z H s) (r:Vals vs us) (h:sp vs H Q E):Am X (call (.ref f) us) (EP X U Z Q) X.xe s:=by
 refine dZ (dD (F.run X.A _ s H _ _ vs Q E hr I.env0 (hb s us I.kIn (by rw[aO,<- r.length];exact F.len _ _ _ _ h)) (by simp_all) h) λr s' hq=>?_)
 cases r with
|error e=>exact hx H s e s' I hq
|ok fl=>
  cases fl with
  |ret u=>exact I.after hq
  |next=>exact False.elim hq
  |brk=>exact False.elim hq
  |cont=>exact False.elim hq
end
end L2
namespace DL
open L2
def Wx(X:Cx)(E:XK):Prop:=∀U Z e s,Back X U Z E e s->X.xe e s
end DL
namespace SI
open L2
open DL (Wx)
def jbo(E:XK):Err:=λJ z H x=>∀i a C od,x=.obj i->J[i]?=some a->H a=some (XO a C od false)->E (.ref a) od H
inductive spS(mg:qc)(n:Nat)(m:List D->MS D)(vs:List V)(H:Hp)(Q:VK)(E:XK):Prop
| mk (hn:vs.length=n) (J:Rho) (ds:List D) (A:Sto) (h:R mg J A H) (r:Paired (RV J) ds vs) (q:Except D D×Sto) (hf:m ds A=some q) (k:kS RV mg (jbo E) J Q q)
def outS:Out->MS D
|.rt d=>MS.p d
|.nx _=>MS.p .non
|_=>λz=>none
noncomputable def jd5(n:Nat)(ds:List D):DSt:=ds.map some++List.replicate (n-ds.length) none
def mirS(n N:Nat)(g:DSt->MS Out):List D->MS D:=λds=>if ds.length=n then(g (jd5 N ds)).b outS elseλz=>none
def jra(r:Paired (RV J) ds vs):Lo J (jd5 N.length ds) (L2.start N vs) where
 len:=by simp[jd5,L2.start,r.length]
 val:=λi d e=>by
  have e':ds[i]?=some d:=by unfold jd5 at e;grind
  obtain⟨v,e1,r1⟩:=pget r e';refine⟨v,?_,r1⟩;unfold L2.start
  clear e';clear e;grind
def Bd(P:Program)(w:World)(K:Af)(mg:qc)(base:Heap)(N:Ab)(q:Str)(st:Stmt)(k:Nat)(g:DSt->MS Out):Prop:=
 ∀(f:Addr)(cdv:Value)(A:Around)(outer:Aj)(s:Shared)(H:Hp)(E:XK),Room k (A.deeper (PyProof.Rows.envOfC q (jat st) s.heap.objs.size f cdv)) ->
  SSs (cxOf (CX1 P w) P w K mg base N q (jat st) f cdv A outer s H E) (jbo E) (jdj st) g
def fn_S(F:Fun K x q st f fd)(Sc:FnScope N ps (jat st))(hb:Bd P w K mg base N q st k g):FnOk P w K mg base (CX1 P w) (k+1) f fd ps (spS mg ps.length (mirS ps.length N.length g)):=by
 obtain⟨oc,od,kV,doc,pm,an,cdv,ct,osl,rfl,lk,hcd⟩:=F.ex;refine jOs lk hcd Sc (λvs H Q E h=>h.1) λAz outer s H vs Q E hr ⟨hn,J,ds,A,h,r,q',hf,k0⟩=>⟨_,hb f cdv Az _ s H E hr,?_⟩
 unfold mirS at hf;rw[aD (r.length.trans hn)]at hf;rcases MS.b_inv hf with ⟨o,A1,e1,hf⟩|⟨y,A1,e1,rfl⟩
 .refine⟨J,_,A,h,jra r,_,e1,?_⟩
  cases o with
  |rt d=>cases hf;exact k0
  |nx Y=>cases hf;exactλZ J' H' l h' z=>k0 _ J' H' l h' rfl
  |_=>cases hf
 .exact⟨J,_,A,h,jra r,_,e1,k0⟩
inductive CalS(P:Program)(w:World)(K:Af)(mg:qc)(base:Heap)(k:Nat)(x:Str)(n:Nat)(m:List D->MS D):Prop
| mk (f:Addr) (fd:FuncData) (ps:Ab) (h1:ps.length=n) (h2:mg x=some (.ref f)) (h3:W.keepIn K (.ref f)=true) (h4:Binds K fd ps []) (h5:FnOk P w K mg base (CX1 P w) k f fd ps (spS mg n m))
section
variable {X:Cx}{E:XK}{e:Expr}{es:Ad}{fl:DSt->MS (List D)}{pos p:Pos}{k n:Nat}{x:Str}{m:List D->MS D}
def jN6(h:mirS n N g ds A=some q):ds.length=n:=by grind[mirS]
def wx_b(hx:Wx X E):jgt (CX1 X.prog X.w) X E:=λz Z z z e s' I c=>hx _ Z e s' (jss I c)
def jFz(C:CalS X.prog X.w X.K X.mg X.base k x n m)(ar:∀{ds A q},m ds A=some q->ds.length=n)(hr:Room k X.A)(hx:Wx X E)(ha:SA X (jbo E) (e::es) fl)(hg:Gl X x)(hdb:Aq x)(he:zsE e es X.env)
  (hpl:zbT pos es X.env):SE X (jbo E) (.Call (.Name x p) (e::es) [] pos) (sL m fl):=by
 obtain⟨f,fd,ps,hl,hm,hk,hb,G⟩:=C;refine sgo (jE3 G hr hg hm hk hb .nil (wx_b hx) ha hdb he hpl) λh l q hf kk=>bS h l hf kk λds A1 hf vs ρ1 H1 h l r k z=>?_
 rw[aO];exact⟨r.length.symm.trans (ar hf),ρ1,ds,A1,h,r,_,hf,k⟩
def whS(tc:DSt->MS Bool)(body:DSt->MS Out):Nat->DSt->MS Out
|0,_=>λz=>none
|n+1,Y=>(tc Y).b λc=>if c=true then(body Y).b λo=>match o with
   |.nx Y2=>whS tc body n Y2
   |.ct Y2=>whS tc body n Y2
   |.bk Y2=>MS.p (.nx Y2)
   |.rt d=>MS.p (.rt d)
  else MS.p (.nx Y)
def jAc(hp:PassesOwn (model X.prog X.w) X.A X.env X.xe)(hc:ST X Er e tc)(hb:SSs X Er body gb):SS X Er (.While e body [] pos) (whS tc gb n):=by
 rintro U s Z H Dn I ⟨J,Y,A,h,l,q,hf,k⟩;refine jzb hp hc hb _ s Z H Dn I ⟨λm Z' H'=>∃J' Y' A',R _ J' A' H'/\Lo J' Y' Z'/\J<+:J'/\whS tc gb m Y' A'=some q,⟨n,J,Y,A,h,l,pr _,hf⟩,?_⟩;rintro m Z' H' ⟨ρ2,Y2,A2,h2,l2,p2,e2⟩
 cases m with
 |zero=>cases e2
 |succ m=>
  refine bO h2 l2 e2 (k.up p2) λc A3 e4 v J3 H3 h3 l3 r k3 p3=>?_
  subst r
  cases v with
  |false=>cases e4;exact iteF (k3 Z' J3 H3 (pr _) h3 l3)
  |true=>
   refine iteT ⟨_,λZ5 H5 z=>⟨m,cM _,z⟩,?_⟩;rcases MS.b_inv e4 with ⟨o,A7,e7,e8⟩|⟨x,A7,e7,rfl⟩
   .refine⟨J3,Y2,A3,h3,l3,_,e7,?_⟩
    cases o with
    |nx Y8=>exactλZ8 J8 H8 p8 h8 l8=>⟨J8,Y8,A7,h8,l8,p2.trans (p3.trans p8),e8⟩
    |ct Y8=>exactλZ8 J8 H8 p8 h8 l8=>⟨J8,Y8,A7,h8,l8,p2.trans (p3.trans p8),e8⟩
    |bk Y8=>cases e8;exact k3
    |rt d8=>cases e8;exact k3
   .exact⟨J3,Y2,A3,h3,l3,_,e7,k3⟩
end
end SI
namespace SI
open L2
open DL (Wx jCe)
section
variable {X:Cx}
abbrev Fs(J:Rho):=Fp (κ:=Str) J
noncomputable def putD(f:Str)(d:D):List (Str×D)->List (Str×D)
|[]=>[(f,d)]
|(g,x)::r=>if g=f then(g,d)::r else(g,x)::putD f d r
def jtx{fs:List (Str×D)}{vs:List (Str×V)}(h:Fs J fs vs):match fs.lookup f with
  |some d=>∃v,vs.lookup f=some v/\RV J d v
  |none=>vs.lookup f=none:=by
 induction h with
 |nil=>rfl
 |@cons p q _ _ z t ih=>
  obtain⟨g,d⟩:=p;obtain⟨_,v⟩:=q;obtain⟨z,r⟩:=z;cases z;rw[aZ,aZ]
  cases f==g with
  |true=>exact⟨v,rfl,r⟩
  |false=>exact ih
def jI8{fs:List (Str×D)}{vs:List (Str×V)}(r:RV J d v)(h:Fs J fs vs):Fs J (putD f d fs) (putF f v vs):=by
 induction h with
 |nil=>exact .cons ⟨rfl,r⟩ .nil
 |@cons p q _ _ z t ih=>
  obtain⟨g,d⟩:=p;obtain⟨_,v⟩:=q;obtain⟨z,r'⟩:=z;cases z;unfold putD putF
  by_cases h:g=f
  .simp only[h];exact .cons ⟨rfl,r⟩ t
  .simp only[h];exact .cons ⟨rfl,r'⟩ ih
noncomputable def insO(A:Sto)(x:D):Option (Nat×Str×List (Str×D)):=match x with
 |.obj i=>match A[i]? with
  |some (.ins c fs)=>some (i,c,fs)
  |_=>none
 |_=>none
def joa{x:D}(h:R mg J A H)(r:RV J x u)(e:insO A x=some (i,c,fs)):∃a C dx vs,x=.obj i/\u=.ref a/\J[i]?=some a/\mg c=some (.ref C)/\H a=some (.ins C dx vs)/\Fs J fs vs:=by
 unfold insO at e
 split at e
 .split at e
  .rename_i hi;cases e;obtain⟨a,rfl,e1,C,dx,vs,q1,q2,q3⟩:=h.rd (K:=[]) r hi
   grind
  .cases e
 .cases e
def sGet(cs:Ab)(f:Str)(fo:DSt->MS D):DSt->MS D:=λY=>(fo Y).b λx A=>match insO A x with
 |some (_,c,fs)=>if cs.contains c then(fs.lookup f).map λd=>(.ok d,A)else none
 |none=>none
def jL0(hc:jCe X cs f)(ha:SE X Er e fo)(hb:attributeBase e f X.env (eval e X.env)=eval e X.env):SE X Er (.Attribute e f pos) (sGet cs f fo):=by
 refine sgo (jKr ha hb) λh l q hf k=>bS h l hf k λx A1 hf u ρ1 H1 h l r k _=>?_
 cases ei:insO A1 x with
 |none=>simp_all
 |some z=>
  obtain⟨i,c,fs⟩:=z;simp only[ei]at hf
  split at hf
  .rename_i hcs;obtain⟨d,e1,rfl⟩:=aB.mp hf;obtain⟨a,C,dx,vs,rfl,rfl,q1,q2,q3,q4⟩:=joa h r ei;obtain⟨g1,g2⟩:=hc c (zbc.mp hcs) C q2;have:=jtx (f:=f) q4;rw[e1]at this;obtain⟨v,e2,r2⟩:=this;exact⟨a,C,dx,vs,v,rfl,q3,g1,g2,e2,k v ρ1 H1 (pr _) h r2⟩
  .cases hf
def oFld(cs:Ab)(f:Str)(fo fv:DSt->MS D):DSt->MS Out:=λY=>(fv Y).b λd=>(fo Y).b λx A=>match insO A x with
 |some (i,c,fs)=>if cs.contains c/\fs.length<1000 then some (.ok (.nx Y),A.set i (.ins c (putD f d fs)))else none
 |none=>none
def jMq(hc:jCe X cs f)(ho:SE X Er o fo)(hv:SE X Er e fv)(hs:swapsWith e (some (.Attribute o f pos')) pos.line X.env=pure false):SS X Er (.Assign [.Attribute o f pos'] e pos) (oFld cs f fo fv):=by
 refine sgO (jK7 ho hv hs) λh l q hf k=>bO h l hf k λd A1 hf v ρ1 H1 h l r1 k _=>bO h l hf k λx A2 hf u ρ2 H2 h l r k l2=>?_
 cases ei:insO A2 x with
 |none=>simp_all
 |some z=>
  obtain⟨i,c,fs⟩:=z;simp only[ei]at hf
  split at hf
  .rename_i hcs;cases hf;obtain⟨a,C,dx,vs,rfl,rfl,q1,q2,q3,q4⟩:=joa h r ei;obtain⟨g1,g2⟩:=hc c (zbc.mp hcs.1) C q2;exact⟨a,C,dx,vs,rfl,q3,g1,g2,by rw[<- q4.length];exact hcs.2,k _ ρ2 _ (pr _) (h.put q1 ⟨C,dx,_,q2,jad,jI8 (r1.mono l2) q4⟩) l⟩
  .cases hf
inductive MetS(P:Program)(w:World)(K:Af)(mg:qc)(base:Heap)(k:Nat)(c x:Str)(n:Nat)(m:List D->MS D):Prop
| mk (C f:Addr) (fd:FuncData) (ps:Ab) (h1:ps.length=n) (h2:mg c=some (.ref C)) (h3:Cls K C) (h4:Meth K C x f) (h5:Binds K fd ps []) (h6:FnOk P w K mg base (CX1 P w) k f fd ps (spS mg n m))
def jzq(c x:Str)(m:List D->MS D)(fo:DSt->MS D)(fl:DSt->MS (List D)):DSt->MS D:=λY=>(fo Y).b λd A=>match insO A d with
 |some (_,c',fs)=>if c'=c/\(fs.lookup x).isNone then((fl Y).b λds=>m (d::ds)) A else none
 |none=>none
end
end SI
namespace L2
open PyProof.Rows
def jxm{t b:Addr}{vs ws:Ac}{Q:qe}(ht:IsTup s.heap t vs.toArray)(hb:IsTup s.heap b ws.toArray)(hv:vs=[])(h1:Q (.ref b) s):wpAny (model prog w) A (binaryOp .Add (.ref t) (.ref b)) Q E s:=by
 obtain⟨⟨cls,dd,data,sl⟩,ho,hc,n,hd⟩:=id ht;obtain⟨⟨cls2,dd2,data2,sl2⟩,ho2,hc2,n2,hd2⟩:=id hb;subst hc hd hc2 hd2;exact concat_meets ⟨_,ho,rfl⟩ ⟨_,ho2,rfl⟩ gv seq_tuple_add eT eO (eI _ _)
  (tuple_addW0 t b _ _ n n2 dd dd2 sl sl2 (by simp[hv])) ⟨ho,ho2,h1⟩
def jLg(K:Af):R2:=λx y H Q=>∃a b xs ys,x=.ref a/\y=.ref b/\SqT K H a xs/\SqT K H b ys/\xs=[]/\Q (.ref b) H
def jEu:OpR X (binaryOp .Add) (jLg X.K):=by intro U s Z H x y v u Q I rx ry h;obtain⟨a,b,xs,ys,rfl,rfl,ha,hb,hx,q⟩:=h;cases rx;cases ry;obtain⟨its,r1,p1,_⟩:=I.tuple ha;obtain⟨its2,r2,p2,_⟩:=I.tuple hb;exact jxm p1 p2 (r1.nil_iff.mpr hx) ⟨.ref b,H,I,rfl,q⟩
end L2
namespace DL
open L2
noncomputable def gCatE:D->D->Option D
|.tup xs,.tup ys=>if xs.length+ys.length<=sizeLine then some (.tup (xs++ys))else none
|_,_=>none
end DL
namespace SI
open L2
section
variable {X:Cx}
noncomputable def sqO:SO->Option (Bool×List D)
|.lst ds=>some (true,ds)
|.fro ds=>some (true,ds)
|.tup ds=>some (false,ds)
|_=>none
def sqD(A:Sto):D->Option (Bool×List D)
|.obj i=>A[i]?.bind sqO
|_=>none
def jpc(h:R mg J A H)(r:RV J d u)(e:sqD A d=some (z,ds)):∃a xs,u=.ref a/\(if z=true then SqL K H a xs else SqT K H a xs)/\Paired (RV J) ds xs:=by
 cases d with
 |obj i=>
  refine ob e λso e1 e2=>?_
  cases so with
  |tup _=>cases e2;exact h.rdT r (by rw[e1];rfl)
  |lst _=>cases e2;exact h.rdL r (by rw[e1];rfl)
  |fro _=>cases e2;exact h.rdL r (by rw[e1];rfl)
  |_=>cases e2
 |_=>cases e
def jH1(h:Paired (RV J) ds xs)(e:atI ds j=some d):∃v,atI xs j=some v/\RV J d v:=by
 unfold atI;rw[<- h.length];refine ob e λi e1 e2=>?_
 rw[e1];exact pget h e2
def gIx:D->D->MS D:=λx y A=>match y with
 |.int j=>match x with
  |.str z=>if z.length<=sizeLine then(atI z.cps.toList j).map λc=>(.ok (.str ⟨#[c]⟩),A)else none
  |x=>(sqD A x).bind λq=>(atI q.2 j).map λd=>(.ok d,A)
 |_=>none
def ix_S:OpS mg gIx (rIx K):=by
 intro x y A q J H u v Er Q hf hR r1 r2 k
 cases y with
 |int j=>
  cases r2;have go:((sqD A x).bind λq=>(atI q.2 j).map λd=>(Except.ok d,A))=some q->rIx K u _ H Q:=λhf=>by
   obtain⟨⟨z,ds⟩,e1,e2⟩:=aG.mp hf;obtain⟨d,e3,rfl⟩:=aB.mp e2;obtain⟨a,xs,rfl,s,p⟩:=jpc hR r1 e1;obtain⟨v,e4,r4⟩:=jH1 p e3;have kk:=k v J H (pr _) hR r4;cases z
   .exact .inr (.inl ⟨a,xs,j,v,rfl,rfl,s,e4,kk⟩)
   .exact .inl ⟨a,xs,j,v,rfl,rfl,s,e4,kk⟩
  cases x with
  |str z=>
   unfold gIx at hf;dsimp only at hf
   split at hf
   .rename_i hz;obtain⟨c,e,rfl⟩:=aB.mp hf;cases r1;exact .inr (.inr ⟨z,j,c,rfl,rfl,hz,e,k _ J H (pr _) hR rfl⟩)
   .cases hf
  |_=>exact go hf
 |_=>cases hf
def kLen:List D->MS D:=λds A=>match ds with
 |[.str z]=>if z.length<=sizeLine then some (.ok (.int z.length),A)else none
 |[d]=>(sqD A d).map λq=>(.ok (.int q.2.length),A)
 |_=>none
def truS(A:Sto):D->Option Bool
|.non=>some false
|.bl b=>some b
|.int i=>some (i != 0)
|.str x=>if x.length<=sizeLine then some ((x.length:Int) != 0)else none
|d=>(sqD A d).map λq=>!q.2.isEmpty
def sTru(fa:DSt->MS D):DSt->MS Bool:=λY=>(fa Y).b λd A=>(truS A d).map λc=>(.ok c,A)
def jMw(ha:SE X Er a fa)(he:∀whole,isTrue a X.env whole=(do let v <- whole;standAt a.pos;holding [v] (truthy v))):ST X Er a (sTru fa):=by
 refine sgo (jze ha he) λh l q hf k=>bS h l hf k λd A1 hf u ρ1 H1 h l r k t=>?_
 obtain⟨z,e,rfl⟩:=aB.mp hf;refine⟨z,?_,k _ ρ1 H1 (pr _) h rfl⟩
 cases d with
 |non=>cases e;cases r;rfl
 |bl _=>cases e;cases r;rfl
 |int _=>cases e;cases r;rfl
 |str y=>
  have e':(if y.length<=sizeLine then some _ else none)=some z:=e
  split at e'
  .cases e';cases r;exact⟨by assumption,rfl⟩
  .cases e'
 |ty _=>cases e
 |obj i=>
  obtain⟨⟨w,ds⟩,e1,rfl⟩:=aB.mp e;obtain⟨a,xs,rfl,s,p⟩:=jpc h r e1;have:xs.isEmpty=ds.isEmpty:=by cases p<;>rfl
  cases w
  .exact .inr (.inl ⟨xs,s,by rw[this]⟩)
  .exact .inl ⟨xs,s,by rw[this]⟩
def sNot(ta:DSt->MS Bool):DSt->MS Bool:=λY=>(ta Y).b λc=>MS.p !c
def sAnd(ta tb:DSt->MS Bool):DSt->MS Bool:=λY=>(ta Y).b λc=>if c=true then tb Y else MS.p false
def sOr(ta tb:DSt->MS Bool):DSt->MS Bool:=λY=>(ta Y).b λc=>if c=true then MS.p true else tb Y
def sIf(tc:DSt->MS Bool)(fa fb:DSt->MS D):DSt->MS D:=λY=>(tc Y).b λc=>if c=true then fa Y else fb Y
def jMv(ha:ST X Er a ta):ST X Er (.UnaryOp .Not a pos) (sNot ta):=by
 refine sgo (jLa ha) λh l q hf k=>bS h l hf k λc A1 hf u ρ1 H1 h l r k z=>?_
 cases hf;subst r
 exact k _ ρ1 H1 (pr _) h rfl
def SWt(X:Cx)(Er:Err)(e:Expr)(f:DSt->MS Bool):Prop:=PW X e (tS (λz a b=>b=a) X.mg Er f)
def jM2{rest:Ad}(ha:ST X Er a ta)(hb:SWt X Er (.BoolOp .And (b::rest) pos) tb):SWt X Er (.BoolOp .And (a::b::rest) pos) (sAnd ta tb):=by
 rintro wh U s Z H Q I ⟨J,Y,A,h,l,q,hf,k⟩;refine jLd ha hb wh _ s Z H Q I (bS h l hf k λc A1 hf u ρ1 H1 h l r k z=>?_);subst r;cases u
 .cases hf;exact iteF (k _ ρ1 H1 (pr _) h rfl)
 .exact iteT ⟨ρ1,Y,A1,h,l,q,hf,k⟩
def jQh{rest:Ad}(ha:ST X Er a ta)(hb:SWt X Er (.BoolOp .Or (b::rest) pos) tb):SWt X Er (.BoolOp .Or (a::b::rest) pos) (sOr ta tb):=by
 rintro wh U s Z H Q I ⟨J,Y,A,h,l,q,hf,k⟩;refine jPz ha hb wh _ s Z H Q I (bS h l hf k λc A1 hf u ρ1 H1 h l r k z=>?_);subst r;cases u
 .exact iteF ⟨ρ1,Y,A1,h,l,q,hf,k⟩
 .cases hf;exact iteT (k _ ρ1 H1 (pr _) h rfl)
def jL1(hc:ST X Er c tc)(ha:SE X Er a fa)(hb:SE X Er b fb):SE X Er (.IfExp c a b pos) (sIf tc fa fb):=by
 refine sgo (jy1 hc ha hb) λh l q hf k=>bS h l hf k λc A1 hf u ρ1 H1 h l r k z=>?_
 subst r;cases u
 .exact iteF ⟨ρ1,_,A1,h,l,q,hf,k⟩
 .exact iteT ⟨ρ1,_,A1,h,l,q,hf,k⟩
noncomputable def jg3(own:Nat)(caps:qh)(Y:DSt):DSt:=List.replicate own none++caps.map λp=>(Y[p.2]?).join
def Lo.inner(l:Lo J Y Z):Lo J (jg3 n caps Y) (jdy n caps Z) where
 len:=by simp[jg3,jdy]
 val:=λi d e=>by
  unfold jg3 at e
  by_cases hi:i<n
  .grind
  .rw[aL (by simp;simp_all),dB,zba]at e;obtain⟨p,e1,e2⟩:=aB.mp e;obtain⟨v,e4,r⟩:=l.val _ d (by cases z:Y[p.2]?<;>(clear e;simp_all));refine⟨v,?_,r⟩;unfold jdy
   grind
noncomputable def noE{α:Type}(m:MS α):MS α:=λA=>match m A with
 |some (.ok a,A')=>some (.ok a,A')
 |_=>none
def jop(h:(noE m).b f A=some q):∃a A1,m A=some (.ok a,A1)/\f a A1=some q:=by
 rcases MS.b_inv h with ⟨a,A1,e,h⟩|⟨x,A1,e,_⟩<;>unfold noE at e<;>split at e<;>cases e;grind
def jd6(t:Itr)(g:Tg)(tc:DSt->MS Bool)(fe:DSt->MS D)(i:Nat):Nat->Nat->DSt->MS D
|0,_,_=>λz=>none
|n+1,j,Y=>(t j).b λo=>match o with
  |none=>MS.p (.obj i)
  |some d=>λA=>match g d Y A with
   |none=>none
   |some Y1=>((noE (tc Y1)).b λc=>if c=true then(noE (fe Y1)).b λy A=>match A[i]? with
     |some (.lst ys)=>if ys.length<sizeLine then jd6 t g tc fe i n (j+1) Y1 (A.set i (.lst (ys++[y])))else none
     |_=>none
    else jd6 t g tc fe i n (j+1) Y1) A
def jLt(n own:Nat)(caps:qh)(fi:DSt->MS Itr)(g:Tg)(tc:DSt->MS Bool)(fe:DSt->MS D):DSt->MS D:=λY=>(fi Y).b λt A=>jd6 t g tc fe A.length n 0 (jg3 own caps Y) (A++[.lst []])
def SC(X:Cx)(Er:Err)(ifs:Ad)(f:DSt->MS Bool):Prop:=PC0 X ifs (tS (λz a b=>b=a) X.mg Er f)
def jA4(h:tS RV X.mg Er (jLt n m caps fi g tc fe) Z H Q):jwr m caps (tS (ItS X.mg) X.mg Er fi) (tT X.mg g) (tS (λ_ a b=>b=a) X.mg Er' tc) (tS RV X.mg Er' fe) Z H Q:=by
 obtain⟨J,Y,A,h,l,q,hf,k⟩:=h;refine bS h l hf k λt A1 hf Jq ρ1 H1 h l it k _=>λDd hD=>?_
 have l0:=aA ρ1 [Dd];have hD0:(ρ1++[Dd])[A1.length]?=some Dd:=by rw[<- h.len];simp
 refine⟨λi m Z' H'=>∃J' Y' A',R _ J' A' H'/\Lo J' Y' Z'/\ρ1++[Dd]<+:J'/\jd6 t g tc fe _ m i Y' A'=some q,⟨n,_,_,_,h.new (o:=.lst []) hD ⟨[],jad,.nil⟩,(l.mono l0).inner,pr _,hf⟩,?_⟩;rintro i m Z' H' ⟨ρ2,Y2,A2,h2,l2,p2,e2⟩
 cases m with
 |zero=>cases e2
 |succ m=>
  rcases MS.b_inv e2 with ⟨o,A3,e3,e4⟩|⟨x,A3,e3,rfl⟩
  .have:=it i ρ2 H' e3 (l0.trans p2) h2
   cases o with
   |none=>obtain⟨st,rfl⟩:=this;cases e4;exact .inl ⟨st,k _ ρ2 H' (l0.trans p2) h2 ((show RV _ (.obj _) _ from⟨Dd,hD0,rfl⟩).mono p2)⟩
   |some d=>
    refine .inr ⟨this.1,_,λZ5 H5 z=>⟨m,cM _,z⟩,λx H5 y=>?_⟩;obtain⟨ρ5,p5,h5,r5⟩:=this.2 x H5 y;dsimp only at e4
    cases e6:g d Y2 A3 with
    |none=>simp_all
    |some Y1=>
     rw[e6]at e4;refine⟨ρ5,Y2,A3,h5,l2.mono p5,d,r5,Y1,e6,λZ6 l6=>?_⟩;obtain⟨c,A7,e7,e8⟩:=jop e4;refine⟨ρ5,Y1,A3,h5,l6,_,e7,λb J7 H7 p7 h7 r7=>?_⟩;subst r7
     cases b with
     |false=>exact iteF ⟨J7,Y1,A7,h7,l6.mono p7,p2.trans (p5.trans p7),e8⟩
     |true=>
      obtain⟨v,A8,e9,e10⟩:=jop e8;refine iteT ⟨J7,Y1,A7,h7,l6.mono p7,_,e9,λu J8 H8 p8 h8 r8=>?_⟩;have pp:=p2.trans (p5.trans (p7.trans p8))
      split at e10
      .rename_i ys hy
       split at e10
       .rename_i hz;have hDi:J8[A1.length]?=some Dd:=by obtain⟨w,rfl⟩:=pp;rw[aS (zbb.mp hD0).1];exact hD0
        obtain⟨xs,q1,q2⟩:=h8.ats _ Dd _ hDi hy;have pa:Paired (RV J8) (ys++[v]) (xs++[u]):=by
         clear hy hz e10 q1
         induction q2 with
         |nil=>exact .cons r8 .nil
         |cons a _ ih=>exact .cons a ih
        exact⟨xs,q1,by rw[<- q2.length];exact hz,J8,Y1,_,h8.put (o:=.lst _) hDi ⟨_,jad,pa⟩,l6.mono (p7.trans p8),pp,e10⟩
       .cases e10
      .cases e10
  .exact (it i ρ2 H' e3 (l0.trans p2) h2).elim
def jF0(hc:X.calm=true)(ck:CapsOk X scope caps)(hi:SW X Er tg iter fi)
  (hg:∀C s0 H0 ex,SG (As X scope own caps C s0 H0 ex) tg g) (ht:∀C s0 H0 ex,SC (As X scope own caps C s0 H0 ex) Er' ifs tc)
  (he:∀C s0 H0 ex,SE (As X scope own caps C s0 H0 ex) Er' elt fe) (hs:Ao X iter):SE X Er (.ListComp elt [⟨tg,iter,ifs,0⟩] scope pos) (jLt n own.length caps fi g tc fe):=λU s Z H Q I h =>
 jE4 (g:=tT _ g) (tc:=tS _ _ Er' tc) (te:=tS RV _ Er' fe) hc ck hi hg ht he hs _ s Z H Q I (jA4 h)
end
open DL (Wx ErrT)
section
variable {X:Cx}
def jna(cs:Ab)(fa:DSt->MS D):DSt->MS Out:=λY=>(fa Y).b λd A=>match d with
 |.obj i=>match A[i]? with
  |some (.exc c j true)=>if cs.contains c then some (.error (.obj i),A.set i (.exc c j false))else none
  |_=>none
 |_=>none
set_option tactic.hygienic true in
def jAb(T:ErrT X.K X.mg cs fs b)(hc:X.calm=true)(hx:Wx X E)(ha:SE X (jbo E) e fa):SS X (jbo E) (.Raise (some e) none pos) (jna cs fa):=by
 refine sgO (jza ha hc) λh l q hg k=>bO h l hg k λd A1 hg v ρ1 H1 h l r k _=>?_
 split at hg
 .split at hg
  .rename_i i c j hi
   split at hg
   .rename_i hcs;cases hg;obtain⟨a,rfl,e1,C,od,q1,q2,q3⟩:=h.rd (K:=[]) r hi;exact⟨a,C,od,rfl,q2,T.cls c (zbc.mp hcs) C q1,λpins' s' Jq Fl=>hx _ _ _ s' ⟨a,C,od,_,_,rfl,Jq,Fl,λ_ _ z=>z,(k ρ1 _ (pr _) (h.put e1 ⟨C,od,q1,jad,q3⟩) _ a C od rfl e1 jad)⟩⟩
   .cases hg
  .cases hg
 .cases hg
noncomputable def sXNew(c:Str):DSt->MS D:=λz A=>some (.ok (.obj A.length),A++[.exc c none true])
def jF9(cl:XCls X.K C)(hi:xNoI X.K C=true)(hg:Gl X x)(hm:X.mg x=some (.ref C))(hdb:Aq x):SE X Er (.Call (.Name x p) [] [] pos) (sXNew x):=by rintro U s Z H Q I ⟨J,Y,A,h,l,q,hf,k⟩;cases hf;exact jE8 cl hi hg hm hdb _ s Z H Q I λa ha=>newO (o:=.exc x _ _) h ha ⟨C,_,hm,jad,rfl⟩ k
def jP4(cs:Ab)(f:Str)(fo:DSt->MS D):DSt->MS D:=λY=>(fo Y).b λd A=>match d with
 |.obj i=>match A[i]? with
  |some (.exc c (some j) _)=>match A[j]? with
   |some (.xd fs)=>if cs.contains c then(fs.lookup f).map λd=>(.ok d,A)else none
   |_=>none
  |_=>none
 |_=>none
set_option tactic.hygienic true in
def jF8(T:ErrT X.K X.mg cs fs b)(hf0:f∈fs)(ha:SE X Er e fo)(hb:attributeBase e f X.env (eval e X.env)=eval e X.env):SE X Er (.Attribute e f pos) (jP4 cs f fo):=by
 rintro U s Z H Q I ⟨J,Y,A,h,l,q,hf,k⟩;refine jE7 ha hb _ s Z H Q I ⟨bS h l hf k λd A1 hf u ρ1 H1 h l r k _=>?_⟩
 split at hf
 .split at hf
  .rename_i i c j f0 hi
   split at hf
   .rename_i gs hj
    split at hf
    .rename_i hcs;obtain⟨d,e1,rfl⟩:=aB.mp hf;obtain⟨a,rfl,e2,C,od,q1,q2,dx,q3,rfl⟩:=h.rd (K:=[]) r hi;obtain⟨vs,q4,q5⟩:=h.ats j dx _ q3 hj;have hcm:=zbc.mp hcs;have:=jtx (f:=f) q5;rw[e1]at this;obtain⟨v,e3,r3⟩:=this;exact⟨a,C,dx,f0,vs,v,rfl,q2,q4,T.cls c hcm C q1,T.fld c hcm C q1 f hf0,e3,k v ρ1 H1 (pr _) h r3⟩
    .cases hf
   .cases hf
  .cases hf
 .cases hf
def R.other{p:Addr}(h:R mg J A H)(hp:H p=none):R mg J A (upd H p u):=
 ⟨h.len,h.nd,λi a o e1 e2=>(h.ats i a o e1 e2).mono (pr _) (jae λz=>by subst z;exact h.nn (dE e1) hp)⟩
inductive IniS(P:Program)(w:World)(K:Af)(mg:qc)(base:Heap)(k:Nat)(c:Str)(n:Nat)(m:List D->MS D):Prop
| mk (C f:Addr) (fd:FuncData) (ps:Ab) (h1:ps.length=n) (h2:mg c=some (.ref C)) (h3:Mk K C f) (h4:Binds K fd ps []) (h5:FnOk P w K mg base (CX1 P w) k f fd ps (spS mg n m))
def jr8(c:Str)(m:List D->MS D)(fl:DSt->MS (List D)):DSt->MS D:=λY=>(fl Y).b λds A=>((m (.obj A.length::ds)).b λd=>match d with
 |.non=>MS.p (.obj A.length)
 |_=>λz=>none) (A++[.ins c []])
def made{o:SO}{a:Addr}{Q:VK}{vs:List V}{ds:List D}{q:Except D D×Sto}{H2:Hp}(ar:∀{ds A q},m ds A=some q->ds.length=n)(hl:J.length=A.length)(h2:R mg (J++[a]) (A++[o]) H2)(r:Paired (RV J) ds vs)(hf:((m (.obj A.length::ds)).b λd=>match d with
  |.non=>MS.p (.obj A.length)
  |_=>λz=>none) (A++[o])=some q) (k:kS RV mg (jbo E) J Q q):spS mg n m (.ref a::vs) H2 (λv H'=>v=.non/\Q (.ref a) H') E:=by
 have lp:=aA J [a];have r0:RV (J++[a]) (.obj A.length) _:=⟨a,by rw[<- hl];simp,rfl⟩
 have rs:Paired _ _ _:=.cons r0 (Paired.mapP r λz z=>RV.mono lp);rcases MS.b_inv hf with ⟨d,A3,e3,hf⟩|⟨y,A3,e3,rfl⟩
 .refine⟨rs.length.symm.trans (ar e3),_,_,_,h2,rs,_,e3,λv J3 H3 p3 h3 r3=>?_⟩
  cases d with
  |non=>cases hf;exact⟨r3,k _ J3 H3 (lp.trans p3) h3 (r0.mono p3)⟩
  |_=>cases hf
 .exact⟨rs.length.symm.trans (ar e3),_,_,_,h2,rs,_,e3,λJ3 H3 p3 h3=>k J3 H3 (lp.trans p3) h3⟩
def jF5(C:IniS X.prog X.w X.K X.mg X.base k c n m)(ar:∀{ds A q},m ds A=some q->ds.length=n)(hr:Room (k+1) X.A)(hx:Wx X E)(ha:SA X (jbo E) (e::es) fl)(hg:Gl X c)(hdb:Aq c)(he:zsE e es X.env)
  (hpl:zbT pos es X.env):SE X (jbo E) (.Call (.Name c p) (e::es) [] pos) (jr8 c m fl):=by
 obtain⟨Ca,f,fd,ps,hl,hm,hM,hb,G⟩:=C;refine sgo (jE5 hM G hr hg hm hb .nil (wx_b hx) ha hdb he hpl) λh l q hf kk=>bS h l hf kk λds A1 hf vs ρ1 H1 h l r k z=>λx dx hx0 hdx ne=>?_
 rw[aO];exact made ar h.len ((h.other (u:=.own x) hdx).new (o:=.ins c []) (by rw[jae (cE ne)];exact hx0) ⟨Ca,dx,[],hm,jad,.nil⟩) r hf k
end
end SI
namespace SI
open L2
def papp{l:List α}{m:List β}(h:Paired F l m):∀{l':List α}{m':List β},Paired F l' m'->Paired F (l++l') (m++m'):=by
 induction h with
 |nil=>exact id
 |cons a _ ih=>exactλt=>.cons a (ih t)
section
variable {X:Cx}
inductive tTs(mg:qc)(is:Aa)(vs:List V)(Z:St)(H:Hp)(Q:St->Hp->Prop):Prop
|mk (J:Rho) (Y:DSt) (l:Lo J Y Z) (ds:List D) (r:Paired (RV J) ds vs) (hl:ds.length=is.length) (k:∀Z',Lo J ((is.zip ds).foldl (λY p=>Y.set p.1 (some p.2)) Y) Z'->Q Z' H)
inductive Nms(X:Cx):Ad->Aa->Prop
| nil:Nms X [] []
| cons {i:Nat}{x:Str}{pos:Pos}{es:Ad}{is:Aa} (hN:X.N.Nodup) (hi:X.N[i]?=some x) (hx:Loc X.env.scope x) (hf:An X x)
   (hs:(assignEach (.Name x pos::es) X.env).map (·.2)=assign (.Name x pos) X.env::(assignEach es X.env).map (·.2)) (t:Nms X es is):Nms X (.Name x pos::es) (i::is)
def sgs(h:Nms X es is):PGs X es (tTs X.mg is):=by
 induction h with
 |nil=>rintro U s Z H vs us Q I rv ⟨J,Y,l,ds,r,hl,k⟩;cases List.eq_nil_of_length_eq_zero hl;cases r;exact jE9 _ s Z H [] us Q I rv ⟨rfl,k Z l⟩
 |cons hN hi hx hf hs t ih=>
  rintro U s Z H vs us Q I rv ⟨J,Y,l,ds,r,hl,k⟩
  cases r with
  |nil=>cases hl
  |cons r rr=>exact jy5 (jvc hN hi hx hf) ih hs _ s Z H _ us Q I rv ⟨_,_,rfl,J,_,l.set r,_,rr,Nat.succ.inj hl,k⟩
def tTup(is:Aa):Tg:=λd Y A=>match d with
 |.obj i=>(A[i]?.bind tuO).bind λds=>if ds.length=is.length then some ((is.zip ds).foldl (λY p=>Y.set p.1 (some p.2)) Y)else none
 |_=>none
def jMa(hc:X.calm=true)(h:Nms X ts is)(hn:(assignEach ts X.env).length=is.length)(hst:(assignEach ts X.env).findIdx? (·.1)=none):SG X (.Tuple ts kk pos) (tTup is):=by
 rintro U s Z H v u Q I rv ⟨J,Y,A,hR,l,d,r,Y',hf,k⟩;unfold tTup at hf
 split at hf
 .refine ob hf λds e1 e2=>?_
  split at e2
  .rename_i hl;cases e2;obtain⟨a,xs,rfl,s1,p1⟩:=hR.rdT r e1;exact jK1 hc (sgs h) hn hst _ s Z H _ u Q I rv ⟨a,xs,rfl,s1,p1.length.symm.trans hl,J,Y,l,ds,p1,hl,k⟩
  .cases e2
 .cases hf
end
mutual
inductive Rp(W:Aa)(A:Sto):D->DL.D->Prop
| non:Rp W A .non .non
| bl {b}:Rp W A (.bl b) (.bl b)
| int {i}:Rp W A (.int i) (.int i)
| str {x}:Rp W A (.str x) (.str x)
| ty {n}:Rp W A (.ty n) (.ty n)
| lst {i ds xs} (h:i∉W) (e:A[i]?.bind lsO=some ds) (r:Rps W A ds xs) (f:i=0\/∃es,A[i]?=some (.lst es)):Rp W A (.obj i) (.lst xs)
| tup {i ds xs} (h:i∉W) (e:A[i]?.bind tuO=some ds) (r:Rps W A ds xs):Rp W A (.obj i) (.tup xs)
inductive Rps(W:Aa)(A:Sto):List D->List DL.D->Prop
| nil:Rps W A [] []
| cons {d x ds xs} (h:Rp W A d x) (t:Rps W A ds xs):Rps W A (d::ds) (x::xs)
end
def Kp(W:Aa)(A A':Sto):Prop:=∀i o,i∉W->A[i]?=some o->A'[i]?=some o
def Kp.bd{ds:List D}(k:Kp W A A')(h:i∉W)(e:A[i]?.bind g=some ds):A'[i]?.bind g=some ds:=by
 refine ob e λo e1 e2=>?_
 rw[k i o h e1];exact e2
section
variable {W:Aa}{A:Sto}
def Rp.ind{P:D->DL.D->Prop}{d:D}{x:DL.D}(n:P .non .non)(b:∀{b},P (.bl b) (.bl b))(i:∀{i},P (.int i) (.int i))(s:∀{x},P (.str x) (.str x))(t:∀{x},P (.ty x) (.ty x))
  (l:∀{i ds xs},i∉W->A[i]?.bind lsO=some ds->(i=0\/∃es,A[i]?=some (.lst es))->Paired P ds xs->P (.obj i) (.lst xs))
  (u:∀{i ds xs},i∉W->A[i]?.bind tuO=some ds->Paired P ds xs->P (.obj i) (.tup xs)) (h:Rp W A d x):P d x:=
 Rp.rec (motive_1:=λd x z=>P d x) (motive_2:=λd x z=>Paired P d x) n b i s t (λh e z f r=>l h e f r) (λh e z r=>u h e r) .nil (λz z=>.cons) h
def Rps.of(h:Paired (Rp W A) ds xs):Rps W A ds xs:=by induction h with
 |nil=>exact .nil
 |cons a _ b=>exact .cons a b
def Rps.pd(h:Rps W A ds xs):Paired (Rp W A) ds xs:=
 Rps.rec (motive_1:=λd x z=>Rp W A d x) (motive_2:=λd x z=>Paired (Rp W A) d x) .non .bl .int .str .ty (λh e r f z=>.lst h e r f) (λh e r z=>.tup h e r) .nil (λz z=>.cons) h
@[elab_as_elim] theorem rc1{motive:List D->Prop}(h:Rps W A ds [x])(k:∀d,Rp W A d x->motive [d]):motive ds:=by cases h with|cons r t=>cases t;exact k _ r
@[elab_as_elim] theorem rc2{motive:List D->Prop}(h:Rps W A ds [x,y])(k:∀d e,Rp W A d x->Rp W A e y->motive [d,e]):motive ds:=by cases h with|cons r t=>exact rc1 t λz=>k _ _ r
def Rp.mp{W':Aa}{A':Sto}(w:∀{i g}{ds:List D},i∉W->A[i]?.bind g=some ds->i∉W')(l:∀{i ds},i∉W->A[i]?.bind lsO=some ds->A'[i]?.bind lsO=some ds)(t:∀{i ds},i∉W->A[i]?.bind tuO=some ds->A'[i]?.bind tuO=some ds)(f:∀{i es},i∉W->A[i]?=some (.lst es)->A'[i]?=some (.lst es))(h:Rp W A d x):Rp W' A' d x:=
 h.ind .non .bl .int .str .ty (λh e q r=>.lst (w h e) (l h e) (.of r) (q.imp id (.imp λz=>f h))) λh e r=>.tup (w h e) (t h e) (.of r)
def Rps.mp{W':Aa}{A':Sto}(f:∀{d x},Rp W A d x->Rp W' A' d x)(h:Rps W A ds xs):Rps W' A' ds xs:=.of (Paired.mapP h.pd λz z=>f)
def Rp.up{W':Aa}{A':Sto}(k:Kp W' A A')(w:∀i∈W',i∈W):Rp W A d x->Rp W' A' d x:=
 .mp (λh y z=>h (w _ z)) (λh=>k.bd λz=>h (w _ z)) (λh=>k.bd λz=>h (w _ z)) λh=>k _ _ λz=>h (w _ z)
def Rps.up{W':Aa}{A':Sto}(k:Kp W' A A')(w:∀i∈W',i∈W):Rps W A d x->Rps W' A' d x:=.mp (.up k w)
end
def jyo{o:Option SO}(h:o.bind lsO=some a)(k:o.bind tuO=some b):False:=by
 cases o with
 |none=>cases h
 |some o=>cases o<;>cases h<;>cases k
def pdet(h:Paired (λd x=>∀y,F d y->x=y) ds xs)(k:Paired F ds ys):xs=ys:=by
 induction h generalizing ys with
 |nil=>cases k;rfl
 |cons a _ b=>cases k with|cons c d=>rw[a _ c,b d]
theorem Rp.det{W:Aa}{A:Sto}(h:Rp W A d x):∀{y},Rp W A d y->x=y:=
 λ{y}=>h.ind (P:=λd x=>∀y,Rp W A d y->x=y) (λz h=>by cases h;rfl) (λz h=>by cases h;rfl) (λz h=>by cases h;rfl) (λz h=>by cases h;rfl) (λz h=>by cases h;rfl)
  (λz e z r z h=>by cases h with
   |lst _ e' r'=>cases e.symm.trans e';rw[pdet r r'.pd]
   |tup _ e'=>cases jyo e e') (λz e r z h=>by cases h with
   |lst _ e'=>cases jyo e' e
   |tup _ e' r'=>cases e.symm.trans e';rw[pdet r r'.pd]) y
theorem Rps.det{W:Aa}{A:Sto}(h:Rps W A d x)(k:Rps W A d y):x=y:=pdet (Paired.mapP h.pd λw w z w=>z.det) k.pd
theorem Rps.length(h:Rps W A ds xs):xs.length=ds.length:=h.pd.length.symm
def joz(h:Paired (λd x=>∀u,RV J d u->DL.Rep (J[·]?) K H x u) ds xs)(p:Paired (RV J) ds us):DL.Reps (J[·]?) K H xs us:=by
 induction h generalizing us with
 |nil=>cases p;exact DL.Reps.nil
 |cons a _ b=>cases p with|cons r p=>exact DL.Reps.cons (a _ r) (b p)
def Rp.rep(h:R mg J A H)(q:Rp W A d x):RV J d u->DL.Rep (J[·]?) K H x u:=
 q.ind (P:=λd x=>∀u,RV J d u->DL.Rep (J[·]?) K H x u) (λy=>id) (λy=>id) (λy=>id) (λy=>id) (λy=>id) (λy e y t u r=>by
  obtain⟨a,xs,z,s,p⟩:=h.rdL r e;exact DL.rep_lst.mpr ⟨a,xs,z,s,joz t p⟩) (λy e t u r=>by obtain⟨a,xs,z,s,p⟩:=h.rdT r e;exact DL.rep_tup.mpr ⟨a,xs,z,s,joz t p⟩) u
def Rps.rep(h:R mg J A H)(q:Rps W A ds xs)(p:Paired (RV J) ds us):DL.Reps (J[·]?) K H xs us:=joz (Paired.mapP q.pd λy y z y=>z.rep h) p
def R.same(h:R mg J A H)(e:Same H H'):R mg J A H':=⟨h.len,h.nd,λi a o e1 e2=>by
 have z:=h.ats i a o e1 e2;refine z.mono (pr _) ?_
 cases q:H a with
 |none=>exact absurd q z.some
 |some u=>exact e a u q⟩
open Classical in
def rf(A:Sto)(d:D):Option DL.D:=if h:∃x,Rp [] A d x then some (choose h)else none
open Classical in
def rfs(A:Sto)(d:List D):Option (List DL.D):=if h:∃x,Rps [] A d x then some (choose h)else none
def jhu(h:Rp W A d x):rf A d=some x:=by
 have h0:=h.up (λy y y z=>z) λy z=>absurd z aK
 have:∃x,Rp [] A d x:=⟨x,h0⟩
 unfold rf;rw[dif_pos this,(dC this).det h0]
def jLn(h:Rps W A d x):rfs A d=some x:=by
 have h0:=h.up (λy y y z=>z) λy z=>absurd z aK
 have:∃x,Rps [] A d x:=⟨x,h0⟩
 unfold rfs;rw[dif_pos this,(dC this).det h0]
def jh7(h:rf A d=some x):Rp [] A d x:=by
 unfold rf at h
 split at h<;>grind
def jFu(h:rfs A d=some x):Rps [] A d x:=by
 unfold rfs at h
 split at h<;>grind
noncomputable def un:DL.D->Option D
|.non=>some .non
|.bl b=>some (.bl b)
|.int i=>some (.int i)
|.str x=>some (.str x)
|_=>none
def lO(g:DL.D->DL.D->Option DL.D):D->D->MS D:=λa b A=>(rf A a).bind λx=>(rf A b).bind λy=>((g x y).bind un).map λd=>(.ok d,A)
def lU(g:DL.D->Option DL.D):D->MS D:=λa A=>(rf A a).bind λx=>((g x).bind un).map λd=>(.ok d,A)
def lC(g:List DL.D->Option DL.D):List D->MS D:=λa A=>(rfs A a).bind λx=>((g x).bind un).map λd=>(.ok d,A)
section
variable {mg:qc}{J:Rho}{A:Sto}{H H':Hp}{K:Af}{Er:Err}{Q:VK}
def un_k(h:R mg J A H)(e:un v=some d)(k:kS RV mg Er J Q (.ok d,A)):∀w H',Same H H'->DL.Rep (J[·]?) K (DL.hid H' λz=>false) v w->Q w H':=by intro w H' s r;refine k w J H' (pr _) (h.same s) ?_;cases v<;>cases e<;>exact r
def jfj(hg:DL.OpD K g r):OpS mg (lO g) r:=by
 intro x y A q J H u v Er Q hf hR r1 r2 k;refine ob hf λa e1 hf=>?_
 refine ob hf λb e2 hf=>?_
 obtain⟨d,e3,rfl⟩:=aB.mp hf;refine ob e3 λw e3 e4=>?_
 exact hg _ _ _ e3 _ H _ u v Q (λz z=>rfl) ((jh7 e1).rep hR r1) ((jh7 e2).rep hR r2) (un_k hR e4 k)
def jue(hg:DL.CaD K g r):CaS mg (lC g) r:=by intro xs A q J H us Er Q hf hR r1 k;obtain⟨a,e1,hf⟩:=aG.mp hf;obtain⟨d,e3,rfl⟩:=aB.mp hf;obtain⟨w,e3,e4⟩:=aG.mp e3;exact hg _ _ e3 _ H _ us Q (λz z=>rfl) ((jFu e1).rep hR r1) (un_k hR e4 k)
end
section
variable {Er:Err}{a:Expr}{fa:DSt->MS D}{mg:qc}
def s1(g:D->MS D)(fa:DSt->MS D):DSt->MS D:=λY=>(fa Y).b g
def UnS(mg:qc)(g:D->MS D)(r:V->Hp->VK->Prop):Prop:=∀{x A q J H u Er Q},g x A=some q->R mg J A H->RV J x u->kS RV mg Er J Q q->r u H Q
def jOz(hg:DL.UnD K g r):UnS mg (lU g) r:=by intro x A q J H u Er Q hf hR r1 k;obtain⟨a,e1,hf⟩:=aG.mp hf;obtain⟨d,e3,rfl⟩:=aB.mp hf;obtain⟨w,e3,e4⟩:=aG.mp e3;exact hg _ _ e3 _ H _ u Q (λz z=>rfl) ((jh7 e1).rep hR r1) (un_k hR e4 k)
end
abbrev PD:=DL.D
abbrev PSt:=DL.DSt
abbrev PM:=DL.M
noncomputable def oix:Option (Option D)->Option Nat
|some (some (.obj j))=>some j
|_=>none
def ownI(F:Aa)(Y:DSt)(O:Aa):Aa:=F++O.filterMap λi=>oix Y[i]?
def mem_own:j∈ownI F Y O↔j∈F\/∃i∈O,Y[i]?=some (some (.obj j)):=by
 unfold ownI;rw[zdy,dA];constructor
 .rintro (h|⟨i,hi,e⟩)
  .exact .inl h
  refine .inr ⟨i,hi,?_⟩;unfold oix at e;grind
 .rintro (h|⟨i,hi,e⟩)
  .exact .inl h
  exact .inr ⟨i,hi,by rw[e];rfl⟩
structure Sr(F:Aa)(n:Nat)(O:Aa)(Y:DSt)(p:PSt)(A:Sto):Prop where
 len:Y.length=n/\p.length=n
 fin:∀j∈F,j<A.length
 val:∀(i:Nat) x,p[i]?=some (some x)->i∉O->∃d,Y[i]?=some (some d)/\Rp (ownI F Y O) A d x
 own:∀i∈O,∃j ds xs,Y[i]?=some (some (.obj j))/\p[i]?=some (some (.lst xs))/\A[j]?=some (.lst ds)/\j∉F/\Rps (ownI F Y O) A ds xs
 nd:∀i∈O,∀k∈O,∀j,Y[i]?=some (some (.obj j))->Y[k]?=some (some (.obj j))->i=k
def jm0(l:A<+:A'):Kp W A A':=λi o z e=>by
 obtain⟨t,rfl⟩:=l;grind
def jaf{i:Nat}{o:SO}(l:A<+:A')(e:A[i]?=some o):A'[i]?=some o:=jm0 l i o aK e
def Rp.grow(h:Rp W A d x)(l:A<+:A'):Rp W A' d x:=h.up (jm0 l) λy z=>z
def Rps.grow(h:Rps W A d x)(l:A<+:A'):Rps W A' d x:=h.up (jm0 l) λy z=>z
def Rp.le(h:Rp W A d x)(w:∀i∈W',i∈W):Rp W' A d x:=h.up (λy y y z=>z) w
def Rps.le(h:Rps W A d x)(w:∀i∈W',i∈W):Rps W' A d x:=h.up (λy y y z=>z) w
structure Nw(W:Aa)(A:Sto)(W':Aa)(A':Sto):Prop where
 k:Kp W A A'
 l:A.length<=A'.length
 w:∀j∈W',j∈W\/A.length<=j
def Nw.no(h:Nw W A W' A')(hi:i∉W)(e:A[i]?=some o):i∉W':=λz=>(h.w i z).elim hi λy=>bH _ (zcx (zbb.mp e).1 y)
def Nw.nb{ds:List D}(h:Nw W A W' A')(hi:i∉W)(e:A[i]?.bind g=some ds):i∉W':=let ⟨o,e1,_⟩:=aG.mp e;h.no hi e1
def Nw.trans(h:Nw W A W1 A1)(h':Nw W1 A1 W2 A2):Nw W A W2 A2:=⟨λi o hi e=>h'.k i o (h.no hi e) (h.k i o hi e),zdz h.l h'.l,λj hj=>(h'.w j hj).elim (h.w j) λz=>.inr (zdz h.l z)⟩
def Nw.pre(l:A<+:A'):Nw W A W A':=⟨jm0 l,l.length_le,λz=>.inl⟩
def Rp.to(h:Nw W A W' A'):Rp W A d x->Rp W' A' d x:=.mp h.nb h.k.bd h.k.bd (h.k _ _)
def Rps.to(h:Nw W A W' A'):Rps W A d x->Rps W' A' d x:=.mp (.to h)
def Sr.grow(s:Sr F n O Y p A)(l:A<+:A'):Sr F n O Y p A' :=
 ⟨s.len,λj h=>zcx (s.fin j h) l.length_le,λi x e h=>(s.val i x e h).imp λy z=>⟨z.1,z.2.grow l⟩,
  λi h=>by obtain⟨j,ds,xs,e1,e2,e3,e4,r⟩:=s.own i h;exact⟨j,ds,xs,e1,e2,jaf l e3,e4,r.grow l⟩,s.nd⟩
def jnc(h:∀i∈O',i∈O):∀j∈ownI F Y O',j∈ownI F Y O:=λj hj=>mem_own.mpr ((mem_own.mp hj).imp id λ⟨i,hi,e⟩=>⟨i,h i hi,e⟩)
def Sr.thaw(s:Sr F n O Y p A)(h:∀i∈O',i∈O):Sr F n O' Y p A:=by
 refine⟨s.len,s.fin,λi x e ho=>?_,λi hi=>by obtain⟨j,ds,xs,e1,e2,e3,e4,r⟩:=s.own i (h i hi);exact⟨j,ds,xs,e1,e2,e3,e4,r.le (jnc h)⟩,λi hi k hk=>s.nd i (h i hi) k (h k hk)⟩
 by_cases hO:i∈O
 .obtain⟨j,ds,xs,e1,e2,e3,e4,r⟩:=s.own i hO;rw[e]at e2;cases e2
  refine⟨_,e1,.lst (λz=>?_) (by rw[e3];rfl) (r.le (jnc h)) (.inr ⟨_,e3⟩)⟩;rcases mem_own.mp z with z|⟨k,hk,e5⟩
  .exact e4 z
  .exact ho (s.nd i hO k (h k hk) j e1 e5 ▸ hk)
 .obtain⟨d,e1,r⟩:=s.val i x e hO;exact⟨d,e1,r.le (jnc h)⟩
theorem jgq(h:i∉O):ownI F (Y.set i v) O=ownI F Y O:=by
 refine congrArg (F++·) ?_
 induction O<;>grind
def Sr.set(s:Sr F n O Y p A)(ho:i∉O)(r:Rp (ownI F Y O) A d x):Sr F n O (Y.set i (some d)) (p.set i (some x)) A:=by
 have ne:∀k∈O,i≠k:=λk hk z=>ho (z ▸ hk)
 refine⟨by simp[s.len],s.fin,λk y e hk=>?_,λk hk=>?_,λk hk l hl j=>?_⟩
 .rw[jgq ho]
  by_cases z:i=k
  .subst z;have hl:=by have:=(zbb.mp e).1;simpa using this
   rw[zcz hl]at e;cases e
   exact⟨d,zcz (by rw[s.len.1,<- s.len.2];exact hl),r⟩
  .rw[zbw z]at e |-;exact s.val k y e hk
 .rw[jgq ho,zbw (ne k hk),zbw (ne k hk)];exact s.own k hk
 .rw[zbw (ne k hk),zbw (ne l hl)];exact s.nd k hk l hl j
def Sr.take(s:Sr F n O Y p A)(l:A<+:A')(ho:i∉O)(hi:i<n)(hj:A.length<=j)(e:A'[j]?=some (.lst ds))(r:Rps (j::ownI F Y O) A' ds xs):Sr F n (i::O) (Y.set i (some (.obj j))) (p.set i (some (.lst xs))) A'/\∀q∈ownI F (Y.set i (some (.obj j))) (i::O),q∈j::ownI F Y O:=by
 have ne:∀k∈O,i≠k:=λk hk z=>ho (z ▸ hk)
 have hl:=s.len.1 ▸ hi;have nj:∀k∈O,∀q,Y[k]?=some (some (.obj q))->q≠j:=λk hk q e1 z=>by
  obtain⟨j',ds',xs',f1,_,f3,_⟩:=s.own k hk
  clear e hl s;grind
 have w:∀q∈ownI F (Y.set i (some (.obj j))) _,q∈j::ownI F Y O:=λq h=>by
  rcases mem_own.mp h with h|⟨k,hk,e1⟩
  .exact zaw _ (mem_own.mpr (.inl h))
  rcases aM.mp hk with rfl|hk
  .rw[zcz hl]at e1;simp_all
  .rw[zbw (ne k hk)]at e1;exact zaw _ (mem_own.mpr (.inr ⟨k,hk,e1⟩))
 have N:Nw _ A _ A':=⟨jm0 l,l.length_le,λq h=>by
  rcases aM.mp (w q h)with rfl|h
  .exact .inr hj
  .exact .inl h⟩
 refine⟨⟨by simp[s.len],λq h=>zcx (s.fin q h) l.length_le,λk y e1 hk=>?_,λk hk=>?_,λk hk m hm q e1 e2=>?_⟩,w⟩
 .have z:i≠k:=λz=>hk (z ▸ zaa)
  rw[zbw z]at e1 |-
  obtain⟨d,e2,r2⟩:=s.val k y e1 λz=>hk (zaw _ z)
  exact⟨d,e2,r2.to N⟩
 .rcases aM.mp hk with rfl|hk
  .exact⟨j,ds,xs,zcz hl,zcz (s.len.2 ▸ hi),e,λz=>bH _ (zcx (s.fin j z) hj),r.le w⟩
  .obtain⟨j',ds',xs',f1,f2,f3,f4,f5⟩:=s.own k hk;rw[zbw (ne k hk),zbw (ne k hk)];exact⟨j',ds',xs',f1,f2,jaf l f3,f4,f5.to N⟩
 .rcases aM.mp hk with rfl|hk'<;>rcases aM.mp hm with hm'|hm'
  .simp_all
  .clear hm';clear e;grind
  .clear r hk;grind
  .rw[zbw (ne k hk')]at e1;rw[zbw (ne m hm')]at e2;exact s.nd k hk' m hm' q e1 e2
def Sr.lt(s:Sr F n O Y p A):∀j∈ownI F Y O,j<A.length:=λj h=>by
 rcases mem_own.mp h with h|⟨i,hi,e⟩
 .exact s.fin j h
 .obtain⟨_,_,_,e1,_,e3,_⟩:=s.own i hi
  grind
def Sr.write(s:Sr F n O Y p A)(hi:i∈O)(e:Y[i]?=some (some (.obj j)))(r:Rps (ownI F Y O) A ds xs):Sr F n O Y (p.set i (some (.lst xs))) (A.set j (.lst ds)):=by
 have k:Kp (ownI F Y O) A (A.set j (.lst ds)):=λq o h1 h2=>by rw[zbw (show j≠q fromλz=>h1 (z ▸ (mem_own.mpr (.inr ⟨i,hi,e⟩))))];exact h2
 obtain⟨j',ds',xs',f1,f2,f3,f4,f5⟩:=s.own i hi;rw[e]at f1;cases f1
 refine⟨by simp[s.len],by simpa using s.fin,λk' y e1 hk=>?_,λm hm=>?_,s.nd⟩
 .rw[zbw (show i≠k' fromλz=>hk (z ▸ hi))]at e1;obtain⟨d,e2,r2⟩:=s.val k' y e1 hk;exact⟨d,e2,r2.up k λw z=>z⟩
 .by_cases z:i=m
  .subst z;exact⟨j,ds,xs,e,zcz (zbb.mp f2).1,zcz (zbb.mp f3).1,f4,r.up k λw z=>z⟩
  .obtain⟨q,ds2,xs2,g1,g2,g3,g4,g5⟩:=s.own m hm;refine⟨q,ds2,xs2,g1,by simp_all,?_,g4,g5.up k λw z=>z⟩;rw[zbw (show j≠q fromλy=>z (s.nd i hi m hm j e (y ▸ g1)))];exact g3
def Rx(A:Sto)(d:D)(x:DL.XD):Prop:=∃i j,d=.obj i/\A[i]?=some (.exc x.cls j false)/\match j with
 |none=>x.fs=[]
 |some j=>∃fs,A[j]?=some (.xd fs)/\Paired (λ(p:Str×D) q=>p.1=q.1/\Rp [] A p.2 q.2) fs x.fs
inductive Rr{α β:Type}(Rel:Aa->Sto->α->β->Prop)(W:Aa)(A:Sto):Except D α->Except DL.XD β->Prop
| ok {a b} (h:Rel W A a b):Rr Rel W A (.ok a) (.ok b)
| er {d x} (h:Rx A d x):Rr Rel W A (.error d) (.error x)
inductive tQ{α β:Type}(Rel:Aa->Sto->α->β->Prop)(W:Aa)(m:MS α)(A:Sto)(r:Except DL.XD β):Prop
| mk (q:Except D α) (A':Sto) (e:m A=some (q,A')) (l:A<+:A') (h:Rr Rel W A' q r)
def Sm{α β:Type}(Rel:Aa->Sto->α->β->Prop)(n:Nat)(O:Aa)(g:DSt->MS α)(f:PSt->PM β):Prop:=∀{F Y p A r},Sr F n O Y p A->f p=some r->tQ Rel (ownI F Y O) (g Y) A r
abbrev ReE:Aa->Sto->D->PD->Prop:=Rp
abbrev ReA:Aa->Sto->List D->List PD->Prop:=Rps
def ReT{α:Type}:Aa->Sto->α->α->Prop:=λz z a b=>a=b
section
variable {α β γ ε:Type}{Rel:Aa->Sto->α->β->Prop}{Re':Aa->Sto->γ->ε->Prop}{n:Nat}{F O W:Aa}{Y:DSt}{p:PSt}{A:Sto}{fo:DSt->MS α}{fp:PSt->PM β}{ga:α->MS γ}{gp:β->PM ε}{r:Except DL.XD ε}
def tQ.it{a:α}{b:β}(h:Rel W A a b):tQ Rel W (MS.p a) A (.ok b):=⟨_,_,rfl,aF _,.ok h⟩
def smb(h:Sm Rel n O fo fp)(s:Sr F n O Y p A)(e:(fp p).b gp=some r)(c:∀a b A1,Sr F n O Y p A1->A<+:A1->Rel (ownI F Y O) A1 a b->gp b=some r->tQ Re' W (ga a) A1 r):tQ Re' W ((fo Y).b ga) A r:=by
 rcases DL.M.b_inv e with ⟨b,e1,e2⟩|⟨x,e1,rfl⟩
 .obtain⟨q,A1,e3,l1,h1⟩:=h s e1;cases h1 with|ok h1 =>
  obtain⟨q2,A2,e4,l2,h2⟩:=c _ _ _ (s.grow l1) l1 h1 e2;exact⟨q2,A2,by grind[MS.b],l1.trans l2,h2⟩
 .obtain⟨q,A1,e3,l1,h1⟩:=h s e1;cases h1 with|er h1=>exact⟨_,A1,by grind[MS.b],l1,.er h1⟩
end
section
variable {n:Nat}{O O':Aa}{i:Nat}{d:D}{x:PD}{fa fb:DSt->MS D}{pa pb:PSt->PM PD}{fl:DSt->MS (List D)}{pl:PSt->PM (List PD)}{ta tb:DSt->MS Bool}{qa qb:PSt->PM Bool}
abbrev SmE:=Sm ReE
abbrev SmA:=Sm ReA
abbrev SmT:=Sm (ReT (α:=Bool))
def jdi(h:O.contains i=false):SmE n O (sVar i) (DL.vR i):=by
 intro F Y p A r s e;obtain⟨x,e1,rfl⟩:=DL.M.o_inv e;obtain⟨d,e2,r2⟩:=s.val i x (by grind) λz=>by simp_all
 exact⟨_,A,by simp_all [sVar,MS.o],aF _,.ok r2⟩
def sm_c(h:∀W A,Rp W A d x):SmE n O (sC d) (DL.fC x):=by intro F Y p A r s e;cases e;exact tQ.it (h _ _)
def jfu:SmA n O sNil DL.fNil:=by intro F Y p A r s e;cases e;exact tQ.it .nil
def jb6(ha:SmE n O fa pa)(hl:SmA n O fl pl):SmA n O (jar fa fl) (DL.fCons pa pl):=by
 intro F Y p A r s e;refine smb ha s e λa b A1 s l r1 e=>smb hl s e λa b A1 s l r2 e=>?_
 cases e;exact tQ.it (.cons (r1.grow l) r2)
def OpM(gs:D->D->MS D)(g:PD->PD->Option PD):Prop:=∀{x y v W A a b},g x y=some v->(∀j∈W,j<A.length)->Rp W A a x->Rp W A b y->tQ ReE W (gs a b) A (.ok v)
def UnM(gs:D->MS D)(g:PD->Option PD):Prop:=∀{x v W A a},g x=some v->(∀j∈W,j<A.length)->Rp W A a x->tQ ReE W (gs a) A (.ok v)
def CaM(gs:List D->MS D)(g:List PD->Option PD):Prop:=∀{x v W A a},g x=some v->(∀j∈W,j<A.length)->Rps W A a x->tQ ReE W (gs a) A (.ok v)
def sm_2(h:OpM gs g)(ha:SmE n O fa pa)(hb:SmE n O fb pb):SmE n O (s2 gs fa fb) (DL.f2 g pa pb):=by
 intro F Y p A r s e;refine smb ha s e λa b A1 s l r1 e=>smb hb s e λa b A1 s l r2 e=>?_
 obtain⟨v,e1,rfl⟩:=DL.M.o_inv e;exact h e1 s.lt (r1.grow l) r2
def sm_1(h:UnM gs g)(ha:SmE n O fa pa):SmE n O (s1 gs fa) (DL.f1 g pa):=by
 intro F Y p A r s e;refine smb ha s e λa b A1 s l r1 e=>?_
 obtain⟨v,e1,rfl⟩:=DL.M.o_inv e;exact h e1 s.lt r1
def sm_l(h:CaM gs g)(ha:SmA n O fl pl):SmE n O (sL gs fl) (DL.fL g pl):=by
 intro F Y p A r s e;refine smb ha s e λa b A1 s l r1 e=>?_
 obtain⟨v,e1,rfl⟩:=DL.M.o_inv e;exact h e1 s.lt r1
def jAn(h:un v=some d):Rp W A d v:=by cases v<;>cases h<;>constructor
def jd9(h:∀x y v,g x y=some v->(un v).isSome):OpM (lO g) g:=by intro x y v W A a b e _ r1 r2;obtain⟨d,e1⟩:=bF.mp (h _ _ _ e);exact⟨_,A,by unfold lO;rw[jhu r1,jhu r2];simp[e,e1],aF _,.ok (jAn e1)⟩
def jNo(h:∀x v,g x=some v->(un v).isSome):UnM (lU g) g:=by intro x v W A a e _ r1;obtain⟨d,e1⟩:=bF.mp (h _ _ e);exact⟨_,A,by unfold lU;rw[jhu r1];simp[e,e1],aF _,.ok (jAn e1)⟩
def jrm(h:∀x v,g x=some v->(un v).isSome):CaM (lC g) g:=by intro x v W A a e _ r1;obtain⟨d,e1⟩:=bF.mp (h _ _ e);exact⟨_,A,by unfold lC;rw[jLn r1];simp[e,e1],aF _,.ok (jAn e1)⟩
def jMg(ha:SmT n O ta qa):SmT n O (sNot ta) (DL.tNot qa):=by
 intro F Y p A r s e;refine smb ha s e λa b A1 s l r1 e=>?_
 cases e;cases r1
 exact tQ.it rfl
def jMd(ha:SmT n O ta qa)(hb:SmT n O tb qb):SmT n O (sAnd ta tb) (DL.tAnd qa qb):=by
 intro F Y p A r s e;refine smb ha s e λa b A1 s l r1 e=>?_
 cases r1;cases a
 .cases e;exact tQ.it rfl
 .exact hb s e
def jQd(ha:SmT n O ta qa)(hb:SmT n O tb qb):SmT n O (sOr ta tb) (DL.tOr qa qb):=by
 intro F Y p A r s e;refine smb ha s e λa b A1 s l r1 e=>?_
 cases r1;cases a
 .exact hb s e
 .cases e;exact tQ.it rfl
def jMe(ht:SmT n O ta qa)(ha:SmE n O fa pa)(hb:SmE n O fb pb):SmE n O (sIf ta fa fb) (DL.fIf qa pa pb):=by
 intro F Y p A r s e;refine smb ht s e λa b A1 s l r1 e=>?_
 cases r1;cases a
 .exact hb s e
 .exact ha s e
def jz0(h:∀i∈O',i∈O)(ha:SmT n O' ta qa):SmT n O ta qa:=by intro F Y p A r s e;obtain⟨q,A1,e1,l,z⟩:=ha (s.thaw h) e;exact⟨q,A1,e1,l,by cases z with|ok h=>exact .ok h|er h=>exact .er h⟩
end
section
variable {X:Cx}
def oNx:DSt->MS Out:=λY=>MS.p (.nx Y)
def jct(fa:DSt->MS D):DSt->MS Out:=λY=>(fa Y).b λz=>MS.p (.nx Y)
def jG2:SSs X Er [] oNx:=by rintro U s Z H Dn I ⟨J,Y,A,h,l,q,hg,k⟩;cases hg;exact jFk _ s Z H Dn I (k _ _ _ (pr _) h l)
def jpd(he:SE X Er e fa)(hs:swapsWith e none pos.line X.env=pure false):SS X Er (.Expr e pos) (jct fa):=by
 refine sgO (jFg he hs) λh l q hg k=>bO h l hg k λd A1 hg v ρ1 H1 h l r k z=>?_
 cases hg;exact k _ _ _ (pr _) h l
def jj0(h:SS X Er st g):SSs X Er [st] g:=jvk h
end
open Classical in
def lim(f:Nat->MS α):MS α:=λA=>if h:∃q n,f n A=some q then some h.choose else none
def juf(h:lim f A=some q):∃n,f n A=some q:=by
 unfold lim at h
 split at h<;>grind
def jkq{n:Nat}(u:∀n q,f n A=some q->f (n+1) A=some q)(h:f n A=some q):lim f A=some q:=by
 have up:∀k n q,f n A=some q->f (n+k) A=some q:=λk=>by induction k<;>grind
 have z:∃q n,f n A=some q:=⟨q,n,h⟩
 unfold lim;rw[dif_pos z];obtain⟨m,e⟩:=z.choose_spec;have e1:=up n m _ e;rw[eA,up m n _ h]at e1;exact e1.symm
def jEa{m:MS β}{F:β->Nat->MS α}(h:(m.b λt=>lim (F t)) A=some q):∃n,(m.b λt=>F t n) A=some q:=by
 rcases MS.b_inv h with ⟨a,A1,e1,e2⟩|⟨x,A1,e1,rfl⟩
 .simp_all [juf,MS.b]
 simp_all [MS.b]
def jgx{m:MS β}(h:m.b g A=some q)(u:∀a A1 q,g a A1=some q->g' a A1=some q):m.b g' A=some q:=by
 rcases MS.b_inv h with ⟨a,A1,e1,e2⟩|⟨x,A1,e1,rfl⟩
 .grind[MS.b]
 grind[MS.b]
section
variable {X:Cx}{Er:Err}{e tg iter:Expr}{pos:Pos}{t:Itr}{g:Tg}{gb:DSt->MS Out}{tc:DSt->MS Bool}{fi:DSt->MS Itr}{body:List Stmt}
theorem jg1:∀{n j Y A q},forS t g gb n j Y A=some q->forS t g gb (n+1) j Y A=some q
|0,_,_,_,_,h=>by cases h
|n+1,j,Y,A,q,h=>by
  refine jgx h λo A1 q h=>?_
  cases o with
  |none=>exact h
  |some d=>
   dsimp only at h |-
   split at h
   .cases h
   .refine jgx h λo A1 q h=>?_
    cases o with
    |nx _=>exact jg1 h
    |ct _=>exact jg1 h
    |_=>exact h
theorem jpg:∀{n Y A q},whS tc gb n Y A=some q->whS tc gb (n+1) Y A=some q
|0,_,_,_,h=>by cases h
|n+1,Y,A,q,h=>by
  refine jgx h λc A1 q h=>?_
  cases c with
  |false=>exact h
  |true=>
   refine jgx h λo A1 q h=>?_
   cases o with
   |nx _=>exact jpg h
   |ct _=>exact jpg h
   |_=>exact h
def jka(fi:DSt->MS Itr)(g:Tg)(body:DSt->MS Out):DSt->MS Out:=λY=>(fi Y).b λt=>lim λn=>forS t g body n 0 Y
def jGx(hp:PassesOwn (model X.prog X.w) X.A X.env X.xe)(hc:X.calm=true)(hi:SW X Er tg iter fi)(hg:SG X tg g)(hb:SSs X Er body gb)(hs:Ao X iter):SS X Er (.For tg iter body [] pos) (jka fi g gb):=by rintro U s Z H Dn I ⟨J,Y,A,h,l,q,hf,k⟩;obtain⟨n,e⟩:=jEa hf;exact jMr hp hc hi hg hb hs _ s Z H Dn I ⟨J,Y,A,h,l,q,e,k⟩
def juz(tc:DSt->MS Bool)(body:DSt->MS Out):DSt->MS Out:=λY=>lim λn=>whS tc body n Y
def jwg(hp:PassesOwn (model X.prog X.w) X.A X.env X.xe)(hc:ST X Er e tc)(hb:SSs X Er body gb):SS X Er (.While e body [] pos) (juz tc gb):=by rintro U s Z H Dn I ⟨J,Y,A,h,l,q,hf,k⟩;obtain⟨n,e⟩:=juf hf;exact jAc hp hc hb _ s Z H Dn I ⟨J,Y,A,h,l,q,e,k⟩
end
structure Nf(F W:Aa)(A:Sto)(W':Aa)(A':Sto):Prop extends Nw W A W' A' where
 f:∀i∈F,A'[i]?=A[i]?
def Nf.trans(h:Nf F W A W1 A1)(h':Nf F W1 A1 W2 A2):Nf F W A W2 A2:=⟨h.toNw.trans h'.toNw,λi hi=>(h'.f i hi).trans (h.f i hi)⟩
def Nf.pre(l:A<+:A')(h:∀j∈F,j<A.length):Nf F W A W A':=⟨Nw.pre l,λi hi=>by
 obtain⟨t,rfl⟩:=l
 grind⟩
def Nf.no(h:∀j∈W',j∈W):Nf F W A W' A:=⟨⟨λy y y z=>z,zac _,λj hj=>.inl (h j hj)⟩,λy y=>rfl⟩
inductive RO(F:Aa)(n:Nat)(O' B W:Aa)(A A':Sto):Except D Out->Except DL.XD DL.Out->Prop
| nx {Y p} (s:Sr F n O' Y p A') (w:Nf F W A (ownI F Y O') A'):RO F n O' B W A A' (.ok (.nx Y)) (.ok (.nx p))
| bk {Y p} (s:Sr F n B Y p A') (w:Nf F W A (ownI F Y B) A'):RO F n O' B W A A' (.ok (.bk Y)) (.ok (.bk p))
| ct {Y p} (s:Sr F n B Y p A') (w:Nf F W A (ownI F Y B) A'):RO F n O' B W A A' (.ok (.ct Y)) (.ok (.ct p))
| rt {d x} (h:Rp F A' d x) (w:Nf F W A F A'):RO F n O' B W A A' (.ok (.rt d)) (.ok (.rt x))
| er {d x} (h:Rx A' d x) (w:Nf F W A F A'):RO F n O' B W A A' (.error d) (.error x)
inductive tR(F:Aa)(n:Nat)(O' B W:Aa)(m:MS Out)(A:Sto)(r:Except DL.XD DL.Out):Prop
| mk (q:Except D Out) (A':Sto) (e:m A=some (q,A')) (h:RO F n O' B W A A' q r)
def SmS(n:Nat)(O O' B:Aa)(g:DSt->MS Out)(f:PSt->PM DL.Out):Prop:=∀{F Y p A r},Sr F n O Y p A->f p=some r->tR F n O' B (ownI F Y O) (g Y) A r
section
variable {α β:Type}{Rel:Aa->Sto->α->β->Prop}{n:Nat}{F O O' B W W1:Aa}{Y:DSt}{p:PSt}{A A1 A':Sto}{fo:DSt->MS α}{fp:PSt->PM β}{ga:α->MS Out}{gp:β->PM DL.Out}{r:Except DL.XD DL.Out}{q:Except D Out}
def RO.pre(h:RO F n O' B W1 A1 A' q r)(w:Nf F W A W1 A1):RO F n O' B W A A' q r:=by
 cases h with
 |nx s z=>exact .nx s (w.trans z)
 |bk s z=>exact .bk s (w.trans z)
 |ct s z=>exact .ct s (w.trans z)
 |rt s z=>exact .rt s (w.trans z)
 |er s z=>exact .er s (w.trans z)
def Nf.bot(h:∀j∈F,j∈W)(w:Nf G W1 A W A'):Nf G W1 A F A':=⟨⟨w.k,w.l,λj hj=>w.w j (h j hj)⟩,w.f⟩
def jyx:∀j∈F,j∈ownI F Y O:=λj h=>ge _ h
def smbS(h:Sm Rel n O fo fp)(s:Sr F n O Y p A)(e:(fp p).b gp=some r)(c:∀a b A1,Sr F n O Y p A1->A<+:A1->Rel (ownI F Y O) A1 a b->gp b=some r->tR F n O' B (ownI F Y O) (ga a) A1 r):tR F n O' B (ownI F Y O) ((fo Y).b ga) A r:=by
 rcases DL.M.b_inv e with ⟨b,e1,e2⟩|⟨x,e1,rfl⟩
 .obtain⟨q,A1,e3,l1,h1⟩:=h s e1;cases h1 with|ok h1 =>
  obtain⟨q2,A2,e4,h2⟩:=c _ _ _ (s.grow l1) l1 h1 e2;exact⟨q2,A2,by grind[MS.b],h2.pre (Nf.pre l1 s.fin)⟩
 .obtain⟨q,A1,e3,l1,h1⟩:=h s e1;cases h1 with|er h1=>exact⟨_,A1,by grind[MS.b],.er h1 ((Nf.pre l1 s.fin).bot jyx)⟩
def tR.it(s:Sr F n O' Y p A)(w:∀j∈ownI F Y O',j∈W):tR F n O' B W (MS.p (.nx Y)) A (.ok (.nx p)):=⟨_,A,rfl,.nx s (Nf.no w)⟩
end
section
variable {n i:Nat}{F O O' O1 B:Aa}{fa:DSt->MS D}{pa:PSt->PM PD}{ta:DSt->MS Bool}{qa:PSt->PM Bool}{g1 g2:DSt->MS Out}{f1 f2:PSt->PM DL.Out}
def jMm:SmS n O O B oNx DL.gNx:=by intro F Y p A r s e;cases e;exact .it s λy z=>z
def jjy:SmS n O O' B g1 DL.gNever:=by intro F Y p A r s e;cases e
def jwc(h:O.contains i=false)(ha:SmE n O fa pa):SmS n O O B (oSet i fa) (DL.gSet i pa):=by
 intro F Y p A r s e;refine smbS ha s e λa b A1 s l r1 e=>?_
 cases e;have ho:i∉O:=λz=>by grind
 exact .it (s.set ho r1) λj z=>by grind[jgq]
def jpa(ha:SmE n [] fa pa):SmS n O O' B (oRet fa) (DL.gRet pa):=by
 intro F Y p A r s e;have s0:=s.thaw λy z=>absurd z aK
 have e0:ownI F Y []=F:=aO F;rcases DL.M.b_inv e with ⟨b,e1,e2⟩|⟨x,e1,rfl⟩
 .cases e2;obtain⟨q,A1,e3,l1,h1⟩:=ha s0 e1;cases h1 with|ok h1=>exact⟨_,A1,by unfold oRet MS.b;rw[e3];rfl,.rt (e0 ▸ h1) ((Nf.pre l1 s.fin).bot jyx)⟩
 .obtain⟨q,A1,e3,l1,h1⟩:=ha s0 e1;cases h1 with|er h1=>exact⟨_,A1,by unfold oRet MS.b;rw[e3],.er h1 ((Nf.pre l1 s.fin).bot jyx)⟩
def jz2(ha:SmE n O fa pa):SmS n O O B (jct fa) (DL.gDrop pa):=by
 intro F Y p A r s e;refine smbS ha s e λa b A1 s l r1 e=>?_
 cases e;exact .it s λy z=>z
def jBy(ht:SmT n O ta qa)(h1:SmS n O O' B g1 f1)(h2:SmS n O O' B g2 f2):SmS n O O' B (oIf ta g1 g2) (DL.gIf qa f1 f2):=by
 intro F Y p A r s e;refine smbS ht s e λa b A1 s l r1 e=>?_
 cases r1;cases a
 .exact h2 s e
 .exact h1 s e
def jGs(h1:SmS n O O1 B g1 f1)(h2:SmS n O1 O' B g2 f2):SmS n O O' B (oSeq g1 g2) (DL.gSeq f1 f2):=by
 intro F Y p A r s e;rcases DL.M.b_inv e with ⟨b,e1,e2⟩|⟨x,e1,rfl⟩
 .obtain⟨q,A1,e3,z⟩:=h1 s e1
  cases z with
  |nx s1 w=>obtain⟨q2,A2,e4,z2⟩:=h2 s1 e2;exact⟨q2,A2,by simp_all [oSeq,MS.b],z2.pre w⟩
  |bk s1 w=>cases e2;exact⟨_,A1,by unfold oSeq MS.b;rw[e3];rfl,.bk s1 w⟩
  |ct s1 w=>cases e2;exact⟨_,A1,by unfold oSeq MS.b;rw[e3];rfl,.ct s1 w⟩
  |rt s1 w=>cases e2;exact⟨_,A1,by unfold oSeq MS.b;rw[e3];rfl,.rt s1 w⟩
 .obtain⟨q,A1,e3,z⟩:=h1 s e1;cases z with|er s1 w=>exact⟨_,A1,by unfold oSeq MS.b;rw[e3],.er s1 w⟩
def jq7(h:∀i∈O1,i∈O)(h1:SmS n O1 O' B g1 f1):SmS n O O' B g1 f1:=by intro F Y p A r s e;obtain⟨q,A1,e3,z⟩:=h1 (s.thaw h) e;exact⟨q,A1,e3,z.pre (Nf.no (jnc h))⟩
def jq6(h:∀i∈O',i∈O1)(h1:SmS n O O1 B g1 f1):SmS n O O' B g1 f1:=by
 intro F Y p A r s e;obtain⟨q,A1,e3,z⟩:=h1 s e;refine⟨q,A1,e3,?_⟩
 cases z with
 |nx s w=>exact .nx (s.thaw h) (w.bot (jnc h))
 |bk s w=>exact .bk s w
 |ct s w=>exact .ct s w
 |rt s w=>exact .rt s w
 |er s w=>exact .er s w
def ReI:Aa->Sto->Itr->List PD->Prop:=λW A t xs=>∀W' A1,Nw W A W' A1->(∀j∈W',j<A1.length)->∀j,match xs[j]? with
 |some x=>∃d A2,t j A1=some (.ok (some d),A2)/\A1<+:A2/\Rp W' A2 d x
 |none=>j=xs.length->t j A1=some (.ok none,A1)
def SmG(n:Nat)(O:Aa)(g:Tg)(f:PD->PSt->Option PSt):Prop:=∀{F Y p A d x p'},Sr F n O Y p A->Rp (ownI F Y O) A d x->f x p=some p'->∃Y',g d Y A=some Y'/\Sr F n O Y' p' A/\ownI F Y' O=ownI F Y O
def jDp(ht:ReI W A t items)(hg:SmG n O g h)(hb:SmS n O O O g1 f1):∀(xs:List PD)(j:Nat) {Y:DSt}{p:PSt}{A':Sto}{r},items.drop j=xs->j<=items.length->Sr F n O Y p A'->Nw W A (ownI F Y O) A'->DL.forD f1 h xs p=some r->∃m,tR F n O B (ownI F Y O) (forS t g g1 m j Y) A' r:=by
 intro xs
 induction xs with
 |nil=>intro j Y p A' r hd hj s w e;cases e;have hl:=Nat.le_antisymm hj (eL.mp hd);have:=ht _ A' w s.lt j;rw[bK (dI hl.symm)]at this;exact⟨1,_,A',by unfold forS MS.b;rw[this hl];rfl,.nx s (Nf.no λv z=>z)⟩
 |cons x xs ih=>
  intro j Y p A' r hd hj s w e;have hx:items[j]?=some x:=by rw[<- dQ,hd];rfl
  have hlt:=(zbb.mp hx).1;have:=ht _ A' w s.lt j;rw[hx]at this;obtain⟨d,A2,e1,l1,r1⟩:=this;unfold DL.forD at e
  cases e2:h x p with
  |none=>simp_all
  |some p1=>
   rw[e2]at e;obtain⟨Y1,e3,s1,ow⟩:=hg (s.grow l1) r1 e2;have hd':items.drop (j+1)=xs:=by rw[<- cJ,hd];rfl
   have n1:Nf F (ownI F Y O) A' (ownI F Y1 O) A2:=ow ▸ Nf.pre l1 s.fin;rcases DL.M.b_inv e with ⟨b,e4,e5⟩|⟨y,e4,rfl⟩
   .obtain⟨q,A3,e6,z⟩:=hb s1 e4
    cases z with
    |nx s2 w2=>obtain⟨m,q3,A4,e7,z3⟩:=ih _ hd' hlt s2 (w.trans (n1.trans w2).toNw) e5;exact⟨m+1,q3,A4,by unfold forS MS.b;rw[e1];dsimp only;rw[e3];dsimp only;rw[e6];exact e7,z3.pre (n1.trans w2)⟩
    |ct s2 w2=>obtain⟨m,q3,A4,e7,z3⟩:=ih _ hd' hlt s2 (w.trans (n1.trans w2).toNw) e5;exact⟨m+1,q3,A4,by unfold forS MS.b;rw[e1];dsimp only;rw[e3];dsimp only;rw[e6];exact e7,z3.pre (n1.trans w2)⟩
    |bk s2 w2=>cases e5;exact⟨1,_,A3,by unfold forS MS.b;rw[e1];dsimp only;rw[e3];dsimp only;rw[e6];rfl,.nx s2 (n1.trans w2)⟩
    |rt s2 w2=>cases e5;exact⟨1,_,A3,by unfold forS MS.b;rw[e1];dsimp only;rw[e3];dsimp only;rw[e6];rfl,.rt s2 (n1.trans w2)⟩
   .obtain⟨q,A3,e6,z⟩:=hb s1 e4;cases z with|er s2 w2=>exact⟨1,_,A3,by unfold forS MS.b;rw[e1];dsimp only;rw[e3];dsimp only;rw[e6],.er s2 (n1.trans w2)⟩
def jGq(hi:Sm ReI n O fi pi)(hg:SmG n O g h)(hb:SmS n O O O g1 f1):SmS n O O B (jka fi g g1) (DL.gFor pi h f1):=by
 intro F Y p A r s e;refine smbS hi s e λt xs A1 s l r1 e=>?_
 obtain⟨m,q,A2,e1,z⟩:=jDp r1 hg hb xs 0 rfl (aY _) s ⟨λy y y z=>z,zac _,λy=>.inl⟩ e;exact⟨q,A2,jkq (λy y=>jg1) e1,z⟩
def jNr(ht:SmT n O ta qa)(hb:SmS n O O O g1 f1):∀(m:Nat) {Y:DSt}{p:PSt}{A:Sto}{r},Sr F n O Y p A->DL.whileD qa f1 m p=some r->tR F n O B (ownI F Y O) (whS ta g1 m Y) A r:=by
 intro m
 induction m with
 |zero=>intro Y p A r s e;cases e
 |succ m ih=>
  intro Y p A r s e;refine smbS ht s e λa b A1 s l r1 e=>?_
  cases r1;cases a
  .cases e;exact .it s λw z=>z
  .rw[aD rfl];rcases DL.M.b_inv e with ⟨b,e4,e5⟩|⟨y,e4,rfl⟩
   .obtain⟨q,A3,e6,z⟩:=hb s e4
    cases z with
    |nx s2 w2=>obtain⟨q3,A4,e7,z3⟩:=ih s2 e5;exact⟨q3,A4,by unfold MS.b;rw[e6];exact e7,z3.pre w2⟩
    |ct s2 w2=>obtain⟨q3,A4,e7,z3⟩:=ih s2 e5;exact⟨q3,A4,by unfold MS.b;rw[e6];exact e7,z3.pre w2⟩
    |bk s2 w2=>cases e5;exact⟨_,A3,by unfold MS.b;rw[e6];rfl,.nx s2 w2⟩
    |rt s2 w2=>cases e5;exact⟨_,A3,by unfold MS.b;rw[e6];rfl,.rt s2 w2⟩
   .obtain⟨q,A3,e6,z⟩:=hb s e4;cases z with|er s2 w2=>exact⟨_,A3,by unfold MS.b;rw[e6],.er s2 w2⟩
def jwd(ht:SmT n O ta qa)(hb:SmS n O O O g1 f1):SmS n O O B (juz ta g1) (DL.whileD qa f1 m):=by intro F Y p A r s e;obtain⟨q,A2,e1,z⟩:=jNr ht hb m s e;exact⟨q,A2,jkq (λy y=>jpg) e1,z⟩
end
def Rps.get{j:Nat}(h:Rps W A ds xs)(e:xs[j]?=some x):∃d,ds[j]?=some d/\Rp W A d x:=by
 replace h:=h.pd
 induction h generalizing j with
 |nil=>cases e
 |cons a t ih=>cases j with
  |zero=>cases e;exact⟨_,rfl,a⟩
  |succ j=>exact ih e
def side(z:Bool)(i:Nat)(A:Sto):Option (List D):=if z=true then A[i]?.bind lsO else A[i]?.bind tuO
def sdO(A:Sto):D->Option (Bool×Nat)
|.obj i=>if(side true i A).isSome then some (true,i)else if(side false i A).isSome then some (false,i)else none
|_=>none
section
variable {X:Cx}
def jcn(h:R mg J A H)(r:RV J (.obj i) u)(e:side z i A=some ds):∃a xs,u=.ref a/\SqV (!z) K H a xs/\Paired (RV J) ds xs:=by
 cases z
 .exact h.rdT r e
 .exact h.rdL r e
def jng(e:sdO A d=some (z,i)):d=.obj i/\∃ds,side z i A=some ds:=by
 unfold sdO at e
 split at e
 .split at e
  .cases e;exact⟨rfl,bF.mp (by assumption)⟩
  .split at e
   .cases e;exact⟨rfl,bF.mp (by assumption)⟩
   .cases e
 .cases e
def wkS(z:Bool)(i:Nat):Itr:=λj A=>(side z i A).map λds=>(.ok ds[j]?,A)
def iSq(fa:DSt->MS D):DSt->MS Itr:=λY=>(fa Y).b λd A=>(sdO A d).map λq=>(.ok (wkS q.1 q.2),A)
def jB3(ha:SE X Er e fa):SW X Er tg e (iSq fa):=by
 refine sgo (jK2 ha) λh l q hf k=>bS h l hf k λd A1 hf u ρ1 H1 h l r k w=>?_
 obtain⟨⟨z,i⟩,e1,rfl⟩:=aB.mp hf;obtain⟨rfl,ds,e2⟩:=jng e1;obtain⟨a,xs,rfl,s1,p1⟩:=jcn (K:=X.K) h r e2;have st:∀(z':Bool),z'=z->ItS X.mg ρ1 (wkS z i) (if z'=true then Itl X.K a else Itt X.K a):=λz' ez j A2 o A3 ρ2 H2 e2 l2 h2=>by
  obtain⟨ds2,e3,e4⟩:=aB.mp e2;cases e4;obtain⟨a2,ys,y,s2,p2⟩:=jcn h2 (r.mono l2) e3;cases y
  cases e5:ds2[j]? with
  |none=>have:=p2.length ▸ List.getElem?_eq_none_iff.mp e5;subst ez;cases z'<;>exact⟨⟨ys,s2,this⟩,rfl⟩
  |some d=>
   obtain⟨v,e6,r6⟩:=pget p2 e5;subst ez;cases z'<;>exact⟨⟨ys,v,s2,e6⟩,λx H' hzz=>by
    obtain⟨z1,z2⟩:=hzz;subst z1;have:=z2 ys s2
    grind⟩
 cases z
 .exact .inr ⟨a,rfl,⟨xs,s1⟩,k _ ρ1 H1 (pr _) h (st _ rfl)⟩
 .exact .inl ⟨a,rfl,⟨xs,s1⟩,k _ ρ1 H1 (pr _) h (st _ rfl)⟩
def wkE(z:Bool)(i:Nat):Itr:=λj A=>(side z i A).map λds=>match ds[j]? with
 |none=>(.ok none,A)
 |some d=>(.ok (some (.obj A.length)),A++[.tup [.int j,d]])
def iEnS(z:Bool)(fl:DSt->MS (List D)):DSt->MS Itr:=λY=>(fl Y).b λds A=>match ds with
 |[d]=>(sdO A d).bind λq=>if q.1=z then some (.ok (wkE z q.2),A)else none
 |_=>none
def swe{a:Addr}(r:RV J (.obj i) (.ref a))(hi:it=⟨λi H=>∃xs x,SqV (!z) K H a xs/\xs[i]?=some x,λi H v H'=>∃T x,H T=none/\v=.ref T/\H'=upd H T (.tup [.int i,x])/\∀xs,SqV (!z) K H a xs->xs[i]?=some x,λi H=>∃xs,SqV (!z) K H a xs/\xs.length<=i⟩):ItS mg J (wkE z i) it:=by
 subst hi;intro j A2 o A3 ρ2 H2 e2 l2 h2;obtain⟨ds2,e3,e4⟩:=aB.mp e2;obtain⟨a2,ys,y,s2,p2⟩:=jcn h2 (r.mono l2) e3;cases y
 cases e5:ds2[j]? with
 |none=>rw[e5]at e4;cases e4;exact⟨⟨ys,s2,by rw[<- p2.length];simp_all⟩,rfl⟩
 |some d=>
  rw[e5]at e4;cases e4
  obtain⟨v,e6,r6⟩:=pget p2 e5;exact⟨⟨ys,v,s2,e6⟩,λx H' hzz=>by
   obtain⟨T,y,hT,z1,z2,z3⟩:=hzz;subst z1 z2;have:=z3 ys s2;rw[e6]at this;cases this
   exact yldT h2 hT rfl r6⟩
def jQg(hg:Gl X "enumerate")(hm:X.mg "enumerate"=none)(ha:SA X Er [a] fl)(hs:starEach [a] X.env=[(false,eval a X.env)]):SW X Er (.Tuple es kk tp) (.Call (.Name "enumerate" p) [a] [] pos) (iEnS true fl):=by
 refine sgo (jFa hg hm ha hs) λh l q hf k=>bS h l hf k λds A1 hf us ρ1 H1 h l r k _=>?_
 split at hf
 .obtain⟨⟨z,i⟩,e1,hf⟩:=aG.mp hf
  split at hf
  .rename_i hz;cases hz;cases hf
   obtain⟨rfl,ds,e2⟩:=jng e1;refine pc1 r λ_ r=>?_
   obtain⟨a,xs,rfl,s1,p1⟩:=jcn h r e2;exact⟨a,xs,rfl,s1,k _ ρ1 H1 (pr _) h (swe r rfl)⟩
  .cases hf
 .cases hf
def wkZ(z1:Bool)(i1:Nat)(z2:Bool)(i2:Nat):Itr:=λj A=>(side z1 i1 A).bind λds=>(side z2 i2 A).map λes=>match ds[j]?,es[j]? with
 |some d,some e=>(.ok (some (.obj A.length)),A++[.tup [d,e]])
 |_,_=>(.ok none,A)
def iZp(fl:DSt->MS (List D)):DSt->MS Itr:=λY=>(fl Y).b λds A=>match ds with
 |[d,e]=>(sdO A d).bind λq=>(sdO A e).map λq'=>(.ok (wkZ q.1 q.2 q'.1 q'.2),A)
 |_=>none
def jM5(hg:Gl X "zip")(hm:X.mg "zip"=none)(ha:SA X Er [a,b] fl)(hs:starEach [a,b] X.env=[(false,eval a X.env),(false,eval b X.env)])(hs2:starEach [b] X.env=[(false,eval b X.env)]):SW X Er (.Tuple es kk tp) (.Call (.Name "zip" p) [a,b] [] pos) (iZp fl):=by
 refine sgo (jK4 hg hm ha hs hs2) λh l q hf k=>bS h l hf k λds A1 hf us ρ1 H1 h l r k z=>?_
 split at hf
 .obtain⟨⟨z1,i1⟩,e1,hf⟩:=aG.mp hf;obtain⟨⟨z2,i2⟩,e2,rfl⟩:=aB.mp hf;obtain⟨rfl,ds,f1⟩:=jng e1;obtain⟨rfl,es,f2⟩:=jng e2;refine pc2 r λz z r r'=>?_
  obtain⟨a,xs,rfl,s1,p1⟩:=jcn h r f1;obtain⟨b,ys,rfl,s2,p2⟩:=jcn h r' f2;refine⟨!z1,!z2,a,b,xs,ys,rfl,s1,s2,k _ ρ1 H1 (pr _) h λj A2 o A3 ρ2 H2 e l2 h2=>?_⟩;refine ob e λds2 g1 e=>?_
  obtain⟨es2,g2,e⟩:=aB.mp e;obtain⟨a2,xs2,y1,t1,q1⟩:=jcn h2 (r.mono l2) g1;obtain⟨b2,ys2,y2,t2,q2⟩:=jcn h2 (r'.mono l2) g2;cases y1;cases y2
  cases e5:ds2[j]? with
  |none=>rw[e5]at e;cases e;exact⟨⟨xs2,ys2,t1,t2,.inl (by rw[<- q1.length];simp_all)⟩,rfl⟩
  |some d=>cases e6:es2[j]? with
   |none=>rw[e5,e6]at e;cases e;exact⟨⟨xs2,ys2,t1,t2,.inr (by rw[<- q2.length];simp_all)⟩,rfl⟩
   |some d'=>
    rw[e5,e6]at e;cases e
    obtain⟨v,f5,r5⟩:=pget q1 e5;obtain⟨v',f6,r6⟩:=pget q2 e6;exact⟨⟨xs2,ys2,v,v',t1,t2,f5,f6⟩,λx H' hzz=>by
     obtain⟨T,y,y',hT,z1,z2,z3,z4⟩:=hzz;subst z1 z2;have:=z3 xs2 t1;rw[f5]at this;cases this
     have:=z4 ys2 t2;simp_all [yldT]⟩
 .cases hf
noncomputable def wkV(f:Nat->D)(n:Nat):Itr:=λj A=>if j<n then some (.ok (some (f j)),A)else if j=n then some (.ok none,A)else none
def jrj(hr:∀J j,RV J (f j) (g j)):ItS mg J (wkV f n) (Itv g n):=by
 intro i A o A' ρ1 H e l h;unfold wkV at e
 split at e
 .cases e;exact⟨by assumption,λx H' ⟨z1,z2⟩=>by grind⟩
 .split at e
  .cases e;exact⟨by assumption,rfl⟩
  .cases e
def iRg(fl:DSt->MS (List D)):DSt->MS Itr:=λY=>(fl Y).b λds=>match ds with
 |[.int j]=>MS.p (wkV (λk=>.int (0+(k:Nat)*1)) (Builtin.Range.rangeSize 0 j 1).toNat)
 |[.int i,.int j]=>MS.p (wkV (λk=>.int (i+(k:Nat)*1)) (Builtin.Range.rangeSize i j 1).toNat)
 |_=>λz=>none
def jM3(hg:Gl X "range")(hm:X.mg "range"=none)(ha:SA X Er (a::es) fl)(hs:starEach (a::es) X.env=(false,eval a X.env)::starEach es X.env)(hp:zbT pos es X.env):SW X Er tg (.Call (.Name "range" p) (a::es) [] pos) (iRg fl):=by
 refine sgo (jy6 hg hm ha hs hp) λh l q hf k=>bS h l hf k λds A1 hf us ρ1 H1 h l r k z=>?_
 split at hf
 .cases hf;refine pc1 r λz r=>?_;cases r;exact .inl ⟨_,rfl,k _ ρ1 H1 (pr _) h (jrj λz z=>rfl)⟩
 .cases hf;refine pc2 r λz z r r2=>?_;cases r;cases r2;exact .inr ⟨_,_,rfl,k _ ρ1 H1 (pr _) h (jrj λz z=>rfl)⟩
 .cases hf
def iTx(fa:DSt->MS D):DSt->MS Itr:=λY=>(fa Y).b λd=>match d with
 |.str z=>MS.p (wkV (λi=>.str ⟨#[z.cps.getD i 0]⟩) z.cps.size)
 |_=>λy=>none
def jM4(ha:SE X Er e fa):SW X Er tg e (iTx fa):=by
 refine sgo (jK3 ha) λh l q hf k=>bS h l hf k λd A1 hf u ρ1 H1 h l r k z=>?_
 split at hf
 .cases hf;cases r
  exact⟨_,rfl,k _ ρ1 H1 (pr _) h (jrj λz z=>rfl)⟩
 .cases hf
def sYes:DSt->MS Bool:=λz=>MS.p true
def jLv:SC X Er [] sYes:=by rintro U s Z H Q I ⟨J,Y,A,h,l,q,hf,k⟩;cases hf;exact jE0 _ s Z H Q I (k _ J H (pr _) h rfl)
def jLw(h:ST X Er a tc):SC X Er [a] tc:=jKn h
def jmd:∀{n j Y A q},jd6 t g tc fe i n j Y A=some q->jd6 t g tc fe i (n+1) j Y A=some q:=by
 intro n
 induction n with
 |zero=>intro _ _ _ _ h;cases h
 |succ n ih=>
  intro j Y A q h;refine jgx h λo A1 q h=>?_
  cases o with
  |none=>exact h
  |some d=>
   dsimp only at h |-
   split at h
   .cases h
   .refine jgx h λc A1 q h=>?_
    cases c with
    |false=>exact ih h
    |true=>
     refine jgx h λy A1 q h=>?_
     split at h
     .split at h
      .rename_i hy hz;rw[aD hz];exact ih h
      .cases h
     .cases h
def sCmp(own:Nat)(caps:qh)(fi:DSt->MS Itr)(g:Tg)(tc:DSt->MS Bool)(fe:DSt->MS D):DSt->MS D:=λY=>(fi Y).b λt=>lim λn A=>jd6 t g tc fe A.length n 0 (jg3 own caps Y) (A++[.lst []])
def jBt(hc:X.calm=true)(ck:CapsOk X scope caps)(hi:SW X Er tg iter fi)
  (hg:∀C s0 H0 ex,SG (As X scope own caps C s0 H0 ex) tg g) (ht:∀C s0 H0 ex,SC (As X scope own caps C s0 H0 ex) Er' ifs tc)
  (he:∀C s0 H0 ex,SE (As X scope own caps C s0 H0 ex) Er' elt fe) (hs:Ao X iter):SE X Er (.ListComp elt [⟨tg,iter,ifs,0⟩] scope pos) (sCmp own.length caps fi g tc fe):=by rintro U s Z H Q I ⟨J,Y,A,h,l,q,hf,k⟩;obtain⟨n,e⟩:=jEa hf;exact jF0 hc ck hi hg ht he hs _ s Z H Q I ⟨J,Y,A,h,l,q,e,k⟩
end
end SI
namespace L2
open PyProof.Rows
section
variable [DecidableEq κ]
noncomputable def met(f:Nat->κ):Nat->List κ
|0=>[]
|i+1=>if f i∈met f i then met f i else met f i++[f i]
theorem jBi(f:Nat->κ):∀i,(met f i).length<=i
|0=>zac _
|i+1=>by
  have h:=jBi f i;unfold met
  split
  .exact Nat.le_succ_of_le h
  .rw[zcb];exact Nat.succ_le_succ h
def jJ0(f:Nat->κ)(i:Nat)(x:κ):decide (x∈met f (i+1))=(decide (x∈met f i) || decide (x=f i)):=by
 rw[Bool.eq_iff_iff,Bool.or_eq_true,fO,fO,fO];show x∈(if f i∈met f i then met f i else met f i++[f i])↔_;grind
def jEi(f:Nat->κ)(i:Nat):(met f (i+1)).length=if decide (f i∈met f i)=true then(met f i).length else(met f i).length+1:=by
 show(if f i∈met f i then met f i else met f i++[f i]).length=_;grind
variable {prog:Program}{w:World}{knd:KeyKind prog w κ}{A:Around}{R:Result->Shared->Prop}{I S:Addr}{fp wr:Ak}{G:Array GenState->Array GenState->Prop}{n:Nat}{P:Nat->Value->Prop}{St:Nat->Shared->Prop}{f:Nat->κ}
abbrev SetAt(knd:KeyKind prog w κ)(f:Nat->κ)(h:Heap)(a:Addr)(i:Nat):Prop:=h.SetOf knd a (λx=>decide (x∈met f i)) (met f i).length
def SetAt.go(z:SetAt knd f h a i)(k:∀o,h.get? a=some o->h'.get? a=some o):SetAt knd f h' a i:=by obtain⟨o,es,ep,t,ho,r⟩:=z;exact⟨o,es,ep,t,k o ho,r⟩
def jzw(W:WalksS prog w A.in1 I fp wr G n P St)(hS:S∉fp)(hf:∀i v,P i v->knd.is (f i) v=true/\v.scannable=true)(hn:n+1<scanBound):
  ∀(k i:Nat)(s:Shared),i+k=n->St i s->SetAt knd f s.heap S i->(∀s',Moved (S::wr) G s s'->SetAt knd f s'.heap S n->R (.ok (.ret .none)) s') ->
   codeAny (model prog w) A (.builtin "set.update.loop" ⟨[.ref S,.ref I],[]⟩) R s:=by
 have nw:=λz=>hS (W.sub _ z)
 have up:∀b∈wr,b∈S::wr:=λy z=>.tail _ z
 intro k
 induction k with
|zero=>intro i s e st z q;cases e;exact codeAny_builtin fH (zay (W.done s _ _ st λs2 m=>zab (q s2 (m.mono up) (z.go λo=>m.heap S o nw))))
|succ k ih=>
  intro i s e st z q;refine codeAny_builtin fH ?_;refine zay (W.item i s _ _ (by lia) st λv s2 p st2 m=>?_);obtain⟨h1,h2⟩:=hf i v p;refine zay (cA ?_);refine cA (zay (knd.pyHash h1 ?_));refine wpAny_setAddHashed_of h1 h2 (z.go λo=>m.heap S o nw) (by have:=jBi f i;clear q;lia) λh3 sb z3=>?_
  have z4:=by have z5:=z3;rw[(funext λx=>(jJ0 f i x).symm),<- jEi f i]at z5;exact z5
  refine zab ⟨plainId_quiet PyProof.Rows.F.plain_set_update_loop _,ih _ _ (by lia) (W.frame _ s2 _ _ st2 (eE _) λb hb o e2=>?_) z4 λs5 m5 z6=>?_⟩
  .rw[sb.2 b λc=>hS (c ▸ hb)];exact e2
  .refine q s5 (Moved.trans W.gtrans ((m.mono up).then_heap (eE _) λb o hb e2=>?_) m5) z6;rw[sb.2 b λc=>hb (c ▸ zaa)];exact e2
end
noncomputable abbrev nSet(led:Bool):Obj:=⟨.type "set",none,.set #[] 0 (.fresh 0 0 led),#[]⟩
section
variable [DecidableEq κ]{knd:KeyKind prog w κ}
def js1{l:Addr}{its:Ah}{Q:qe}(hh:A.handled=none)(hl:s.heap.IsList l its)(hf:∀i v,its[i]?=some v->knd.is (f i) v=true/\v.scannable=true)(hn:its.size+1<scanBound)
  (q:∀h2 tk,SetAt knd f h2 s.heap.objs.size its.size->(∀b o,b<s.heap.objs.size->s.heap.get? b=some o->h2.get? b=some o)->Q (.ref s.heap.objs.size) { s with heap:=h2,toks:=tk }):
  wpAny (model prog w) A (call (.type "set") [.ref l]) Q E s:=by
 obtain⟨c0,tl,hm⟩:=PySem.F.called_set.mro;have m1:=PySem.F.called_set.made;have m2:=PySem.F.called_set.sub;refine dZ (codeAny_of_tree (zab ⟨gg _ (by decide +kernel),codeAny_builtin PySem.F.entry_type_call ?_⟩));rw[Around.under_plain (weight_type_call_type "set" [.ref l] []) rfl];have m3:=PySem.F.called_set.notType;have m4:=PySem.F.called_set.canCreate;have m5:=PySem.F.typeCall_set_1 (.ref l)
 repeat (any_goals (first|assumption|wp_step))
 refine dD (code_set_new_1 (.ref l) (E:=E) (Q₁:=λob s1=>∃led,ob=.ref s.heap.objs.size/\s1={ s with heap:=s.heap.push (nSet led)}) λled=>⟨led,rfl,rfl⟩) λr s1 hr=>?_
 match r,hr with
|.error e,hr=>exact hr
|.ok (.ret ob),hr=>
  obtain⟨led,rfl,rfl⟩:=hr;have g0:(s.heap.push (nSet led)).get? s.heap.objs.size=some (nSet led):=zbz _ rfl;have ty:Shared.TypeIs { s with heap:=s.heap.push (nSet led)} (.ref s.heap.objs.size) "set":=⟨_,g0,rfl⟩
  have i1:=PySem.F.called_set.init.lookup;have i2:=PySem.F.called_set.init.bind (.ref s.heap.objs.size)
  repeat (any_goals (first|assumption|wp_step))
  refine dD (fT (R:=wants (λr s2=>r=.none/\∃h2 tk,s2={ s with heap:=h2,toks:=tk }/\SetAt knd f h2 s.heap.objs.size its.size/\∀b o,b<s.heap.objs.size->s.heap.get? b=some o->h2.get? b=some o) E) PySem.F.called_set.init.plain PySem.F.entry_set_init (check_set_init_1 ty ?_)) λr2 s2 hr2=>?_
  .obtain⟨⟨oc,od,oda,osl⟩,ho,hc,nl,hd⟩:=hl;dsimp only at hc hd;subst hc;subst hd;have ho2:(s.heap.push (nSet led)).get? l=some ⟨.type "list",od,.seq its nl,osl⟩:=zaz _ ho;have u1:=PySem.F.sub_list_set;have u2:=PySem.F.sub_list_frozenset;have u3:(Value.type "list" == Value.type "dict")=false:=by decide
   have li:(s.heap.push (nSet led)).IsList l its:=⟨_,ho2,rfl,nl,rfl⟩
   unfold Builtin.«set.__init__» noKeywords Builtin.Frozenset.updateFrom;generalize hp:pyIter=PI
   wp_walk
   subst hp;refine dS li (zay (wpAny_runValue ?_));have lt:l<s.heap.objs.size:=zbv ho;have sz:(s.heap.push (nSet led)).objs.size=s.heap.objs.size+1:=bR _ _;have ni:l≠(s.heap.push (nSet led)).objs.size:=by rw[sz];exact zcw (fV lt)
   refine jzw (knd:=knd) (f:=f) (S:=s.heap.objs.size) ((Walks.list (show A.in1.in1.in1.handled=none by simp[hh]) _ l ni its).toS) (by clear hr i2 u2;grind) hf hn its.size 0 _ (dG _) ⟨⟨_,zbz _ rfl,rfl,rfl⟩,li.push _⟩ ?_ ?_
   .exact SetOf_congr ((setObjOf_fresh (knd:=knd) led).setOf (zaz _ g0) (by decide)) (λy=>rfl) rfl
   .rintro⟨h2,g2,d2,t2,o2⟩ mv z;cases (show g2=s.gens from mv.gens);cases (show d2=s.drawn from mv.drawn);cases (show o2=s.os from mv.os);refine zab (zab ⟨rfl,h2,t2,rfl,z,λb o hb e=>?_⟩);refine mv.heap b o (λc=>?_) (zaz _ (zaz _ e))
    clear hr m5;grind
  .match r2,hr2 with
   |.error e,hr2=>exact hr2
   |.ok (.ret r),hr2=>
    obtain⟨rfl,h2,tk,rfl,z,kp⟩:=hr2
    repeat (any_goals (first|assumption|wp_step))
    simp_all
   |.ok .next,hr2=>exact hr2.elim
   |.ok .brk,hr2=>exact hr2.elim
   |.ok .cont,hr2=>exact hr2.elim
|.ok .next,hr=>exact hr.elim
|.ok .brk,hr=>exact hr.elim
|.ok .cont,hr=>exact hr.elim
def jsz{a:Addr}{n:Nat}{Q:qe}(z:SetAt knd f s.heap a n)(hn:n<4096)(q:∀t tk,Q (.int (met f n).length t) { s with toks:=tk }):wpAny (model prog w) A (call (.builtin "len") [.ref a]) Q E s:=by
 obtain⟨o,es,ep,t,ho,ex,hd,_,_,hb,ht,e⟩:=z;refine call_len_set ho ex hd ht (by grind[scanBound]) ?_;simp_all
end
def jEj[DecidableEq κ]{f:Nat->κ}(h:f i∉met f i):met f (i+1)=met f i++[f i]:=aJ h
noncomputable def jmy(ks:List Key)(i:Nat):Key:=(ks[i]?).getD (.inl 0)
def SetF(P:Program)(w:World)(a:Addr)(ks:List Key):Heap->Prop:=λh=>SetAt (jbm P w) (jmy ks) h a ks.length
def cntK(ks:List Key):Nat:=(met (jmy ks) ks.length).length
section
variable {X:Cx}
theorem jD5(r:RelV (kV k) u):u.scannable=true:=by
 cases k with
 |inl i=>obtain⟨t,e⟩:=(r);subst e;rfl
 |inr x=>obtain⟨t,e⟩:=(r);subst e;rfl
theorem jw2:∀{ks:List Key}{us:Ac},Vals (ks.map kV) us->∀(i:Nat)(v:Value),us[i]?=some v->RelV (kV (jmy ks i)) v
|[],us,r,i,v,h=>by cases r;cases h
|k::ks,us,r,i,v,h=>by
  cases r with
  |cons a b=>
   cases i with
   |zero=>cases h;exact a
   |succ i=>exact jw2 b i v h
def js2(hc:X.calm=true):CallR X (.type "set") (λxs H Q=>∃p ks,xs=[.ref p]/\SqL X.K H p (ks.map kV)/\ks.length<4000/\∀l,H l=none->Q (.ref l) (upd H l (.ext (SetF X.prog X.w l ks)))):=by
 intro U s Z H xs us Q I r h;obtain⟨p,ks,rfl,hq,hn,q⟩:=h;obtain⟨u,rfl,rx⟩:=jl0 r;cases rx;obtain⟨its,r',pl,hz⟩:=I.list hq;have hl:its.length=ks.length:=by rw[<- r'.length,zav]
 refine js1 (knd:=jbm _ X.w) (f:=jmy ks) (I.ok.hd hc) pl.isList (λi v e=>?_) (by grind[List.size_toArray,scanBound]) λh2 tk z kp=>?_
 .grind[jw2,jru,jD5]
 .have z1:its.toArray.size=ks.length:=by rw[zbx,hl]
  rw[z1]at z;refine⟨.ref _,_,I.laid (λb o e=>kp b o (zbv e) e) (zac _) ?_,rfl,q _ (I.hok.fresh (zac _))⟩;obtain⟨o,es,ep,t,ho,w1⟩:=id z;exact⟨z,⟨o,ho⟩,λh3 h4 z3 k4=>SetAt.go z3 k4⟩
def js0:CallR X (.builtin "len") (λxs H Q=>∃a ks,xs=[.ref a]/\H a=some (.ext (SetF X.prog X.w a ks))/\ks.length<4000/\Q (.int (cntK ks)) H):=by intro U s Z H xs us Q I r h;obtain⟨a,ks,rfl,ha,hn,q⟩:=h;obtain⟨u,rfl,rx⟩:=jl0 r;cases rx;exact jsz ((I.hok a _ ha).1) (by lia) λt tk=>⟨.int _,H,I.tok _,⟨t,rfl⟩,q⟩
end
end L2
namespace DL
open L2
noncomputable def keyS:D->Option Key
|.str x=>some (.inr x)
|.int i=>some (.inl i)
|_=>none
def keysS:List D->Option (List Key)
|[]=>some []
|d::ds=>(keyS d).bind λk=>(keysS ds).map λks=>k::ks
def gLenS:D->Option D
|.lst ds=>(keysS ds).bind λks=>if ks.length<4000 then some (.int (cntK ks))else none
|_=>none
def jyg(h:keyS d=some k)(r:Rep J K H d v):v=kV k:=by
 cases d with
 |str x=>cases h;exact rep_str.mp r
 |int i=>cases h;exact rep_int.mp r
 |_=>cases h
theorem keysS_rep:∀{ds:List D}{ks:List Key}{vs:List V},keysS ds=some ks->Reps J K H ds vs->vs=ks.map kV
|[],ks,vs,h,r=>by cases h;rw[reps_nil.mp r];rfl
|d::ds,ks,vs,h,r=>by
  unfold keysS at h
  cases hk:keyS d with
  |none=>rw[hk]at h;cases h
  |some k=>
   rw[hk]at h
   cases hs:keysS ds with
   |none=>rw[hs]at h;cases h
   |some ks'=>rw[hs]at h;cases h;obtain⟨v,vs',rfl,q1,q2⟩:=reps_cons.mp r;rw[jyg hk q1,keysS_rep hs q2];rfl
def jCw(h:ks.Nodup):cntK ks=ks.length:=by
 have go:∀i,i<=ks.length->met (jmy ks) i=ks.take i:=by
  intro i
  induction i with
  |zero=>intro _;rfl
  |succ i ih=>
   intro hi;have il:=hi;have e:jmy ks i=ks[i]:=by unfold jmy;rw[zax il];rfl
   have ni:jmy ks i∉ks.take i:=by rw[e];intro c;obtain⟨j,hj,ej⟩:=List.mem_take_iff_getElem.mp c;exact absurd ((List.getElem_inj h).mp ej) (zcw (zcx hj (Nat.min_le_left _ _)))
   have im:=ih (cY il);rw[jEj (by simp_all),im,e,List.take_append_getElem il]
 unfold cntK;simp_all
def jud(xs:Ab):keysS (xs.map .str)=some (xs.map .inr):=by
 induction xs with
 |nil=>rfl
 |cons x xs ih=>rw[aE];unfold keysS;rw[ih];rfl
def jyk{xs:Ab}(h:xs.Nodup)(hn:xs.length<4000):gLenS (.lst (xs.map .str))=some (.int xs.length):=by show((keysS _).bind _)=_;rw[jud];show(if(xs.map _).length<4000 then _ else none)=_;rw[zav,aD hn,jCw (List.Pairwise.map _ (λa b c e=>c (Sum.inr.inj e)) h),zav]
noncomputable def txtD:D->Option (List D)
|.str x=>some ((List.range x.cps.size).map λi=>.str ⟨#[x.cps.getD i 0]⟩)
|_=>none
def iTxtD(f:DSt->M D):DSt->M (List D):=λY=>(f Y).b λd=>M.o (txtD d)
end DL
namespace SI
open L2
section
variable {n i:Nat}
def Rp.seq(h:Rp W A d x)(e:DL.seqD x=some xs):∃z i ds,i∉W/\sdO A d=some (z,i)/\side z i A=some ds/\Rps W A ds xs:=by
 cases h with
 |lst hi e1 r=>cases e;exact⟨_,_,_,hi,aD (by unfold side;simp_all),e1,r⟩
 |tup hi e1 r=>cases e;refine⟨false,_,_,hi,?_,e1,r⟩;refine(aJ λz=>?_).trans (aD (by unfold side;simp_all));obtain⟨ds,z⟩:=bF.mp z;exact jyo z e1
 |_=>cases e
def jlp(w:Nw W A W' A1)(hi:i∉W)(e:side z i A=some ds):side z i A1=some ds:=by
 cases z
 .exact w.k.bd hi e
 .exact w.k.bd hi e
def jb5(hW:∀j∈W,j<A.length)(r:Rps W A ds xs):Rp W (A++[.tup ds]) (.obj A.length) (.tup xs):=
 .tup (λz=>bH _ (hW _ z)) (by rw[aL (zac _),cF];rfl) (r.grow (aA ..))
def jjw(ha:SmE n O fa pa):Sm ReI n O (iSq fa) (DL.iSeqD pa):=by
 intro F Y p A r s e;refine smb ha s e λa b A1 s l r1 e=>?_
 obtain⟨xs,e1,rfl⟩:=DL.M.o_inv e;obtain⟨z,i,ds,hi,f1,f2,f3⟩:=r1.seq e1;refine⟨_,A1,by rw[f1];rfl,aF _,.ok λW' A2 w hw j=>?_⟩;have f4:=jlp w hi f2
 split
 .rename_i x hx;obtain⟨d,g1,g2⟩:=f3.get hx;exact⟨d,A2,by grind[wkS],aF _,g2.to w⟩
 .rintro rfl;unfold wkS;rw[f4,bJ,bK (dI f3.length.symm)]
theorem jpw:∀(xs:List PD)(k:Int)(j:Nat),(DL.enumD k xs)[j]?=(xs[j]?).map λx=>.tup [.int (k+j),x]
|[],_,_=>rfl
|x::xs,k,0=>by simp[DL.enumD]
|x::xs,k,j+1=>by
  simp only[DL.enumD,fQ];rw[jpw xs _ j];lia
theorem jpx:∀(xs:List PD)(k:Int),(DL.enumD k xs).length=xs.length
|[],_=>rfl
|_::xs,k=>congrArg (·+1) (jpx xs _)
set_option tactic.hygienic true in
def jMk(ha:SmA n O fl pl):Sm ReI n O (iEnS true fl) (DL.iArgs DL.enumArgs pl):=by
 intro F Y p A r s e;refine smb ha s e λa b A1 s l r1 e=>?_
 obtain⟨xs,e1,rfl⟩:=DL.M.o_inv e;unfold DL.enumArgs at e1
 split at e1
 .rename_i ys;cases e1;refine rc1 r1 λ_ r1=>?_
  obtain⟨z,i,ds,hi,f1,f2,f3⟩:=r1.seq rfl;have hz:z=true:=by
   cases r1 with|lst _ e0 _ =>
   cases z
   .obtain⟨h1,_⟩:=jng f1;cases h1;exact(jyo e0 f2).elim
   .rfl
  subst hz;refine⟨_,A1,by dsimp only;rw[f1,aW,aD rfl],aF _,.ok λW' A2 w hw j=>?_⟩;have f4:=jlp w hi f2;rw[jpw]
  cases hx:ys[j]? with
  |some x=>obtain⟨d,g1,g2⟩:=f3.get hx;refine⟨_,_,by unfold wkE;rw[f4,bJ,g1],aA ..,?_⟩;rw[Int.zero_add];exact jb5 hw (.cons .int (.cons (g2.to w) .nil))
  |none=>rintro rfl;unfold wkE;rw[f4,bJ,bK (by rw[jpx,f3.length];simp_all)]
 .cases e1
theorem jxb:∀(xs ys:List PD)(j:Nat),(DL.zipD xs ys)[j]?=match xs[j]?,ys[j]? with
  |some x,some y=>some (.tup [x,y])
  |_,_=>none
 |[],ys,j=>by rfl
 |x::xs,[],j=>by cases (x::xs)[j]?<;>rfl
 |x::xs,y::ys,0=>rfl
 |x::xs,y::ys,j+1=>jxb xs ys j
set_option tactic.hygienic true in
def jGm(ha:SmA n O fl pl):Sm ReI n O (iZp fl) (DL.iArgs DL.zipArgs pl):=by
 intro F Y p A r s e;refine smb ha s e λa b A1 s l r1 e=>?_
 obtain⟨xs,e1,rfl⟩:=DL.M.o_inv e;unfold DL.zipArgs at e1
 split at e1
 .split at e1
  .rename_i xs ys h1 h2;cases e1;refine rc2 r1 λ_ _ r1 r2=>?_
   obtain⟨z,i,ds,hi,f1,f2,f3⟩:=r1.seq h1;obtain⟨z',i',ds',hi',f1',f2',f3'⟩:=r2.seq h2;refine⟨_,A1,by dsimp only;rw[f1,f1',aW];rfl,aF _,.ok λW' A2 w hw j=>?_⟩;have f4:=jlp w hi f2;have f4':=jlp w hi' f2';rw[jxb]
   cases hx:xs[j]? with
   |none=>intro _;unfold wkZ;rw[f4,f4',aW,bJ,bK (by rw[<- f3.length];simp_all)]
   |some x=>cases hy:ys[j]? with
    |none=>intro _;unfold wkZ;obtain⟨d,g1,g2⟩:=f3.get hx;rw[f4,f4',aW,bJ,g1,bK (by rw[<- f3'.length];simp_all)]
    |some y=>obtain⟨d,g1,g2⟩:=f3.get hx;obtain⟨d',g1',g2'⟩:=f3'.get hy;exact⟨_,_,by clear e hx hy;grind[wkZ],aA ..,jb5 hw (.cons (g2.to w) (.cons (g2'.to w) .nil))⟩
  .cases e1
 .cases e1
def jzh(h:∀W A j,Rp W A (f j) (g j)):ReI W A (wkV f m) ((List.range m).map g):=by
 intro W' A2 w hw j;unfold wkV
 by_cases hj:j<m
 .rw[zba,List.getElem?_range hj,aD hj]
  clear hw;grind
 simp_all
def jMc(i j:Int):(Builtin.Range.rangeSize i j 1).toNat=(j-i).toNat:=by grind[Builtin.Range.rangeSize]
def jGk(ha:SmA n O fl pl):Sm ReI n O (iRg fl) (DL.iArgs DL.rangeArgs pl):=by
 intro F Y p A r s e;refine smb ha s e λa b A1 s l r1 e=>?_
 obtain⟨xs,e1,rfl⟩:=DL.M.o_inv e;unfold DL.rangeArgs at e1
 split at e1
 .cases e1;refine rc1 r1 λz r1=>?_;cases r1
  refine⟨_,A1,rfl,aF _,.ok ?_⟩;rw[jMc,Int.sub_zero];exact jzh λz z j=>by rw[Int.mul_one];exact .int
 .cases e1;refine rc2 r1 λz z r1 r2=>?_;cases r1;cases r2
  refine⟨_,A1,rfl,aF _,.ok ?_⟩;rw[jMc];exact jzh λz z j=>by rw[Int.mul_one];exact .int
 .cases e1
def jGl(ha:SmE n O fa pa):Sm ReI n O (iTx fa) (DL.iTxtD pa):=by
 intro F Y p A r s e;refine smb ha s e λa b A1 s l r1 e=>?_
 obtain⟨xs,e1,rfl⟩:=DL.M.o_inv e;unfold DL.txtD at e1
 split at e1
 .cases e1;cases r1
  exact⟨_,A1,rfl,aF _,.ok (jzh λz z z=>.str)⟩
 .cases e1
def jim(h:O.contains i=false):SmG n O (jhz i) (DL.gName i):=by
 intro F Y p A d x p' s r e;cases e;have ho:i∉O:=λz=>by simp_all
 exact⟨_,rfl,s.set ho r,jgq ho⟩
noncomputable def setP(is:Aa)(xs:List PD)(p:PSt):PSt:=(is.zip xs).foldl (λp q=>p.set q.1 (some q.2)) p
def jGb{is:Aa}{ds:List D}{xs:List PD}{Y:DSt}{p:PSt}(h:∀i∈is,i∉O)(r:Rps (ownI F Y O) A ds xs)(s:Sr F n O Y p A):Sr F n O ((is.zip ds).foldl (λY p=>Y.set p.1 (some p.2)) Y) (setP is xs p) A/\ownI F ((is.zip ds).foldl (λY p=>Y.set p.1 (some p.2)) Y) O=ownI F Y O:=by
 induction is generalizing ds xs Y p with
 |nil=>exact⟨s,rfl⟩
 |cons i is ih=>cases r with
  |nil=>exact⟨s,rfl⟩
  |cons a t=>have ho:=h i zaa;obtain⟨h1,h2⟩:=ih (λk hk=>h k (zaw _ hk)) (by rw[jgq ho];exact t) (s.set ho a);exact⟨h1,h2.trans (jgq ho)⟩
def jGj(h:∀i∈is,O.contains i=false)(hf:∀{x p p'},f x p=some p'->∃xs,x=.tup xs/\xs.length=is.length/\p'=setP is xs p):SmG n O (tTup is) f:=by
 intro F Y p A d x p' s r e;obtain⟨xs,rfl,hl,rfl⟩:=hf e;cases r with|tup hi e1 r =>
 obtain⟨h1,h2⟩:=jGb (λi hi z=>by have:=h i hi;grind) r s;exact⟨_,by unfold tTup;dsimp only;rw[e1,aW,aD (by rw[<- r.length];exact hl)],h1,h2⟩
def jQe(hi:O.contains i=false)(hj:O.contains j=false):SmG n O (tTup [i,j]) (DL.gTup2 i j):=jGj (by simp_all) λ{x p p'} e=>by
 unfold DL.gTup2 at e
 split at e
 .cases e;exact⟨_,rfl,rfl,rfl⟩
 .cases e
inductive tF(W:Aa)(m:MS D)(A:Sto)(r:Except DL.XD PD):Prop
| ok (j:Nat) (ds:List D) (xs:List PD) (A':Sto) (e:m A=some (.ok (.obj j),A')) (l:A<+:A') (hj:A.length<=j) (e2:A'[j]?=some (.lst ds)) (h:Rps (j::W) A' ds xs) (hr:r=.ok (.lst xs))
| er (d:D) (x:DL.XD) (A':Sto) (e:m A=some (.error d,A')) (l:A<+:A') (h:Rx A' d x) (hr:r=.error x)
def SmF(n:Nat)(O:Aa)(g:DSt->MS D)(f:PSt->PM PD):Prop:=∀{F Y p A r},Sr F n O Y p A->f p=some r->tF (ownI F Y O) (g Y) A r
def SmF.e(h:SmF n O g f):SmE n O g f:=by
 intro F Y p A r s e;rcases h s e with ⟨j,ds,xs,A',e1,l,hj,e2,h1,rfl⟩|⟨d,x,A',e1,l,h1,rfl⟩
 .exact⟨_,A',e1,l,.ok (.lst (λz=>bH _ (zcx (s.lt j z) hj)) (by rw[e2];rfl) (h1.le λy=>zaw _) (.inr ⟨_,e2⟩))⟩
 .exact⟨_,A',e1,l,.er h1⟩
def smbF(h:Sm Rel n O fo fp)(s:Sr F n O Y p A)(e:(fp p).b gp=some r)(c:∀a b A1,Sr F n O Y p A1->A<+:A1->Rel (ownI F Y O) A1 a b->gp b=some r->tF (ownI F Y O) (ga a) A1 r):tF (ownI F Y O) ((fo Y).b ga) A r:=by
 rcases DL.M.b_inv e with ⟨b,e1,e2⟩|⟨x,e1,rfl⟩
 .obtain⟨q,A1,e3,l1,h1⟩:=h s e1;cases h1 with|ok h1 =>
  rcases c _ _ _ (s.grow l1) l1 h1 e2 with ⟨j,ds,xs,A',f1,l,hj,f2,z1,rfl⟩|⟨d,x,A',f1,l,z1,rfl⟩
  .exact .ok j ds xs A' (by unfold MS.b;rw[e3];exact f1) (l1.trans l) (zdz l1.length_le hj) f2 z1 rfl
  .exact .er d x A' (by unfold MS.b;rw[e3];exact f1) (l1.trans l) z1 rfl
 .obtain⟨q,A1,e3,l1,h1⟩:=h s e1;cases h1 with|er h1=>exact .er _ _ A1 (by unfold MS.b;rw[e3]) l1 h1 rfl
def tF.new(hW:∀j∈W,j<A.length)(r:Rps W A ds xs):tF W (λA=>some (.ok (.obj A.length),A++[.lst ds])) A (.ok (.lst xs)):=
 .ok _ ds xs _ rfl (aA ..) (zac _) (by simp_all) (r.to ⟨jm0 (aA ..),by simp,λj hj=>by grind⟩) rfl
def jlt(ha:SmA n O fl pl):SmF n O (sL (gNew .lst) fl) (DL.fL DL.gLstD pl):=by
 intro F Y p A r s e;refine smbF ha s e λds xs A1 s l r1 e=>?_
 obtain⟨v,e1,rfl⟩:=DL.M.o_inv e;unfold DL.gLstD at e1
 split at e1
 .rename_i hz;cases e1;rw[r1.length]at hz;have:=tF.new s.lt r1;rcases this with ⟨j,ds,xs,A',f1,l,hj,f2,z1,z2⟩|⟨d,x,A',f1,l,z1,z2⟩
  .exact .ok j ds xs A' (by simp_all [gNew,aD]) l hj f2 z1 z2
  .cases z2
 .cases e1
def jnt:CaM (gNew .tup) DL.gTupD:=by
 intro x v W A a e hW r;unfold DL.gTupD at e
 split at e
 .rename_i hz;cases e;rw[r.length]at hz;exact⟨_,_,by unfold gNew;simp_all,aA ..,.ok (jb5 hW r)⟩
 .cases e
def jGr(hi:i<n)(h:O.contains i=false)(ha:SmF n O fa pa):SmS n O (i::O) B (oSet i fa) (DL.gSet i pa):=by
 intro F Y p A r s e;rcases DL.M.b_inv e with ⟨b,e1,e2⟩|⟨x,e1,rfl⟩
 .cases e2;rcases ha s e1 with ⟨j,ds,xs,A',f1,l,hj,f2,z1,z2⟩|⟨d,x,A',f1,l,z1,z2⟩
  .cases z2;obtain⟨s1,w1⟩:=s.take l (λz=>by grind) hi hj f2 z1;exact⟨_,A',by unfold oSet MS.b;rw[f1];rfl,.nx s1 ⟨⟨jm0 l,l.length_le,λq hq=>by grind⟩,(Nf.pre (W:=[]) l s.fin).f⟩⟩
  .cases z2
 .rcases ha s e1 with ⟨j,ds,xs,A',f1,l,hj,f2,z1,z2⟩|⟨d,x,A',f1,l,z1,z2⟩
  .cases z2
  .cases z2;exact⟨_,A',by unfold oSet MS.b;rw[f1],.er z1 ((Nf.pre l s.fin).bot jyx)⟩
def SimM(m:List D->MS D)(f:List PD->PM PD):Prop:=∀{W vs r A ds},(∀j∈W,j<A.length)->f vs=some r->Rps W A ds vs->tQ ReE W (m ds) A r
def jwb(h:SimM m f)(ha:SmA n O fl pl):SmE n O (sL m fl) (DL.fCall f pl):=by intro F Y p A r s e;exact smb ha s e λds xs A1 s l r1 e=>h s.lt e r1
def jFv(r:Rps W A ds xs)(e:(xs.map some)[i]?=some (some x)):∃d,(ds.map some)[i]?=some (some d)/\Rp W A d x:=by
 obtain⟨d,h1,h2⟩:=r.get (by simpa using e);simp_all
def jz9(hn:ds.length<=n)(hW:∀j∈W,j<A.length)(r:Rps W A ds vs):Sr W n [] (jd5 n ds) (DL.startD n vs) A where
 len:=by unfold jd5 DL.startD;have:=r.length;simp;simp_all
 fin:=hW
 val:=λi x e z=>by
  unfold DL.startD at e;have hi:(vs.map some)[i]?=some (some x):=by
   by_cases h:i<vs.length
   .grind
   .clear hW h;grind
  obtain⟨d,h1,h2⟩:=jFv r hi;refine⟨d,?_,by clear hW;grind[ownI]⟩;unfold jd5
  clear hW;grind
 own:=λz h=>absurd h aK
 nd:=λz h=>absurd h aK
def Nf.pref(k:Nf W W A O' A'):A<+:A':=by
 refine⟨A'.drop A.length,fA λi=>?_⟩
 by_cases h:i<A.length
 .rw[aS h]
  by_cases z:i∈W
  .exact (k.f i z).symm
  .rw[zax h,k.k i _ z (zax h)]
 grind
def jGf(hk:k<=n)(h:SmS n [] O' [] g f):SimM (mirS k n g) (DL.mir k n f):=by
 intro W vs r A ds hW e rs;unfold DL.mir at e
 split at e
 .rename_i hl;have hl':ds.length=k:=by rw[<- rs.length];exact hl
  have s:=jz9 (n:=n) (by simp_all) hW rs;have ew:ownI W (jd5 n ds) []=W:=aO W
  have go:∀{q':Except D Out}{A':Sto}{r':Except _ _},g _ A=some (q',A')->RO W n O' [] (ownI W _ []) A A' q' r'->(match r' with
    |.ok o=>DL.outD o
    |.error x=>some (.error x))=some r->tQ ReE W (mirS k n g ds) A r:=λ{q' A' r'} e1 z e2=>by
   have em:mirS k n g ds A=((g (jd5 n ds)).b outS) A:=by unfold mirS;rw[aD hl']
   rw[ew]at z
   cases z with
   |nx s w=>cases e2;exact⟨_,A',by rw[em];unfold MS.b;rw[e1];rfl,w.pref,.ok .non⟩
   |rt s w=>cases e2;exact⟨_,A',by rw[em];unfold MS.b;rw[e1];rfl,w.pref,.ok s⟩
   |er s w=>cases e2;exact⟨_,A',by rw[em];unfold MS.b;rw[e1],w.pref,.er s⟩
   |_=>cases e2
  rcases DL.M.b_inv e with ⟨b,e1,e2⟩|⟨x,e1,rfl⟩
  .obtain⟨q,A1,e3,z⟩:=h s e1
   clear hW e;grind
  .obtain⟨q,A1,e3,z⟩:=h s e1
   grind
 .cases e
end
def je3(h:Rps W A ds xs)(k:Rps W A es ys):Rps W A (ds++es) (xs++ys):=by
 replace h:=h.pd
 induction h with
 |nil=>exact k
 |cons a _ ih=>exact .cons a ih
def jz8(s:Sr F n O Y p A)(l:A<+:A1)(hW:∀k∈W,k<A1.length)(w:Nw (ownI F Y O) A W A1)(hc:DL.capsFree O caps=true):Sr W (m+caps.length) [] (jg3 m caps Y) (DL.innerD m caps p) A1 where
 len:=by simp[jg3,DL.innerD]
 fin:=hW
 val:=λk x e y=>by
  unfold DL.innerD at e
  by_cases hk:k<m
  .grind
  .rw[aL (by simp;simp_all),dB,zba]at e;obtain⟨q,e1,e2⟩:=aB.mp e;have hq:q.2∉O:=λz=>by
    have:=aQ.mp hc q (dE e1);simp_all
   obtain⟨d,f1,f2⟩:=s.val _ x (by clear e1;grind) hq;refine⟨d,?_,by rw[show ownI W _ []=W from aO W];exact f2.to w⟩;unfold jg3
   clear e2 hW hc;grind
 own:=λy z=>absurd z aK
 nd:=λy z=>absurd z aK
theorem jjp{α:Type}{m:MS α}{a:α}{A1:Sto}(e:m A=some (.ok a,A1)):noE m A=some (.ok a,A1):=by grind[noE]
set_option tactic.hygienic true in
def jxp(ht:ReI W A t items)(hi:A.length<=i)(hg:SmG n [] g h)(hc:SmT n [] tc pc)(he:SmE n [] fe pe):∀(xs:List PD)(j:Nat) {Y:DSt}{p:PSt}{A':Sto}{ys:List PD}{acc:List D}{out:List PD},items.drop j=xs->j<=items.length->Sr (i::W) n [] Y p A'->Nw W A (i::W) A'->A'[i]?=some (.lst acc)->Rps (i::W) A' acc ys->DL.compD h pc pe xs p=some out->ys.length+out.length<=sizeLine ->
  ∃m ds A2,jd6 t g tc fe i m j Y A'=some (.ok (.obj i),A2)/\A2[i]?=some (.lst ds)/\Rps (i::W) A2 ds (ys++out)/\(∀k,k≠i->k<A'.length->A2[k]?=A'[k]?)/\A'.length<=A2.length:=by
 intro xs
 induction xs with
|nil=>intro j Y p A' ys acc out hd hj s w ei ra e hz;cases e;have hl:=Nat.le_antisymm hj (eL.mp hd);have:=ht _ A' w (λk hk=>s.fin k hk) j;rw[bK (dI hl.symm)]at this;exact⟨1,acc,A',by unfold jd6 MS.b;rw[this hl];rfl,ei,by simp_all,λ_ _ _=>rfl,zac _⟩
|cons x xs ih=>
  intro j Y p A' ys acc out hd hj s w ei ra e hz;have hx:items[j]?=some x:=by rw[<- dQ,hd];rfl
  have hlt:=(zbb.mp hx).1;have:=ht _ A' w (λk hk=>s.fin k hk) j;rw[hx]at this;obtain⟨d,A2,e1,l1,r1⟩:=this;have o0:∀Y,ownI _ Y []=i::W:=λY=>aO _
  unfold DL.compD at e
  cases e2:h x p with
  |none=>simp_all
  |some p1=>
   rw[e2]at e;obtain⟨Y1,e3,s1,_⟩:=hg (s.grow l1) (by rw[o0];exact r1) e2;have hd':items.drop (j+1)=xs:=by rw[<- cJ,hd];rfl
   dsimp only at e
   cases e4:pc p1 with
   |none=>rw[e4]at e;cases e
   |some r4=>cases r4 with
    |error _=>rw[e4]at e;cases e
    |ok c=>
     rw[e4]at e;obtain⟨q,A3,e5,l3,z⟩:=hc s1 e4;cases z with|ok z =>
     cases z;have s3:=s1.grow l3
     cases c with
     |false=>have l13:=l1.trans l3;obtain⟨m,ds,A4,f1,f2,f3,f4,f5⟩:=ih _ hd' hlt s3 (w.trans (Nw.pre l13)) (jaf l13 ei) (ra.grow l13) e hz;refine⟨m+1,ds,A4,?_,f2,f3,λk h1 h2=>(f4 k h1 (zcx h2 l13.length_le)).trans ((Nf.pre (F:=[k]) (W:=[]) l13 (by simpa using h2)).f k zaa),zdz l13.length_le f5⟩;unfold jd6 MS.b;clear f4 hz;grind[jjp]
     |true=>
      cases e6:pe p1 with
      |none=>rw[e6]at e;cases e
      |some r6=>cases r6 with
       |error _=>rw[e6]at e;cases e
       |ok y=>
        rw[e6]at e;obtain⟨out',e7,rfl⟩:=aB.mp e;obtain⟨q,A4,e8,l4,z⟩:=he s3 e6;cases z with|ok ry =>
        rename_i yd;rw[o0]at ry;have l14:=l1.trans (l3.trans l4);have ei4:=jaf l14 ei;have s4:=s3.grow l4;have k4:Kp (i::W) A4 (A4.set i (.lst (acc++[yd]))):=λk o h1 h2=>by clear ei4 ei e6 w;grind
        obtain⟨m,ds,A5,f1,f2,f3,f4,f5⟩:=ih _ hd' hlt (⟨s4.len,by simpa using s4.fin,λk x e h1=>let ⟨d,g1,g2⟩:=s4.val k x e h1;⟨d,g1,by rw[o0]at g2 |-;exact g2.up k4 λ_ z=>z⟩,λ_ z=>absurd z aK,λ_ z=>absurd z aK⟩) (w.trans ((Nw.pre l14).trans ⟨k4,by simp,λ_=>.inl⟩)) (zcz ((zbb.mp ei4).1)) ((je3 (ra.grow l14) (.cons ry .nil)).up k4 λ_ z=>z) e7 (by clear e5 r1;grind);refine⟨m+1,ds,A5,?_,f2,by simp_all,λk h1 h2=>(f4 k h1 (by grind)).trans ?_,zdz (zdz l14.length_le (by simp)) f5⟩
        .unfold jd6 MS.b;rw[e1];dsimp only;rw[e3];dsimp only;rw[jjp e5]
         dsimp only;rw[aD rfl,jjp e8];dsimp only;rw[ei4];dsimp only;rw[aD (by rw[<- ra.length];clear f4 s1;grind)];exact f1
        .rw[zbw (cE h1)];exact(Nf.pre (F:=[k]) (W:=[]) l14 (by simpa using h2)).f k zaa
def jg8(hi:Sm ReI n O fi pi)(hcf:DL.capsFree O caps=true)(hg:SmG (m+caps.length) [] g h)(hc:SmT (m+caps.length) [] tc pc)(he:SmE (m+caps.length) [] fe pe):SmF n O (sCmp m caps fi g tc fe) (DL.fComp m caps pi h pc pe):=by
 intro F Y p A r s e;refine smbF hi s e λt items A1 s l ht e=>?_
 obtain⟨v,e1,rfl⟩:=DL.M.o_inv e;refine ob e1 λout e2 e3=>?_
 unfold DL.gLstD at e3
 split at e3
 .rename_i hz;cases e3;have lp:=aA A1 [SO.lst []];have w:Nw (ownI F Y O) A1 _ _:=⟨jm0 lp,lp.length_le,λj hj=>by rcases aM.mp hj with rfl|z;exact .inr (zac _);exact .inl z⟩
  have hW:∀k∈A1.length::ownI F Y O,k<(A1++[SO.lst []]).length:=λk hk=>by
   rcases aM.mp hk with rfl|z
   .simp
   .have:=s.lt k z;simp;lia
  obtain⟨q,ds,A2,f1,f2,f3,f4,f5⟩:=jxp ht (zac _) hg hc he _ 0 rfl (aY _) (jz8 s lp hW w hcf) w (by clear lp e2 l;grind) .nil e2 (by simp_all);refine .ok _ ds out A2 (jkq (λ_ _=>jmd) f1) ?_ (zac _) f2 f3 rfl;refine⟨A2.drop A1.length,fA λk=>?_⟩
  clear e1;grind
 .cases e3
end SI
namespace DL
open PyProof.Rows L2
noncomputable def partS(x y:Str):Ab:=match Builtin.Str.occurrences x y 0 x.length 1 with
 |i::_=>[Builtin.Str.strSub x 0 i,y,Builtin.Str.strSub x (i+y.length) x.length]
 |[]=>[x,Str.empty,Str.empty]
def gPart(x:Str):D->Option D
|.str y=>if(y.length==0)=false/\x.length<=sizeLine then some (.tup ((partS x y).map .str))else none
|_=>none
noncomputable def gSplit(x:Str):D->Option D
|.str y=>if(y.length==0)=false/\x.length<=sizeLine/\(Txt.split x y).length<=sizeLine then some (.lst ((Txt.split x y).map .str))else none
|_=>none
theorem reps_strs'{K:Af}:∀(l:Ab),Reps J K H (l.map .str) (l.map V.str)
|[]=>Reps.nil
|_::l=>Reps.cons (rep_str.mpr rfl) (reps_strs' l)
theorem jno:∀(l:Ab)(t:Nat),Vals (l.map V.str) (strsFrom t l)
|[],_=>.nil
|x::l,t=>.cons (⟨t,rfl⟩) (jno l _)
def jzi(x:Str)(t:Tok):RelV (.str x) (.str x t):=⟨t,rfl⟩
def vals3(a b c:Str)(t u v:Tok):Vals ([a,b,c].map V.str) [.str a t,.str b u,.str c v]:=.cons (jzi a t) (.cons (jzi b u) (.cons (jzi c v) .nil))
def sz3(a b c:Str):([a,b,c].map V.str).length<=sizeLine:=(by decide:3<=16777216)
theorem vget:∀{ks:Ab}{its:Ac}{i:Nat},Vals (ks.map V.str) its->i<its.length->∃k t,ks[i]?=some k/\its[i]?=some (.str k t)
|[],_,_,.nil,h=>absurd h (Nat.not_lt_zero _)
|k::ks,_,0,.cons ⟨t,e⟩ _,_=>⟨k,t,rfl,by rw[e];rfl⟩
|k::ks,_,i+1,.cons _ r,h=>by
  obtain⟨k',t,h1,h2⟩:=vget r (Nat.lt_of_succ_lt_succ h)
  clear h;simp_all
def meets_index{ks:Ab}{j:Nat}(hv:Vals (ks.map V.str) items.toList)(hj:ks[j]?=some x)(hlt:∀m,m<j->ks[m]?≠some x):
  Meets (Builtin.«tuple.index» ⟨[.ref l,.str x u],[]⟩) (λA R s=>IsTup s.heap l items/\R (.ok (.ret (.int j s.toks))) { s with toks:=s.toks+1 }):=by
 intro prog w A R s ⟨hl,q⟩;refine zay (zab ?_);refine zay (tupleItemsOf_ hl ?_);refine zay (zab (zay (zab ?_)));dsimp only;rw[Std.Legacy.Range.forIn_eq_forIn_range',Nat.min_self];have hsz:=by have:=hv.length;simpa using this
 have hjl:=(zbb.mp hj).1;refine zay (thn (wpAny_forIn_list _ (λrest b s'=>s'=s/\b.1=none/\∃i,rest=List.range' i (items.size-i) 1/\i<=j) (λb s'=>b.1=some (Fin.done (.ret (.int j s.toks)))/\s'={ s with toks:=s.toks+1 }) ?_ ?_ _ _ ⟨rfl,rfl,0,by simp_all,aY _⟩) ?_)
 .rintro i rest b s' ⟨rfl,hb,i',hr,hi⟩;have hlt':i'<items.size:=by clear hr;lia
  have e:items.size-i'=(items.size-(i'+1))+1:=by clear hr hsz;grind
  rw[e,List.range'_succ]at hr;obtain⟨rfl,rfl⟩:=cZ hr;obtain⟨k,t,h1,h2⟩:=vget hv (by simpa using hlt');have h3:items[i]?=some (.str k t):=by rw[<- Array.getElem?_toList];exact h2
  simp only[h3];refine zay (eqBool_str ?_)
  by_cases hk:k=x
  .subst hk;have:i=j:=by
    rcases Nat.lt_or_ge i j with h|h
    .grind
    .lia
   subst this;rw[aD (by simp)];exact zay (zay (wpAny_mkInt (zab (zab ⟨rfl,rfl⟩))))
  .rw[aJ (by clear hl;grind)];refine zab ⟨rfl,rfl,_,rfl,?_⟩
   clear hr h2;grind
 .clear hlt;grind
 .rintro⟨b,_⟩ s' ⟨hb,rfl⟩;subst hb;exact zab q
section
variable {X:Cx}
def rPart:Str->V->Hp->VK->Prop:=λx y H Q=>∃z,y=.str z/\(z.length==0)=false/\x.length<=sizeLine/\∀p,H p=none->Q (.ref p) (upd H p (.tup ((partS x z).map V.str)))
def rSplit:Str->V->Hp->VK->Prop:=λx y H Q=>∃z,y=.str z/\(z.length==0)=false/\x.length<=sizeLine/\(Txt.split x z).length<=sizeLine/\∀p,H p=none->Q (.ref p) (upd H p (.lst ((Txt.split x z).map V.str)))
set_option tactic.hygienic true in
def sm_part:SmR X "partition" rPart:=λU s Z x t pos a Q h=>by
 refine⟨_,_,eU,gj,PySem.F.type_str_partition,fD _ _ _,(λ_ e=>nomatch e),?_⟩;refine method1_meets gj PySem.F.entry_str_partition (thn h λv s1 hzz=>?_);obtain⟨y,H1,I1,ry,z,hz,h1,h2,q⟩:=hzz;subst hz;obtain⟨u,rfl⟩:=ry;refine⟨fD _ _ _,PySem.F.args_str_partition_2 _ _,_,meets_str_partition x z t u h1 h2,?_⟩;have q':=q _ (I1.hok.fresh (zac _));unfold partS at q'
 split
 .rename_i i tl e;rw[e]at q';exact⟨.ref _,_,I1.laid (o:=.tup _) (λb o e=>zaz _ e) (zac _) ⟨sz3 _ _ _,_,vals3 _ _ _ _ _ _,IsTup.new _ _⟩,rfl,q'⟩
 .rename_i e;rw[e]at q';exact⟨.ref _,_,I1.laid (o:=.tup _) (λb o e=>zaz _ e) (zac _) ⟨sz3 _ _ _,_,vals3 _ _ _ _ _ _,IsTup.new _ _⟩,rfl,q'⟩
def sm_split:SmR X "split" rSplit:=λU s Z x t pos a Q h=>by
 refine⟨_,_,eU,PySem.F.slot_str_split,PySem.F.type_str_split,fD _ _ _,(λw e=>nomatch e),?_⟩;refine method1_meets PySem.F.slot_str_split PySem.F.entry_str_split (thn h λv s1 hzz=>?_);obtain⟨y,H1,I1,ry,z,hz,h1,h2,h3,q⟩:=hzz;subst hz;obtain⟨u,rfl⟩:=ry;refine⟨fD _ _ _,PySem.F.args_str_split_2 _ _,?_⟩;have q':=q _ (I1.hok.fresh (zac _));have itself:Txt.split x z=[x]->listOfItself x t X.A (wants (EP X _ Z Q) X.xe) s1:=λe=>by rw[e]at q';exact⟨.ref _,_,I1.laid (o:=.lst _) (λb o e=>zaz _ e) (zac _) ⟨by exact(by decide:1<=16777216),_,0,.cons (jzi x t) .nil,zbz _ rfl⟩,rfl,q'⟩
 cases c1:(decide (x.length<z.length) || decide (Builtin.Str.strKind x<Builtin.Str.strKind z))with
 |true=>exact⟨_,meets_str_split_cannot_occur x z t u c1,itself (by unfold Txt.split;simp_all)⟩
 |false=>
  cases c2:(Builtin.Str.occurrences x z 0 _ _).isEmpty with
  |true=>exact⟨_,meets_str_split_not_found x z t u c1 h1 c2,itself (by unfold Txt.split;simp_all)⟩
  |false=>
   have e:Txt.split x z=Builtin.Str.partsBetween x (Builtin.Str.occurrences x z 0 x.length (x.length+1)) z.length:=by unfold Txt.split;rw[aJ (by clear I1;grind),aJ (by simp_all)]
   rw[e]at q' h3;exact⟨_,meets_str_split_sep x z t u c1 h1 c2 h2 h3,.ref _,_,I1.laid (o:=.lst _) (λb o e=>zaz _ e) (zac _) ⟨by simp_all,_,0,jno _ _,zbz _ rfl⟩,rfl,q'⟩
inductive TupAt(K:Af)(mg:qc)(x:Str)(ks:Ab):Prop
| mk (a:Addr) (its:Ah) (n:Nat) (sl:qg) (h1:mg x=some (.ref a)) (h2:K.lookup a=some ⟨.type "tuple",none,.seq its n,sl⟩) (h3:Vals (ks.map V.str) its.toList) (h4:its.size<=sizeLine)
noncomputable def idxS(x:Str):Ab->Nat->Option Nat
|[],_=>none
|k::ks,j=>if k=x then some j else idxS x ks (j+1)
theorem idxS_ok:∀{ks:Ab}{i j:Nat},idxS x ks i=some j->∃m,j=i+m/\ks[m]?=some x/\∀l,l<m->ks[l]?≠some x
|[],_,_,h=>by cases h
|k::ks,i,j,h=>by
  unfold idxS at h
  split at h
  .simp_all
  .rename_i e;obtain⟨m,e1,e2,e3⟩:=idxS_ok h;refine⟨m+1,by lia,by assumption,λl hl=>?_⟩
   clear e2 e1 h;grind
end
def tupAt3{K:Af}(X:K.In h)(G:h.Ns mainGlobals mg)(y:W.nsIn K mainGlobals x=some (some (.ref aT)))(yT:K.lookup aT=some ⟨.type "tuple",none,.seq #[.str a u,.str b v,.str c w] nT,sT⟩):TupAt K mg x [a,b,c]:=
 ⟨aT,_,nT,sT,W.mg_of X G y,yT,.cons ⟨u,rfl⟩ (.cons ⟨v,rfl⟩ (.cons ⟨w,rfl⟩ .nil)),zdz (by decide:3<=16777216) (dI sizeLine_eq.symm)⟩
end DL
namespace DL
open L2
def wx_of:Wx (cxOf (CX1 P w) P w K mg base N qual scope f cd A outer s H E) E:=λz z z z B=>jJr B
structure ErrM(K:Af)(mg:qc)(cs:Ab)(b:Str):Prop where
 atb:∃C,mg b=some (.ref C)
 ex:∀c∈cs,∀C,mg c=some (.ref C)->∀D,mg b=some (.ref D)->W.exmOne K (.ref C) (.ref D)=some true
noncomputable def xTab2(K:Af)(es:List (Str×Addr))(B:Addr):Bool:=es.all λp=>W.exmOne K (.ref p.2) (.ref B)==some true
def errM_mk{K:Af}{mg:qc}{es:List (Str×Addr)}{B:Addr}{b:Str}(hm:∀p∈es,mg p.1=some (.ref p.2))(hb:mg b=some (.ref B))(h:xTab2 K es B=true):ErrM K mg (es.map (·.1)) b:=by refine⟨⟨B,hb⟩,λc hc C hC D hD=>?_⟩;rw[hb]at hD;cases hD;obtain⟨p,hp,rfl⟩:=zcv.mp hc;rw[hm p hp]at hC;cases hC;exact bB.mp (aQ.mp h p hp)
end DL
namespace L2
open PyProof.Rows
open PySem.W (Frag InstAt Looks findIn mroIn clsIn)
section
variable {X:Cx}
def jI9(F:Ap X CX k f fd ps sp)(hr:Room k X.A)(hg:Gl X x)(hm:X.mg x=some (.ref f))(hk:W.keepIn X.K (.ref f)=true)(hb:Binds X.K fd ps [])
  (hx:∀H1 s1 e s',Inv X U Z H1 s1->CX X.stack H1 s1 E e s'->X.xe e s') (ha:PA X (e::es) t) (hdb:Aq x) (he:zsE e es X.env) (hpl:zbT pos es X.env)
  (I:Inv X U Z H s) (h:jG9 sp [] E t Z H Q):Am X (eval (.Call (.Name x p) (e::es) [] pos) X.env) (EP X U Z Q) X.xe s:=by refine cD (jge I hg hm ?_ hdb);refine fF I.ok.mod.kin hk (thn (ha pos _ s Z H _ I h) λus s1 ⟨vs,H1,I1,r,q⟩=>⟨I1.kIn,?_⟩) he hpl;have q3:sp _ H1 Q E:=q;rw[aO]at q3;exact jLs F hr hb hx I1 r q3
end
end L2
namespace L2
open PyProof.Rows
section
variable {k:Nat->Int}
variable (kd:∀i j,i<n->j<n->k i=k j->i=j)
include kd
end
open Att
end L2
namespace DL
open L2
noncomputable def noL(K:Af):Bool:=K.all λp=>match p.2.cls with
 |.type n=>n != "list"
 |_=>true
def jrw{K:Af}:K.lookup a=some o->(a,o)∈K:=by
 induction K with
 |nil=>intro h;cases h
 |cons p K ih=>
  intro h;rw[aZ]at h
  split at h
  .rename_i e;cases h;rw[bB.mp e];exact zaa
  .exact zaw _ (ih h)
def noL_ok(h:noL K=true)(e:K.lookup a=some o):o.cls≠.type "list":=λz=>by
 have:=aQ.mp h _ (jrw e);simp_all
def gExt(i:Nat)(fa:DSt->M D):DSt->M Out:=λY=>(fa Y).b λd=>match (Y[i]?).join,d with
 |some (.lst xs),.lst ys=>if xs.length+ys.length<=sizeLine then M.p (.nx (Y.set i (some (.lst (xs++ys)))))else none
 |_,_=>none
end DL
namespace SI
open L2
open DL (jzf op_addC)
section
variable {X:Cx}
abbrev Lm:=Sto->List D->List D->Option (List D×D)
def sMt(g:Lm)(fo:DSt->MS D)(fl:DSt->MS (List D)):DSt->MS D:=λY=>(fo Y).b λx A=>match x with
 |.obj i=>match A[i]? with
  |some (.lst _)=>((fl Y).b λvs A=>match A[i]? with
   |some (.lst ds)=>(g A ds vs).map λq=>(.ok q.2,A.set i (.lst q.1))
   |_=>none) A
  |_=>none
 |_=>none
def MtS(mg:qc)(g:Lm)(r:V->List V->Hp->VK->Prop):Prop:=∀{A ds vs q J xs us l H Q},g A ds vs=some q->R mg J A H->Paired (RV J) ds xs->Paired (RV J) vs us->H l=some (.lst xs) ->
 (∀ys v,Paired (RV J) q.1 ys->RV J q.2 v->Q v (upd H l (.lst ys)))->r (.ref l) us H Q
def jF6{id:String}(slot:Slot "list" name id)(hty:typeOf (.builtin id)=pure (.type "method_descriptor"))(hm:MtR X id r)(hg:MtS X.mg g r)(ho:SE X Er o fo)(ha:SA X Er (e::es) fl)
  (hbase:attributeBase o name X.env (eval o X.env)=eval o X.env)
  (hfew:((backTo p3 (starEach (e::es) X.env)).all (λx=>!x.1)&&(backToKw p3 (keywordEach [] X.env)).all (λx=>x.1.isSome)
   && decide ((e::es).length+([]:Ai).length+(if([]:Ai).isEmpty then 0 else 1)<30))=true)
  (hline:(p2.endLine==p3.line)=true) (hs:zsE e es X.env) (hplain:(backTo p3 (starEach es X.env)).any (·.1)=false):SE X Er (.Call (.Attribute o name p2) (e::es) [] p3) (sMt g fo fl):=by
 refine sgo (jE2 gD slot hty hm ho ha hbase hfew hline hs hplain) λh l q hf k=>bS h l hf k λx A1 hf u ρ1 H1 h l r k _=>?_
 split at hf
 .split at hf
  .rename_i i _ ds0 hi;obtain⟨a,rfl,e1,xs0,q1,_⟩:=h.rd (K:=[]) r hi;refine⟨.inl ⟨rfl,xs0,SqL.of q1⟩,bS h l hf k λvs A2 hf us ρ2 H2 h l r2 k l2=>?_⟩
   split at hf
   .rename_i ds hi2;obtain⟨⟨ys,d⟩,e3,rfl⟩:=aB.mp hf;obtain⟨a2,z,e4,xs,q2,p4⟩:=h.rd (K:=[]) (r.mono l2) hi2;cases z;exact hg e3 h p4 r2 q2 λzs v p5 r5=>k v ρ2 _ (pr _) (h.put e4 ⟨zs,jad,p5⟩) r5
   .cases hf
  .cases hf
 .cases hf
def sMt0(g:Lm)(fo:DSt->MS D):DSt->MS D:=λY=>(fo Y).b λx A=>match x with
 |.obj i=>match A[i]? with
  |some (.lst ds)=>(g A ds []).map λq=>(.ok q.2,A.set i (.lst q.1))
  |_=>none
 |_=>none
def jL5{id:String}(slot:Slot "list" name id)(hty:typeOf (.builtin id)=pure (.type "method_descriptor"))(hm:MtR X id r)(hg:MtS X.mg g r)(ho:SE X Er o fo)
  (hbase:attributeBase o name X.env (eval o X.env)=eval o X.env) (hline:(p2.endLine==p3.line)=true):SE X Er (.Call (.Attribute o name p2) [] [] p3) (sMt0 g fo):=by
 refine sgo (jKq gD slot hty hm ho hbase hline) λh l q hf k=>bS h l hf k λx A1 hf u ρ1 H1 h l r k _=>?_
 split at hf
 .split at hf
  .rename_i ds hi;obtain⟨⟨ys,d⟩,e3,rfl⟩:=aB.mp hf;obtain⟨a,rfl,e1,xs0,q1,p4⟩:=h.rd (K:=[]) r hi;exact⟨.inl ⟨rfl,xs0,SqL.of q1⟩,hg e3 h p4 .nil q1 λzs v p5 r5=>k v ρ1 _ (pr _) (h.put e1 ⟨zs,jad,p5⟩) r5⟩
  .cases hf
 .cases hf
noncomputable def mApp:Lm:=λz ds vs=>match vs with
 |[v]=>if ds.length<sizeLine then some (ds++[v],.non)else none
 |_=>none
def jur:MtS mg mApp jvl:=by
 intro A ds vs q J xs us l H Q hg hR p r e k;unfold mApp at hg
 split at hg
 .split at hg
  .rename_i hz;cases hg;refine pc1 r λ_ r=>?_;exact⟨l,xs,_,rfl,rfl,e,by rw[<- p.length];exact hz,k _ _ (papp p (.cons r .nil)) rfl⟩
  .cases hg
 .cases hg
def mExt:Lm:=λA ds vs=>match vs with
 |[.obj j]=>(A[j]?.bind lsO).bind λes=>if ds.length+es.length<=sizeLine then some (ds++es,.non)else none
 |_=>none
def rExt:V->List V->Hp->VK->Prop:=λx vs H Q=>∃l b xs zs,x=.ref l/\vs=[.ref b]/\H l=some (.lst xs)/\Rd H b (.lst zs)/\xs.length+zs.length<=sizeLine/\Q .non (upd H l (.lst (xs++zs)))
def jJ4:MtR X "list.extend" rExt:=by
 intro U s Z H x vs v us Q I rx rv h;obtain⟨l,b,xs,zs,rfl,rfl,hH,hB,hz,q⟩:=h;cases rx;obtain⟨u,rfl,ru⟩:=rv.one;cases ru;obtain⟨z,its,n,r,hl,e⟩:=I.lstM hH;obtain⟨z2,its2,n2,r2,e2⟩:=hB.ok I.hok;have hl2:=r2.length;have hsz:its.toArray.size+its2.toArray.size<=sizeLine:=by rw[zbx,zbx];simp_all
 have hlong:¬(!its.toArray.isEmpty&&Builtin.List.listTooLong (its.toArray.size+its2.toArray.size))=true:=by rw[jql hsz,Bool.and_false];exact bD
 refine fE gy ⟨_,e,rfl⟩ PySem.F.entry_list_extend (PySem.F.args_list_extend_2 _ _)
  (AutoSeq1.list_extend_list_list_0 l _ n b _ n2 hlong (by simp_all) (by lia)) ⟨e,e2,?_⟩
 refine⟨.non,_,I.lset hH e (by simp) (r.append r2) ?_,rfl,q⟩
 clear hl;grind
def jEk:MtS mg mExt rExt:=by
 intro A ds vs q J xs us l H Q hg hR p r e k;unfold mExt at hg
 split at hg
 .refine ob hg λes hj hg=>?_
  refine ob hj λso h1 h2=>?_
  split at hg
  .rename_i hz;cases hg;refine pc1 r λ_ r=>?_
   obtain⟨b,rfl,e1,at1⟩:=hR.rd (K:=[]) r h1;have:∃zs,Rd H b (.lst zs)/\Paired (RV J) es zs:=by
    cases so with
    |lst _=>cases h2;obtain⟨zs,q1,p2⟩:=at1;exact⟨zs,.inl q1,p2⟩
    |fro _=>cases h2;exact at1
    |_=>cases h2
   obtain⟨zs,q1,p2⟩:=this;exact⟨l,b,xs,zs,rfl,rfl,e,q1,by rw[<- p.length,<- p2.length];exact hz,k _ _ (papp p p2) rfl⟩
  .cases hg
 .cases hg
noncomputable def mPop:Lm:=λz ds vs=>match vs with
 |[]=>(ds[ds.length-1]?).map λd=>(ds.dropLast,d)
 |_=>none
def jPp(h:Paired F l m):Paired F l.dropLast m.dropLast:=by
 induction h with
 |nil=>exact .nil
 |cons a t ih=>cases t with
  |nil=>exact .nil
  |cons b t=>exact .cons a ih
def jEl:MtS mg mPop rPop:=by
 intro A ds vs q J xs us l H Q hg hR p r e k;unfold mPop at hg
 split at hg
 .cases r;obtain⟨d,e1,rfl⟩:=aB.mp hg;obtain⟨y,e2,r2⟩:=pget p e1;exact⟨l,xs,y,rfl,rfl,e,by rw[<- p.length];exact e2,k _ _ (jPp p) r2⟩
 .cases hg
def pset{j:Nat}(r:F x y)(h:Paired F l m):Paired F (l.set j x) (m.set j y):=by
 induction h generalizing j with
 |nil=>exact .nil
 |cons a t ih=>cases j with
  |zero=>exact .cons r t
  |succ n=>exact .cons a ih
def putI(x:D)(k:D)(d:D)(A:Sto):Option Sto:=match x,k with
 |.obj i,.int k=>match A[i]? with
  |some (.lst ds)=>(ixN ds.length k).map λj=>A.set i (.lst (ds.set j d))
  |_=>none
 |_,_=>none
set_option tactic.hygienic true in
def jFm(hf:putI x k d A=some A')(h:R mg J A H)(r1:RV J x u)(r2:RV J k v)(r3:RV J d w)(c:∀H',R mg J A' H'->Q H'):jLi u v w H Q:=by
 unfold putI at hf
 split at hf
 .split at hf
  .rename_i ds hi;obtain⟨j,e1,rfl⟩:=aB.mp hf;obtain⟨a,rfl,e2,xs,q1,q2⟩:=h.rd (K:=[]) r1 hi;cases r2;exact⟨a,xs,_,j,rfl,rfl,q1,by rw[<- q2.length];exact e1,c _ (h.put e2 ⟨_,jad,pset r3 q2⟩)⟩
  .cases hf
 .cases hf
def oPut(fo fi fv:DSt->MS D):DSt->MS Out:=λY=>(fv Y).b λd=>(fo Y).b λx=>(fi Y).b λk A=>(putI x k d A).map λA'=>(.ok (.nx Y),A')
def jMu(ho:SE X Er o fo)(hi:SE X Er ix fb)(hv:SE X Er e fv)
  (ha:∀v,assign (.Subscript o ix p2) X.env v=(do
   let ov <- holding [v] (eval o X.env)
   let iv <- holding [v,ov] (eval ix X.env)
   standAt p2
   holding [v,ov,iv] (setItem ov iv v)
   release [v,ov,iv] []))
  (hs:swapsWithSole [.Subscript o ix p2] e pos.line X.env=pure false) (hw:swappedStores [.Subscript o ix p2] e X.env=pure none)
  (h1:(assignEach [.Subscript o ix p2] X.env).map (·.2)=[assign (.Subscript o ix p2) X.env]):SS X Er (.Assign [.Subscript o ix p2] e pos) (oPut fo fb fv):=by
 refine sgO (jBq hv (jK0 ho hi jzx ha) hs hw h1) λh l q hf k=>bO h l hf k λd A1 hf v ρ1 H1 h l r1 k z=>bO h l hf k λx A2 hf u ρ2 H2 h l r2 k l2=>bO h l hf k λkk A3 hf w J3 H3 h l r3 k l3=>?_
 obtain⟨A',e1,rfl⟩:=aB.mp hf;exact jFm e1 h (r2.mono l3) r3 (r1.mono (l2.trans l3)) λH' h'=>k _ J3 H' (pr _) h' l
def oAug(i:Nat)(g:D->D->MS D)(fa:DSt->MS D):DSt->MS Out:=λY=>(sVar i Y).b λx=>(fa Y).b λy=>(g x y).b λd=>MS.p (.nx (Y.set i (some d)))
def jMp(hN:X.N.Nodup)(hop:OpR X (inplaceOp op) r)(hg:OpS X.mg g r)(he:SE X Er e fa)(hi:X.N[i]?=some x)(hx:Loc X.env.scope x)(hf:An X x):SS X Er (.AugAssign (.Name x pos') op e pos) (oAug i g fa):=by
 rintro U s Z H Dn I ⟨J,Y,A,h,l,q,hq,k⟩;refine jK6 hN hi hx he hop hf _ s Z H Dn I ?_;rcases MS.b_inv hq with ⟨d,A1,e1,hq⟩|⟨y,A1,e1,rfl⟩
 .obtain⟨d',e2,e3⟩:=MS.o_inv e1;cases e3;obtain⟨v,e4,r4⟩:=l.val i d (by clear hi hf he;grind);refine⟨v,e4,bO h l hq k λy A2 hq u ρ2 H2 h l r2 k l2=>?_⟩;rcases MS.b_inv hq with ⟨z,A3,e5,hq⟩|⟨z,A3,e5,rfl⟩
  .cases hq;exact hg (Er:=Er) e5 h (r4.mono l2) r2 λv J3 H3 l3 h3 r3=>k _ J3 H3 l3 h3 ((l.mono l3).set r3)
  .exact hg e5 h (r4.mono l2) r2 k
 .obtain⟨d',e2,e3⟩:=MS.o_inv e1;cases e3
def gCatS:D->D->MS D
|.int i,.int j=>MS.p (.int (i+j))
|.str x,.str y=>λA=>if x.length+y.length<=sizeLine then some (.ok (.str (x++y)),A)else none
|.obj i,.obj j=>λA=>match sdO A (.obj i),sdO A (.obj j)with
  |some (true,_),some (true,_)=>(side true i A).bind λxs=>(side true j A).bind λys=>if xs.length+ys.length<=sizeLine then some (.ok (.obj A.length),A++[.lst (xs++ys)])else none
  |some (false,_),some (false,_)=>(side false i A).bind λxs=>(side false j A).bind λys=>if xs.length+ys.length<=sizeLine then(if xs.isEmpty then some (.ok (.obj j),A)else if ys.isEmpty then some (.ok (.obj i),A)else some (.ok (.obj A.length),A++[.tup (xs++ys)]))else none
  |_,_=>none
|_,_=>λz=>none
def jLf(K:Af):R2:=λx y H Q=>((rI0 (λi j=>.int (i+j)) x y H Q\/∃i j,x=.str i/\y=.str j/\i.length+j.length<=sizeLine/\Q (.str (i++j)) H)\/jzf K x y H Q\/jFq K x y H Q)\/jLg K x y H Q
def jEw:OpR X (binaryOp .Add) (jLf X.K):=op_addC.or jEu
def jOe:OpS mg gCatS (jLf K):=by
 intro x y A q J H u v Er Q hf hR r1 r2 k;unfold gCatS at hf
 split at hf
 .cases hf;cases r1;cases r2;exact .inl (.inl (.inl ⟨_,_,rfl,rfl,k _ J H (pr _) hR rfl⟩))
 .split at hf
  .rename_i hz;cases hf;cases r1;cases r2;exact .inl (.inl (.inr ⟨_,_,rfl,rfl,hz,k _ J H (pr _) hR rfl⟩))
  .cases hf
 .split at hf
  .obtain⟨xs,e1,hf⟩:=aG.mp hf;refine ob hf λys e2 hf=>?_
   split at hf
   .rename_i hz;cases hf;obtain⟨a,us,rfl,s1,p1⟩:=jcn hR r1 e1;obtain⟨b,vs,rfl,s2,p2⟩:=jcn hR r2 e2;exact .inl (.inr (.inl ⟨a,b,us,vs,rfl,rfl,s1,s2,by rw[<- p1.length,<- p2.length];exact hz,λp hp=>newO (o:=.lst _) hR hp ⟨_,jad,Paired.mapP (papp p1 p2) λ_ _=>RV.mono (aA ..)⟩ k⟩))
   .cases hf
  .obtain⟨xs,e1,hf⟩:=aG.mp hf;refine ob hf λys e2 hf=>?_
   split at hf
   .rename_i hz;obtain⟨a,us,rfl,s1,p1⟩:=jcn hR r1 e1;obtain⟨b,vs,rfl,s2,p2⟩:=jcn hR r2 e2;have z1:us.length+vs.length<=sizeLine:=by rw[<- p1.length,<- p2.length];exact hz
    split at hf
    .rename_i hx;cases hf;cases eD.mp hx;cases p1
     exact .inr ⟨a,b,[],vs,rfl,rfl,s1,s2,rfl,k _ J H (pr _) hR r2⟩
    .rename_i hx;have hx':us≠[]:=λz=>by subst z;cases p1;exact hx rfl
     split at hf
     .rename_i hy;cases hf;cases eD.mp hy;cases p2
      exact .inl (.inr (.inr ⟨a,b,us,[],rfl,rfl,s1,s2,hx',z1,λ_=>k _ J H (pr _) hR r1,λz=>absurd rfl z⟩))
     .rename_i hy;cases hf;exact .inl (.inr (.inr ⟨a,b,us,vs,rfl,rfl,s1,s2,hx',z1,λz=>by subst z;cases p2;trivial,λ_ p hp=>newO (o:=.tup _) hR hp ⟨_,jad,Paired.mapP (papp p1 p2) λ_ _=>RV.mono (aA ..)⟩ k⟩))
   .cases hf
  .cases hf
 .cases hf
end
end SI
namespace SI
open L2
section
variable {X:Cx}{rest:Ad}
def jo3(ho:OpR X (compareOp op) r)(hg:OpS X.mg g r)(ha:SE X Er a fa)(hb:SE X Er b fb)(hm:behindInMarks op b=false):SE X Er (.Compare a [op] [b] pos) (s2 g fa fb):=by exact sgo (jvb ho ha hb hm) λh l q hf k=>bS h l hf k λx A1 hf u ρ1 H1 h l r1 k l1=>bS h l hf k λy A2 hf v ρ2 H2 h l r2 k l2=>hg hf h (r1.mono l2) r2 k
def tB:D->MS Bool
|.bl b=>MS.p b
|_=>λz=>none
def sT2(g:D->D->MS D)(fa fb:DSt->MS D):DSt->MS Bool:=λY=>(fa Y).b λx=>(fb Y).b λy=>(g x y).b tB
def jG3(ho:OpR X (compareOp op) r)(hg:OpS X.mg g r)(ha:SE X Er a fa)(hb:SE X Er b fb)(hm:behindInMarks op b=false):ST X Er (.Compare a [op] [b] pos) (sT2 g fa fb):=by
 refine sgo (jFl ho ha hb hm) λh l q hf k=>bS h l hf k λx A1 hf u ρ1 H1 h l r1 k l1=>bS h l hf k λy A2 hf v ρ2 H2 h l r2 k l2=>?_
 rcases MS.b_inv hf with ⟨d,A3,e1,hf⟩|⟨d,A3,e1,rfl⟩
 .refine hg (Er:=Er) e1 h (r1.mono l2) r2 λw J3 H3 l3 h3 r3=>?_
  cases d with
  |bl z=>cases hf;exact⟨z,r3,k _ J3 H3 l3 h3 rfl⟩
  |_=>cases hf
 .exact hg e1 h (r1.mono l2) r2 k
def sCh(g g':D->D->MS D)(fa fb fc:DSt->MS D):DSt->MS D:=λY=>(fa Y).b λx=>(fb Y).b λy=>(g x y).b λd=>match d with
 |.bl true=>(fc Y).b λz=>g' y z
 |.bl false=>MS.p (.bl false)
 |_=>λw=>none
def jzs(ho:OpR X (compareOp op) r)(hg:OpS X.mg g r)(ho':OpR X (compareOp op') r')(hg':OpS X.mg g' r')(ha:SE X Er a fa)(hb:SE X Er b fb)(hc:SE X Er c fc)(hm:lastMarks [op,op'] [b,c]=false):SE X Er (.Compare a [op,op'] [b,c] pos) (sCh g g' fa fb fc):=by
 refine sgo (jyy ho ho' ha hb hc hm) λh l q hf k=>bS h l hf k λx A1 hf u ρ1 H1 h l r1 k l1=>bS h l hf k λy A2 hf v ρ2 H2 h l r2 k l2=>?_
 rcases MS.b_inv hf with ⟨d,A3,e1,hf⟩|⟨d,A3,e1,rfl⟩
 .refine hg (Er:=Er) e1 h (r1.mono l2) r2 λw J3 H3 l3 h3 r3=>?_
  split at hf
  .exact⟨_,r3,iteT (bS h3 (l.mono l3) hf (k.up l3) λz A4 hf w J4 H4 h l r4 k l4=>hg' hf h (r2.mono (l3.trans l4)) r4 k)⟩
  .cases hf;exact⟨_,r3,iteF (k _ J3 H3 l3 h3 rfl)⟩
  .cases hf
 .exact hg e1 h (r1.mono l2) r2 k
def jo1(fa fb:DSt->MS D):DSt->MS D:=λY=>(fa Y).b λx=>match x with
 |.bl true=>fb Y
 |.bl false=>MS.p (.bl false)
 |_=>λz=>none
def jLy(ha:SE X Er a fa)(hb:SE X Er (.BoolOp .And (b::rest) pos) fb):SE X Er (.BoolOp .And (a::b::rest) pos) (jo1 fa fb):=by
 refine sgo (jKp ha hb) λh l q hf k=>bS h l hf k λx A1 hf u ρ1 H1 h l r1 k l1=>?_
 split at hf
 .exact⟨_,r1,iteT ⟨ρ1,_,A1,h,l,q,hf,k⟩⟩
 .cases hf;exact⟨_,r1,iteF (k _ ρ1 H1 (pr _) h rfl)⟩
 .cases hf
def sOrV(fa fb:DSt->MS D):DSt->MS D:=λY=>(fa Y).b λx=>match x with
 |.bl true=>MS.p (.bl true)
 |.bl false=>fb Y
 |_=>λz=>none
def se_or(ha:SE X Er a fa)(hb:SE X Er (.BoolOp .Or (b::rest) pos) fb):SE X Er (.BoolOp .Or (a::b::rest) pos) (sOrV fa fb):=by
 refine sgo (jPt ha hb) λh l q hf k=>bS h l hf k λx A1 hf u ρ1 H1 h l r1 k l1=>?_
 split at hf
 .cases hf;exact⟨_,r1,iteT (k _ ρ1 H1 (pr _) h rfl)⟩
 .exact⟨_,r1,iteF ⟨ρ1,_,A1,h,l,q,hf,k⟩⟩
 .cases hf
def gNotS:D->MS D
|.bl b=>MS.p (.bl !b)
|_=>λz=>none
def jL6(ha:SE X Er a fa):SE X Er (.UnaryOp .Not a pos) (s1 gNotS fa):=by
 refine sgo (jKv ha) λh l q hf k=>bS h l hf k λx A1 hf u ρ1 H1 h l r1 k l1=>?_
 cases x with
 |bl z=>cases hf;exact⟨z,r1,k _ ρ1 H1 (pr _) h rfl⟩
 |_=>cases hf
def jP8{op:UnaryOp}{g:D->MS D}{r:V->Hp->VK->Prop}(ho:UnR X (unaryOp op) r)(hg:UnS X.mg g r)(ha:SE X Er a fa):SE X Er (.UnaryOp op a pos) (s1 g fa):=by exact sgo (jPu ho ha) λh l q hf k=>bS h l hf k λx A1 hf u ρ1 H1 h l r1 k l1=>hg hf h r1 k
def jL7{op:BoolOp}(ha:SE X Er a fa):SE X Er (.BoolOp op [a] pos) fa:=jKw ha
noncomputable def isN:D->Bool
|.non=>true
|_=>false
def gIsS(z:Bool):D->D->MS D
|x,.non=>MS.p (.bl (isN x==z))
|_,_=>λy=>none
def jJd(r:RV J x u):decide (u=.non)=isN x:=by
 cases x with
 |obj i=>obtain⟨a,_,rfl⟩:=r;rfl
 |_=>cases r;rfl
def is_S:OpS mg (gIsS true) (λx y H Q=>y=.non/\Q (.bl (decide (x=.non))) H):=by
 intro x y A q J H u v Er Q hf hR r1 r2 k
 cases y with
 |non=>cases hf;exact⟨r2,k _ J H (pr _) hR (by rw[jJd r1];cases isN x<;>rfl)⟩
 |_=>cases hf
def gMulS:D->D->MS D
|.obj i,.int k=>λA=>match A[i]? with
  |some (.lst xs)=>if -(2^63)<=k/\k<2^63/\xs.length*k.toNat<=sizeLine then some (.ok (.obj A.length),A++[.lst (List.replicate k.toNat xs).flatten])else none
  |_=>none
|x,y=>lO DL.gMul x y
theorem jKz(h:Paired F l m):∀n,Paired F (List.replicate n l).flatten (List.replicate n m).flatten
|0=>.nil
|n+1=>papp h (jKz h n)
def jLh:R2:=λx y H Q=>(rI (λi j=>(DL.inBig i&&DL.inBig j)=true) (λi j=>.int (i*j)) x y H Q\/∃z n,x=.str z/\y=.int n/\(z.length<=4096/\-4096<=n/\n<=4096)/\Q (.str (Txt.mul z n)) H)\/rRep x y H Q
def jos:OpR X (binaryOp .Mult) jLh:=DL.op_mulD.or jKi
def jEm:OpS X.mg gMulS jLh:=by
 intro x y A q J H u v Er Q hf hR r1 r2 k;unfold gMulS at hf
 split at hf
 .cases r2
  split at hf
  .rename_i hi
   split at hf
   .rename_i hz;cases hf;obtain⟨a,rfl,_,ys,q1,q2⟩:=hR.rd (K:=[]) r1 hi;exact .inr ⟨a,_,ys,rfl,rfl,q1,hz.1,hz.2.1,by rw[<- q2.length];exact hz.2.2,λp hp=>newO (o:=.lst _) hR hp ⟨_,jad,Paired.mapP (jKz q2 _) λ_ _=>RV.mono (aA ..)⟩ k⟩
   .cases hf
  .cases hf
 .exact .inl (jfj (DL.opd_mul (X:=X)) hf hR r1 r2 k)
def SPo(X:Cx)(Er:Err)(e:Option Expr)(f:DSt->MS (Option Int)):Prop:=PO X e (tS (λz a b=>b=a) X.mg Er f)
def sNo:DSt->MS (Option Int):=λz=>MS.p none
def sPa(fa:DSt->MS D):DSt->MS (Option Int):=λY=>(fa Y).b λd=>match d with
 |.int i=>MS.p (some i)
 |_=>λz=>none
def jz6:SPo X Er none sNo:=by rintro U s Z H Q I ⟨J,Y,A,h,l,q,hf,k⟩;cases hf;exact jFc _ s Z H Q I (k _ J H (pr _) h rfl)
def jz7(ha:SE X Er a fa):SPo X Er (some a) (sPa fa):=by
 refine sgo (jFd ha) λh l q hf k=>bS h l hf k λx A1 hf u ρ1 H1 h l r1 k l1=>?_
 cases x with
 |int i=>cases hf;exact⟨i,r1,k _ ρ1 H1 (pr _) h rfl⟩
 |_=>cases hf
def cutS(x:D)(lo hi:Option Int):MS D:=λA=>match x with
 |.str z=>if z.length<=sizeLine then some (.ok (.str (Txt.slice z lo hi)),A)else none
 |x=>match sqD A x with
  |some (true,ds)=>some (.ok (.obj A.length),A++[.lst (DL.cutL ds lo hi)])
  |some (false,ds)=>if HT.sIx ds.length 0 lo=0/\HT.sIx ds.length ds.length hi=ds.length then none else some (.ok (.obj A.length),A++[.tup (DL.cutL ds lo hi)])
  |none=>none
def sSl(fa:DSt->MS D)(fl fh:DSt->MS (Option Int)):DSt->MS D:=λY=>(fa Y).b λx=>(fl Y).b λlo=>(fh Y).b λhi=>cutS x lo hi
def jPy(n:Nat)(h:Paired F l m):Paired F (l.take n) (m.take n):=by
 induction h generalizing n with
 |nil=>cases n<;>exact .nil
 |cons a t ih=>cases n with
  |zero=>exact .nil
  |succ n=>exact .cons a (ih n)
theorem jBn:∀{l:List α}{m:List β} (n:Nat),Paired F l m->Paired F (l.drop n) (m.drop n)
|_,_,0,h=>h
|_,_,_+1,.nil=>.nil
|_,_,n+1,.cons _ t=>jBn n t
def pcut(h:Paired (RV J) ds xs):Paired (RV J) (DL.cutL ds lo hi) (cutV xs lo hi):=by unfold DL.cutL cutV;rw[h.length];exact jPy _ (jBn _ h)
def jzu{fl fh:DSt->MS (Option Int)}(ha:SE X Er a fa)(hl:SPo X Er lo fl)(hu:SPo X Er hi fh):SE X Er (.Subscript a (.Slice lo hi none p2) pos) (sSl fa fl fh):=by
 rintro U s Z H Q I ⟨J,Y,A,h,l,q,hf,k⟩;refine jy3 (sl_list.or (sl_tup.or DL.sl_str)) ha hl hu _ s Z H Q I (bS h l hf k λx A1 hf u ρ1 H1 h l r1 k l1=>bS h l hf k λlo0 A2 hf vl ρ2 H2 h l r2 k l2=>bS h l hf k λhi0 A3 hf vh J3 H3 h l r3 k l3=>?_);subst r2;subst r3
 have r1:=r1.mono (l2.trans l3)
 have go:(match sqD A3 x with
  |some (true,ds)=>some (.ok (.obj A3.length),A3++[.lst (DL.cutL ds vl vh)])
  |some (false,ds)=>if HT.sIx ds.length 0 vl=0/\HT.sIx ds.length ds.length vh=ds.length then none else some (.ok (.obj A3.length),A3++[.tup (DL.cutL ds vl vh)])
  |none=>none)=some q->rSlL X.K u vl vh H3 Q\/rSlT X.K u vl vh H3 Q\/DL.rSlS u vl vh H3 Q:=λhf=>by
  split at hf
  .rename_i ds e1;cases hf;obtain⟨a,xs,rfl,s1,p1⟩:=jpc h r1 e1;exact .inl ⟨a,xs,rfl,s1,λp hp=>newO (o:=.lst _) h hp ⟨_,jad,Paired.mapP (pcut p1) λ_ _=>RV.mono (aA ..)⟩ k⟩
  .rename_i ds e1
   split at hf
   .cases hf
   .rename_i hz;cases hf;obtain⟨a,xs,rfl,s1,p1⟩:=jpc h r1 e1;exact .inr (.inl ⟨a,xs,rfl,s1,by rw[<- p1.length];exact hz,λp hp=>newO (o:=.tup _) h hp ⟨_,jad,Paired.mapP (pcut p1) λ_ _=>RV.mono (aA ..)⟩ k⟩)
  .cases hf
 unfold cutS at hf
 cases x with
 |str z=>
  dsimp only at hf
  split at hf
  .rename_i hz;cases hf;cases r1
   exact .inr (.inr ⟨_,rfl,hz,k _ J3 H3 (pr _) h rfl⟩)
  .cases hf
 |_=>exact go hf
def kTup:List D->MS D:=λds A=>match ds with
 |[d]=>match sqD A d with
  |some (true,xs)=>some (.ok (.obj A.length),A++[.tup xs])
  |some (false,_)=>some (.ok d,A)
  |none=>none
 |_=>none
def js4:CaS mg kTup (λxs H Q=>∃p ys,xs=[.ref p]/\((SqL K H p ys/\∀l,H l=none->Q (.ref l) (upd H l (.tup ys)))\/(SqT K H p ys/\Q (.ref p) H))):=by
 intro xs A q J H us Er Q hf hR r k;unfold kTup at hf
 split at hf
 .refine pc1 r λ_ r=>?_
  split at hf
  .rename_i e1;cases hf;obtain⟨a,xs,rfl,s,p⟩:=jpc hR r e1;exact⟨a,xs,rfl,.inl ⟨s,λl hl=>newO (o:=.tup _) hR hl ⟨xs,jad,Paired.mapP p λ_ _=>RV.mono (aA ..)⟩ k⟩⟩
  .rename_i e1;cases hf;obtain⟨a,xs,rfl,s,p⟩:=jpc hR r e1;exact⟨a,xs,rfl,.inr ⟨s,k _ J H (pr _) hR r⟩⟩
  .cases hf
 .cases hf
def jCr:CaS mg kLen (λxs H Q=>(∃p ys,xs=[.ref p]/\(SqL K H p ys\/SqT K H p ys)/\Q (.int ys.length) H)\/∃z,xs=[.str z]/\z.length<=sizeLine/\Q (.int z.length) H):=by
 intro xs A q J H us Er Q hf hR r k;unfold kLen at hf
 split at hf
 .split at hf
  .rename_i hz;cases hf;refine pc1 r λ_ r=>?_;cases r
   exact .inr ⟨_,rfl,hz,k _ J H (pr _) hR rfl⟩
  .cases hf
 .obtain⟨⟨z,ds⟩,e1,rfl⟩:=aB.mp hf;refine pc1 r λ_ r=>?_
  obtain⟨a,xs,rfl,s,p⟩:=jpc hR r e1;exact .inl ⟨a,xs,rfl,by cases z<;>first|exact .inl s|exact .inr s,k _ J H (pr _) hR (by rw[p.length];rfl)⟩
 .cases hf
end
def Rp.sq(h:Rp W A d x)(e:DL.seqD x=some xs):∃z ds,sqD A d=some (z,ds)/\Rps W A ds xs/\(x=if z=true then .lst xs else .tup xs):=by
 cases h with
 |lst hi e1 r=>
  cases e;refine ob e1 λso f1 f2=>?_
  refine⟨true,_,?_,r,rfl⟩;show A[_]?.bind sqO=_;rw[f1];cases so<;>cases f2<;>rfl
 |tup hi e1 r=>cases e;obtain⟨so,f1,f2⟩:=aG.mp e1;refine⟨false,_,?_,r,rfl⟩;show A[_]?.bind sqO=_;rw[f1];cases so<;>cases f2<;>rfl
 |_=>cases e
def jLr(r:Rps W A ds xs)(e:atI xs j=some x):∃d,atI ds j=some d/\Rp W A d x:=by
 unfold atI;rw[<- r.length];refine ob e λk e1 e2=>?_
 obtain⟨d,h1,h2⟩:=r.get e2;simp_all
def jBg(e:DL.gIx x y=some v)(h:∀xs,DL.seqD x=some xs->∃z ds,sqD A d=some (z,ds)/\Rps W A ds xs)(hs:∀z,x=.str z->d=.str z)(r2:Rp W A b y)(hd:∀z,d=.str z->x=.str z):tQ ReE W (gIx d b) A (.ok v):=by
 have sq:∀{xs j},DL.seqD x=some xs->atI xs j=some v->tQ ReE W (gIx d (.int j)) A _:=λ{xs j} e1 e2=>by
  obtain⟨z,ds,f1,f2⟩:=h xs e1;obtain⟨w,f3,f4⟩:=jLr f2 e2;refine⟨_,A,?_,aF _,.ok f4⟩;unfold gIx
  cases d with
  |str z=>rw[hd z rfl]at e1;cases e1
  |_=>dsimp only;rw[f1,aW,f3];rfl
 unfold DL.gIx at e
 split at e
 .cases r2;exact sq rfl e
 .cases r2;exact sq rfl e
 .cases r2
  split at e
  .rename_i hz;obtain⟨c,e1,rfl⟩:=aB.mp e;cases hs _ rfl;exact⟨_,A,by simp_all [gIx,aD],aF _,.ok .str⟩
  .cases e
 .cases e
def jh6:OpM gIx DL.gIx:=by intro x y v W A a b e hW r1 r2;refine jBg e (λxs h=>let ⟨z,ds,h1,h2,_⟩:=r1.sq h;⟨z,ds,h1,h2⟩) (λz h=>by subst h;cases r1;rfl) r2 λz h=>by subst h;cases r1;rfl
def jMf(hi:O.contains i=true)(hb:SmE n O fb pb):SmE n O (s2 gIx (sVar i) fb) (DL.f2 DL.gIx (DL.vR i) pb):=by
 intro F Y p A r s e;obtain⟨j,ds,xs,e1,e2,e3,e4,e5⟩:=s.own i (zbc.mp hi);have ep:DL.vR i p=some (.ok (.lst xs)):=by unfold DL.vR;rw[e2];rfl
 have ed:sVar i Y A=some (.ok (.obj j),A):=by unfold sVar MS.o;rw[e1];rfl
 unfold DL.f2 at e;rw[ep,DL.M.b_ok]at e;have:=smb (ga:=λy=>gIx (.obj j) y) hb s e λa b A1 s l r2 e=>by obtain⟨v,e6,rfl⟩:=DL.M.o_inv e;exact jBg e6 (λys h=>by cases h;exact⟨_,ds,by show A1[j]?.bind sqO=_;rw[jaf l e3];rfl,e5.grow l⟩) (λz h=>by cases h) r2 λz h=>by cases h
 obtain⟨q,A2,f1,f2,f3⟩:=this;exact⟨q,A2,by unfold s2;rw[show((sVar i Y).b _) A=_ from by unfold MS.b;rw[ed]];exact f1,f2,f3⟩
def jzl(h:sqD A d=some (z,ds)):∃i,d=.obj i/\sdO A d=some (z,i)/\side z i A=some ds:=by
 cases d with
 |obj i=>
  refine ob h λso e1 e2=>?_
  refine⟨i,rfl,?_⟩;have hs:side z i A=some ds/\(z=false->side true i A=none):=by unfold side;rw[e1];cases so<;>cases e2<;>exact⟨rfl,λh=>by cases h<;>rfl⟩
  refine⟨?_,hs.1⟩;cases z
  .exact (aJ (by simp_all)).trans (aD (by rw[hs.1];rfl))
  .exact aD (by rw[hs.1];rfl)
 |_=>cases h
def jgo(hW:∀j∈W,j<A.length)(r:Rps W A ds xs):Rp W (A++[.lst ds]) (.obj A.length) (.lst xs):=
 .lst (λz=>bH _ (hW _ z)) (by rw[aL (zac _),cF];rfl) (r.grow (aA ..)) (.inr ⟨ds,by rw[aL (zac _),cF];rfl⟩)
theorem cat_tup(hW:∀j∈W,j<A.length)(hz:xs.length+ys.length<=sizeLine)(r1:Rp W A a (.tup xs))(r2:Rp W A b (.tup ys)):tQ ReE W (gCatS a b) A (.ok (.tup (xs++ys))):=by
 obtain⟨z,ds,f1,f2,f3⟩:=r1.sq rfl;obtain⟨z',ds',f1',f2',f3'⟩:=r2.sq rfl;cases z<;>cases f3
 cases z'<;>cases f3'
 obtain⟨i,rfl,g1,g2⟩:=jzl f1;obtain⟨j,rfl,g1',g2'⟩:=jzl f1';have e0:gCatS (.obj i) (.obj j) A=if ds.isEmpty then some (.ok (.obj j),A)else if ds'.isEmpty then some (.ok (.obj i),A)else some (.ok (.obj A.length),A++[.tup (ds++ds')]):=by unfold gCatS;dsimp only;rw[g1,g1',g2,g2',aW,aW,aD (by rw[<- f2.length,<- f2'.length];exact hz)]
 cases h1:ds.isEmpty with
 |true=>cases eD.mp h1;cases f2;exact⟨_,A,by assumption,aF _,.ok r2⟩
 |false=>cases h2:ds'.isEmpty with
  |true=>cases eD.mp h2;cases f2';exact⟨_,A,by rw[e0,h1,aJ bD,aD h2],aF _,.ok (by clear g2';simp_all)⟩
  |false=>exact⟨_,_,by simp_all,aA ..,.ok (jb5 hW (je3 f2 f2'))⟩
def jou:OpM gCatS DL.gCat:=by
 intro x y v W A a b e hW r1 r2;unfold DL.gCat at e
 split at e
 .cases e;cases r1;cases r2;exact tQ.it .int
 .split at e
  .rename_i hz;cases e;cases r1;cases r2;exact⟨_,A,aD hz,aF _,.ok .str⟩
  .cases e
 .split at e
  .rename_i hz;cases e;obtain⟨z,ds,f1,f2,f3⟩:=r1.sq rfl;obtain⟨z',ds',f1',f2',f3'⟩:=r2.sq rfl;cases z<;>cases f3
   cases z'<;>cases f3'
   obtain⟨i,rfl,g1,g2⟩:=jzl f1;obtain⟨j,rfl,g1',g2'⟩:=jzl f1';refine⟨_,_,?_,aA ..,.ok (jgo hW (je3 f2 f2'))⟩;unfold gCatS;dsimp only;rw[g1,g1',g2,g2',aW,aW,aD (by rw[<- f2.length,<- f2'.length];exact hz)]
  .cases e
 .grind[cat_tup]
 .cases e
def jyv:OpM gCatS DL.gCatE:=by
 intro x y v W A a b e hW r1 r2;unfold DL.gCatE at e
 grind[cat_tup]
theorem jqv(h:Rps W A ds xs):∀k,Rps W A (List.replicate k ds).flatten (List.replicate k xs).flatten
|0=>.nil
|k+1=>je3 h (jqv h k)
def jJ7(e:DL.gMul x y=some v):(un v).isSome:=by
 unfold DL.gMul at e
 split at e<;>(try split at e)<;>cases e<;>rfl
def jEx:OpM gMulS DL.gMul:=by
 intro x y v W A a b e hW r1 r2;have:gMulS a b=lO DL.gMul a b:=by
  unfold gMulS
  split
  .cases r1<;>cases e
  .rfl
 rw[this];exact(jd9 (λz z z=>jJ7) e hW r1 r2)
set_option tactic.hygienic true in
def jo9(hl:SmA n O fl pl)(hb:SmE n O fb pb):SmF n O (s2 gMulS (sL (gNew .lst) fl) fb) (DL.fRep pl pb):=by
 intro F Y p A r s e;have hl2:SmF n O _ _:=jlt hl
 have e':((DL.fL DL.gLstD pl p).b λx=>(pb p).b λy=>match x,y with
   |.lst xs,.int k=>if -(2^63)<=k/\k<2^63/\xs.length*k.toNat<=sizeLine then DL.M.p (.lst (List.replicate k.toNat xs).flatten)else none
   |_,_=>none)=some r:=by
  rw[<- e];unfold DL.fRep DL.fL DL.gLstD;rcases pl p with _|_|xs
  .rfl
  .rfl
  .simp only[DL.M.b_ok]
   split
   .refine congrArg (DL.M.b (pb p)) (funext λy=>?_)
    grind
   .rfl
 rcases DL.M.b_inv e' with ⟨v,e1,e2⟩|⟨x,e1,rfl⟩
 .rcases hl2 s e1 with ⟨j,ds,xs,A1,f1,l1,hj,f2,f3,z⟩|⟨_,_,_,_,_,_,z⟩
  .cases z;have:=smbF (ga:=λy=>gMulS (.obj j) y) hb (s.grow l1) e2 λa b A2 s2 l2 r2 e3=>by
    split at e3
    .rename_i ys k h1;cases h1
     split at e3
     .rename_i hz;cases e3;cases r2
      rcases tF.new s2.lt (jqv ((f3.le (λ_=>zaw _)).grow l2) _)with ⟨j',ds',xs',A',g1,g2,g3,g4,g5,g6⟩|⟨_,_,_,_,_,_,g6⟩
      .cases g6;exact .ok j' ds' _ A' (by rw[<- g1];unfold gMulS;dsimp only;rw[jaf l2 f2];dsimp only;rw[aD (by rw[<- f3.length];exact hz)]) g2 g3 g4 g5 rfl
      .cases g6
     .cases e3
    .cases e3
   have eb:∀q,((fb Y).b _) A1=some q->s2 gMulS _ fb Y A=some q:=λq h=>by unfold s2;rw[show((sL _ fl Y).b _) A=_ from by unfold MS.b;rw[f1]];exact h
   rcases this with ⟨j',ds',xs',A',g1,g2,g3,g4,g5,g6⟩|⟨d',x',A',g1,g2,g3,g6⟩
   .exact .ok j' ds' xs' A' (eb _ g1) (l1.trans g2) (zdz l1.length_le g3) g4 g5 g6
   .exact .er d' x' A' (eb _ g1) (l1.trans g2) g3 g6
  .cases z
 .rcases hl2 s e1 with ⟨_,_,_,_,_,_,_,_,_,z⟩|⟨d',x',A',g1,g2,g3,g6⟩
  .cases z
  .cases g6;exact .er d' _ A' (by unfold s2;rw[show((sL _ fl Y).b _) A=_ from by unfold MS.b;rw[g1]]) g2 g3 rfl
def jGt(h:OpM g q)(ha:SmE n O fa pa)(hb:SmE n O fb pb):SmT n O (sT2 g fa fb) (DL.t2 q pa pb):=by
 intro F Y p A r s e;refine smb ha s e λa b A1 s l r1 e=>smb hb s e λa b A1 s l r2 e=>?_
 split at e
 .rename_i z e1;cases e;obtain⟨w,A2,f1,f2,f3⟩:=h e1 s.lt (r1.grow l) r2;cases f3 with|ok f3 =>
  cases f3;exact⟨_,A2,by unfold MS.b;rw[f1];rfl,f2,.ok rfl⟩
 .cases e
theorem jNk(h:Rp W A d x)(e:DL.truD x=some c):truS A d=some c:=by
 cases h with
 |non=>exact e
 |bl=>exact e
 |int=>exact e
 |str=>exact e
 |ty=>cases e
 |lst hi e1 r f=>obtain⟨z,ds,f1,f2,f3⟩:=(Rp.lst hi e1 r f).sq rfl;cases e;show(sqD A _).map _=_;rw[f1];cases f2<;>rfl
 |tup hi e1 r=>obtain⟨z,ds,f1,f2,f3⟩:=(Rp.tup hi e1 r).sq rfl;cases e;show(sqD A _).map _=_;rw[f1];cases f2<;>rfl
def jGu(ha:SmE n O fa pa):SmT n O (sTru fa) (DL.tTru pa):=by
 intro F Y p A r s e;refine smb ha s e λa b A1 s l r1 e=>?_
 obtain⟨c,e1,rfl⟩:=DL.M.o_inv e;exact⟨_,A1,by grind[jNk],aF _,.ok rfl⟩
def jzz(h:OpM g q)(h':OpM g' q')(ha:SmE n O fa pa)(hb:SmE n O fb pb)(hc:SmE n O fc pc):SmE n O (sCh g g' fa fb fc) (DL.fChain q q' pa pb pc):=by
 intro F Y p A r s e;refine smb ha s e λa b A1 s l r1 e=>smb hb s e λa b A1 s l r2 e=>?_
 split at e
 .rename_i e1;obtain⟨w,A2,f1,f2,f3⟩:=h e1 s.lt (r1.grow l) r2;cases f3 with|ok f3 =>
  cases f3;have:=smb hc (s.grow f2) e λc d A3 s l3 r3 e=>by obtain⟨v,e4,rfl⟩:=DL.M.o_inv e;exact h' e4 s.lt (r2.grow (f2.trans l3)) r3
  obtain⟨w,A3,g1,g2,g3⟩:=this;exact⟨w,A3,by grind[MS.b],f2.trans g2,g3⟩
 .rename_i e1;cases e;obtain⟨w,A2,f1,f2,f3⟩:=h e1 s.lt (r1.grow l) r2;cases f3 with|ok f3 =>
  cases f3;exact⟨_,A2,by unfold MS.b;rw[f1];rfl,f2,.ok .bl⟩
 .cases e
def jGi(ha:SmE n O fa pa)(hb:SmE n O fb pb):SmE n O (jo1 fa fb) (DL.fAnd pa pb):=by
 intro F Y p A r s e;refine smb ha s e λa b A1 s l r1 e=>?_
 split at e
 .cases r1;exact hb s e
 .cases e;cases r1;exact tQ.it .bl
 .cases e
def jMh(ha:SmE n O fa pa)(hb:SmE n O fb pb):SmE n O (sOrV fa fb) (DL.fOr pa pb):=by
 intro F Y p A r s e;refine smb ha s e λa b A1 s l r1 e=>?_
 split at e
 .cases e;cases r1;exact tQ.it .bl
 .cases r1;exact hb s e
 .cases e
def jHh:UnM gNotS DL.gNot:=by
 intro x v W A a e _ r;unfold DL.gNot at e
 split at e
 .cases e;cases r;exact tQ.it .bl
 .cases e
abbrev SmP:=Sm (ReT (α:=Option Int))
def jBx:SmP n O sNo DL.oNone:=by intro F Y p A r s e;cases e;exact tQ.it rfl
def jq5(ha:SmE n O fa pa):SmP n O (sPa fa) (DL.oSome pa):=by
 intro F Y p A r s e;refine smb ha s e λa b A1 s l r1 e=>?_
 obtain⟨c,e1,rfl⟩:=DL.M.o_inv e;cases b<;>cases e1
 cases r1;exact tQ.it rfl
theorem jqx:∀(k:Nat),Rps W A ds xs->Rps W A (ds.take k) (xs.take k)
|0,_=>.nil
|_+1,.nil=>.nil
|k+1,.cons a t=>.cons a (jqx k t)
theorem jqu:∀(k:Nat),Rps W A ds xs->Rps W A (ds.drop k) (xs.drop k)
|0,h=>h
|_+1,.nil=>.nil
|k+1,.cons _ t=>jqu k t
def jvu(h:Rps W A ds xs):Rps W A (DL.cutL ds lo hi) (DL.cutL xs lo hi):=by unfold DL.cutL;rw[h.length];exact jqx _ (jqu _ h)
def jA5(hd:∀z,d≠.str z):cutS d lo hi A=match sqD A d with
  |some (true,ds)=>some (.ok (.obj A.length),A++[.lst (DL.cutL ds lo hi)])
  |some (false,ds)=>if HT.sIx ds.length 0 lo=0/\HT.sIx ds.length ds.length hi=ds.length then none else some (.ok (.obj A.length),A++[.tup (DL.cutL ds lo hi)])
  |none=>none:=by
 cases d with
 |str z=>simp_all
 |_=>rfl
def jCy(hW:∀j∈W,j<A.length)(r1:Rp W A d x)(e1:DL.cutD x lo hi=some v):tQ ReE W (cutS d lo hi) A (.ok v):=by
 unfold DL.cutD at e1
 split at e1
 .cases e1;obtain⟨z,ds,f1,f2,f3⟩:=r1.sq rfl;cases z<;>cases f3
  exact⟨_,_,by rw[jA5 (λz h=>by subst h;cases r1),f1],aA ..,.ok (jgo hW (jvu f2))⟩
 .split at e1
  .cases e1
  .rename_i hz;cases e1;obtain⟨z,ds,f1,f2,f3⟩:=r1.sq rfl;cases z<;>cases f3
   exact⟨_,_,by rw[jA5 (λz h=>by subst h;cases r1),f1];dsimp only;rw[aJ (by rw[<- f2.length];exact hz)],aA ..,.ok (jb5 hW (jvu f2))⟩
 .split at e1
  .rename_i hz;cases e1;cases r1
   exact⟨_,A,aD hz,aF _,.ok .str⟩
  .cases e1
 .cases e1
def jMi(ha:SmE n O fa pa)(hl:SmP n O fo po)(hu:SmP n O fu pu):SmE n O (sSl fa fo fu) (DL.fSl pa po pu):=by
 intro F Y p A r s e;refine smb ha s e λa b A1 s l r1 e=>smb hl s e λlo z A2 s l2 r2 e=>smb hu s e λhi z A3 s l3 r3 e=>?_
 cases r2;cases r3
 obtain⟨v,e1,rfl⟩:=DL.M.o_inv e;exact jCy s.lt (r1.grow (l2.trans l3)) e1
def jiu:CaM kTup DL.kTuple:=by
 intro x v W A a e hW r;unfold DL.kTuple at e
 split at e
 .cases e;cases r with|cons r t =>
  cases t;obtain⟨z,ds,f1,f2,f3⟩:=r.sq rfl;cases z<;>cases f3
  exact⟨_,_,by unfold kTup;dsimp only;rw[f1],aA ..,.ok (jb5 hW f2)⟩
 .cases e;cases r with|cons r t =>
  cases t;obtain⟨z,ds,f1,f2,f3⟩:=r.sq rfl;cases z<;>cases f3
  exact⟨_,A,by unfold kTup;dsimp only;rw[f1],aF _,.ok r⟩
 .cases e
def jqe(h:sqD A d=some (z,ds)):kLen [d] A=some (.ok (.int ds.length),A):=by
 cases d with
 |obj i=>show(sqD A _).map _=_;rw[h];rfl
 |_=>cases h
def js3:CaM kLen DL.kLen:=by
 intro x v W A a e hW r;unfold DL.kLen at e
 split at e
 .cases e;cases r with|cons r t =>
  cases t;obtain⟨z,ds,f1,f2,f3⟩:=r.sq rfl;exact⟨_,A,jqe f1,aF _,.ok (by rw[f2.length];exact .int)⟩
 .cases e;cases r with|cons r t =>
  cases t;obtain⟨z,ds,f1,f2,f3⟩:=r.sq rfl;exact⟨_,A,jqe f1,aF _,.ok (by rw[f2.length];exact .int)⟩
 .split at e
  .rename_i hz;cases e;refine rc1 r λ_ r=>?_;cases r
   exact⟨_,A,aD hz,aF _,.ok .int⟩
  .cases e
 .cases e
def wr{Y:DSt}{p:PSt}{m:MS Out}{j:Nat}{ds:List D}{xs:List PD}(s:Sr F n O Y p A)(hi:i∈O)(e:Y[i]?=some (some (.obj j)))(r:Rps (ownI F Y O) A ds xs)(hm:m A=some (.ok (.nx Y),A.set j (.lst ds))):tR F n O B (ownI F Y O) m A (.ok (.nx (p.set i (some (.lst xs))))):=by
 obtain⟨j',ds',xs',f1,f2,f3,f4,f5⟩:=s.own i hi;rw[e]at f1;cases f1
 exact⟨_,_,hm,.nx (s.write hi e r) ⟨⟨λk o h1 h2=>by rw[zbw (show j≠k fromλz=>h1 (z ▸ (mem_own.mpr (.inr ⟨i,hi,e⟩))))];exact h2,by simp,λy=>.inl⟩,λk hk=>zbw (show j≠k fromλz=>f4 (z ▸ hk))⟩⟩
def jBz{G:List PD->List PD->Option (List PD)}(hi:O.contains i=true)(ha:SmA n O fl pl)(hf:∀{p r xs},p[i]?=some (some (.lst xs))->f p=some r->((pl p).b λvs=>(DL.M.o (G xs vs)).b λys=>DL.M.p (DL.Out.nx (p.set i (some (.lst ys)))))=some r)
  (hm:∀{W A ds xs vs us ys},G xs vs=some ys->Rps W A ds xs->Rps W A us vs->∃es,m A ds us=some (es,.non)/\Rps W A es ys):SmS n O O B (jct (sMt m (sVar i) fl)) f:=by
 intro F Y p A r s e;obtain⟨j,ds,xs,e1,e2,e3,e4,e5⟩:=s.own i (zbc.mp hi);have e:=hf e2 e;have ed:sVar i Y A=some (.ok (.obj j),A):=by unfold sVar MS.o;rw[e1];rfl
 have e9:jct (sMt m (sVar i) fl) Y A=((fl Y).b λvs A=>match A[j]? with
   |some (.lst ds)=>(m A ds vs).map λq=>(.ok (.nx Y),A.set j (.lst q.1))
   |_=>none) A:=by
  unfold jct sMt;rw[show∀(f:D->MS Out)(g:D->MS D),(((sVar i Y).b g).b f) A=((g _).b f) A fromλf g=>by unfold MS.b;rw[ed]];unfold MS.b;dsimp only;rw[e3];rcases fl Y A with _|⟨_|vs,A2⟩
  .rfl
  .rfl
  .dsimp only;rcases A2[j]? with _|so
   .rfl
   .cases so with
    |lst ds=>dsimp only;rcases m A2 ds vs with _|⟨_,_⟩<;>rfl
    |_=>rfl
 have:=smbS (ga:=λvs A=>match A[j]? with
   |some (.lst ds)=>(m A ds vs).map λq=>(.ok _,A.set j (.lst q.1))
   |_=>none) (B:=B) ha s e λa b A1 s l r1 e=>by
  rcases DL.M.b_inv e with ⟨ys,g1,g2⟩|⟨_,g1,_⟩
  .cases g2;obtain⟨ys',g3,g4⟩:=DL.M.o_inv g1;cases g4;obtain⟨es,g5,g6⟩:=hm g3 (e5.grow l) r1;exact wr s (zbc.mp hi) e1 g6 (by rw[jaf l e3];dsimp only;rw[g5];rfl)
  .obtain⟨_,_,g4⟩:=DL.M.o_inv g1;cases g4
 obtain⟨q,A2,f1,f2⟩:=this;exact⟨q,A2,e9.trans f1,f2⟩
def jKe{α:Type}{f:PSt->PM PD}{p:PSt}{g:List PD->PM α}{r:Except DL.XD α}(h:((f p).b λd=>g [d])=some r):((DL.fCons f DL.fNil p).b g)=some r:=by simp_all
def jGn(hi:O.contains i=true)(ha:SmE n O fa pa):SmS n O O B (jct (sMt mApp (sVar i) (jar fa sNil))) (DL.gApp i pa):=
 jBz (G:=λxs vs=>match vs with
  |[v]=>if xs.length<sizeLine then some (xs++[v])else none
  |_=>none) hi (jb6 ha jfu) (λ{p r xs} e0 e=>jKe (by
   unfold DL.gApp at e;rw[e0]at e;rw[<- e];refine congrArg _ (funext λd=>?_);show(DL.M.o (if xs.length<sizeLine then some _ else none)).b _=if xs.length<sizeLine then DL.M.p _ else none
   split<;>rfl)) λ{W A ds xs vs us ys} e r1 r2=>by
  split at e
  .split at e
   .rename_i hz;cases e;refine rc1 r2 λ_ r2=>?_
    exact⟨_,aD (by rw[<- r1.length];exact hz),je3 r1 (.cons r2 .nil)⟩
   .cases e
  .cases e
def jGp(hi:O.contains i=true)(ha:SmE n O fa pa):SmS n O O B (jct (sMt mExt (sVar i) (jar fa sNil))) (DL.gExt i pa):=
 jBz (G:=λxs vs=>match vs with
  |[.lst ys]=>if xs.length+ys.length<=sizeLine then some (xs++ys)else none
  |_=>none) hi (jb6 ha jfu) (λ{p r xs} e0 e=>jKe (by
   unfold DL.gExt at e;rw[e0]at e;rw[<- e];refine congrArg _ (funext λd=>?_)
   cases d with
   |lst ys=>
    show(DL.M.o (if xs.length+ys.length<=sizeLine then some _ else none)).b _=if xs.length+ys.length<=sizeLine then DL.M.p _ else none
    split<;>rfl
   |_=>rfl)) λ{W A ds xs vs us ys} e r1 r2=>by
  split at e
  .split at e
   .rename_i hz;cases e;refine rc1 r2 λ_ r2=>?_
    cases r2 with|lst hj e1 r2 =>
    exact⟨_,by unfold mExt;dsimp only;rw[e1,aW,aD (by rw[<- r1.length,<- r2.length];exact hz)],je3 r1 r2⟩
   .cases e
  .cases e
def jFw(h:Rp W A d x)(j:Nat)(k:Rps W A ds xs):Rps W A (ds.set j d) (xs.set j x):=by
 replace k:=k.pd
 induction k generalizing j with
 |nil=>exact .nil
 |cons a t ih=>cases j with
  |zero=>exact .cons h (.of t)
  |succ n=>exact .cons a (ih n)
def jGo(h:O.contains i=false)(ho:OpM g q)(ha:SmE n O fa pa):SmS n O O B (oAug i g fa) (DL.gAug i q pa):=by
 intro F Y p A r s e;refine smbS (jdi h) s e λa x A1 s l r1 e=>smbS ha s e λb y A2 s l2 r2 e=>?_
 have hi:i∉O:=λz=>by grind
 rcases DL.M.b_inv e with ⟨v,g1,g2⟩|⟨_,g1,_⟩
 .cases g2;obtain⟨v',g3,g4⟩:=DL.M.o_inv g1;cases g4;obtain⟨w,A3,f1,f2,f3⟩:=ho g3 s.lt (r1.grow l2) r2;cases f3 with|ok f3 =>
  exact⟨_,A3,by unfold MS.b;rw[f1];rfl,.nx ((s.grow f2).set hi f3) ((Nf.pre f2 s.fin).bot λj z=>by grind[jgq])⟩
 .obtain⟨_,_,g4⟩:=DL.M.o_inv g1;cases g4
section
variable {mg:qc}{J:Rho}{A:Sto}{H:Hp}{K:Af}{Er:Err}{fo fe:DSt->MS D}
def sSm(g:Str->D->MS D)(fo fe:DSt->MS D):DSt->MS D:=λY=>(fo Y).b λx=>match x with
 |.str z=>(fe Y).b λy=>g z y
 |_=>λw=>none
def SmSt(mg:qc)(g:Str->D->MS D)(r:Str->V->Hp->VK->Prop):Prop:=∀{z y A q J H v Er Q},g z y A=some q->R mg J A H->RV J y v->kS RV mg Er J Q q->r z v H Q
def lM(g:Str->PD->Option PD):Str->D->MS D:=λz a A=>(rf A a).bind λx=>((g z x).bind un).map λd=>(.ok d,A)
def jOy(hg:DL.SmD K g r):SmSt mg (lM g) r:=by
 intro z y A q J H v Er Q hf hR r1 k;refine ob hf λa e1 hf=>?_
 obtain⟨d,e3,rfl⟩:=aB.mp hf;refine ob e3 λw e3 e4=>?_
 exact hg _ _ _ e3 _ H _ v Q (λu u=>rfl) ((jh7 e1).rep hR r1) (un_k hR e4 k)
end
open L2 PyProof.Rows
section
variable {X:Cx}
def jP7(hr:DL.SmR X name r)(hg:SmSt X.mg g r)(ho:SE X Er o fo)(he:SE X Er e fe)(hbase:attributeBase o name X.env (eval o X.env)=eval o X.env)(hs:starEach [e] X.env=[(false,eval e X.env)])(hline:(apos.endLine==pos.line)=true):SE X Er (.Call (.Attribute o name apos) [e] [] pos) (sSm g fo fe):=by
 rintro U s Z H Q I ⟨J,Y,A,h,l,q,hf,k⟩;refine Call_method1 hbase hs hline (thn (ho _ s Z H (λv H1=>∃z,v=.str z/\tS RV X.mg Er fe Z H1 λy H2=>r z y H2 Q) I (bS h l hf k λx A1 hf u ρ1 H1 h l r1 k w=>?_)) λu s1 ⟨v,H1,I1,rv,z,hz,q⟩=>?_)
 .cases x with
  |str z=>exact⟨z,r1,bS h l hf k λy A2 hf v ρ2 H2 h l r2 k l2=>hg hf h r2 k⟩
  |_=>cases hf
 .subst hz;obtain⟨t,rfl⟩:=rv;exact hr _ s1 Z z t pos _ Q (thn (he _ s1 Z H1 _ I1 q) λu s2 ⟨y,H2,I2,ry,q2⟩=>⟨y,H2,I2,ry,q2⟩)
theorem pstr:∀{ks:Ab},Paired (RV J) (ks.map D.str) (ks.map V.str)
|[]=>.nil
|_::_=>.cons rfl pstr
def gPartS:Str->D->MS D:=λz y A=>match y with
 |.str y=>if(y.length==0)=false/\z.length<=sizeLine then some (.ok (.obj A.length),A++[.tup ((DL.partS z y).map .str)])else none
 |_=>none
def jKl:SmSt mg gPartS DL.rPart:=by
 intro z y A q J H v Er Q hf hR r1 k;unfold gPartS at hf
 split at hf
 .split at hf
  .rename_i hz;cases hf;cases r1
   exact⟨_,rfl,hz.1,hz.2,λp hp=>newO (o:=.tup _) hR hp ⟨_,jad,pstr⟩ k⟩
  .cases hf
 .cases hf
noncomputable def gSplitS:Str->D->MS D:=λz y A=>match y with
 |.str y=>if(y.length==0)=false/\z.length<=sizeLine/\(Txt.split z y).length<=sizeLine then some (.ok (.obj A.length),A++[.lst ((Txt.split z y).map .str)])else none
 |_=>none
def jGv:SmSt mg gSplitS DL.rSplit:=by
 intro z y A q J H v Er Q hf hR r1 k;unfold gSplitS at hf
 split at hf
 .split at hf
  .rename_i hz;cases hf;cases r1
   exact⟨_,rfl,hz.1,hz.2.1,hz.2.2,λp hp=>newO (o:=.lst _) hR hp ⟨_,jad,pstr⟩ k⟩
  .cases hf
 .cases hf
def jF3(ho:SE X Er o fo)(he:SE X Er e fe)(hbase:attributeBase o "join" X.env (eval o X.env)=eval o X.env)
  (hfew:((backTo pos (starEach [e] X.env)).all (λx=>!x.1)&&(backToKw pos (keywordEach [] X.env)).all (λx=>x.1.isSome)
   && decide ([e].length+([]:Ai).length+(if([]:Ai).isEmpty then 0 else 1)<30))=true)
  (hline:(apos.endLine==pos.line)=true) (hs:starEach [e] X.env=[(false,eval e X.env)]):SE X Er (.Call (.Attribute o "join" apos) [e] [] pos) (sSm (lM DL.gJoin) fo fe):=by
 refine sgo (jE2 eU PySem.F.slot_str_join PySem.F.type_str_join DL.mt_join ho (jgr he jks hs) hbase hfew hline hs rfl) λh l q hf k=>bS h l hf k λx A1 hf u ρ1 H1 h l r1 k _=>?_
 cases x with
|str z=>
  cases r1;refine⟨rfl,bS h l hf k λy A2 hf v ρ2 H2 h l r2 k l2=>?_⟩;obtain⟨a,e1,hf⟩:=aG.mp hf;obtain⟨d,e3,rfl⟩:=aB.mp hf;obtain⟨w,e3,e4⟩:=aG.mp e3
  cases a with
  |lst ds=>
   unfold DL.gJoin at e3;dsimp only at e3
   cases e5:DL.strsD ds with
   |none=>simp_all
   |some ys=>
    rw[e5]at e3;dsimp only at e3
    split at e3
    .rename_i hz;cases e3;cases e4
     obtain⟨l,us,rfl,q1,q2⟩:=DL.rep_lst.mp ((jh7 e1).rep h r2);rw[DL.strsD_eq e5]at q2;rw[DL.reps_strs.mp q2]at q1;exact⟨z,l,ys,rfl,rfl,q1,hz,k _ ρ2 H2 (pr _) h rfl⟩
    .cases e3
  |_=>cases e3
|_=>cases hf
def jv1{g:List D->MS D}{r:List V->Hp->VK->Prop}(hc:CallR X (.type T) r)(hg:CaS X.mg g r)(hG:Gl X x)(hm:X.mg x=none)(hv:bootBuiltins x=some (.type T))(ha:SA X Er (e::es) fl)(hn:x≠"__name__")(hdb:Aq x)
  (he:zsE e es X.env) (hpl:zbT pos es X.env):SE X Er (.Call (.Name x p) (e::es) [] pos) (sL g fl):=by exact sgo (jnd hc hG hm hv ha hn hdb he hpl) λh l q hf k=>bS h l hf k λxs A1 hf us ρ1 H1 h l r1 k l1=>hg hf h r1 k
def jF4(hc:X.calm=true)(ms:X.mg "set"=none)(ml:X.mg "len"=none)(ha:SE X Er e fa)(gs:Gl X "set")(gl:Gl X "len")
  (he:starEach [e] X.env=(false,eval e X.env)::starEach [] X.env) (he2:starEach [.Call (.Name "set" p2) [e] [] p3] X.env=(false,eval (.Call (.Name "set" p2) [e] [] p3) X.env)::starEach [] X.env)
  (hp:(backTo p3 (starEach [] X.env)).any (·.1)=false) (hp2:(backTo p4 (starEach [] X.env)).any (·.1)=false):SE X Er (.Call (.Name "len" p) [.Call (.Name "set" p2) [e] [] p3] [] p4) (s1 (lU DL.gLenS) fa):=by
 refine sgo (jll js0 gl ml DL.bt_len (jgr (jnd (js2 hc) gs ms DL.bt_set (jgr ha jks he) nofun rfl he hp) jks he2) nofun rfl he2 hp2) λh l q hf k=>bS h l hf k λx A1 hf u ρ1 H1 h l r1 k _=>?_
 refine ob hf λa e1 hf=>?_
 obtain⟨d,e3,rfl⟩:=aB.mp hf;obtain⟨w,e3,e4⟩:=aG.mp e3
 cases a with
|lst ds=>
  have hd:((DL.keysS ds).bind _)=some w:=e3
  cases hk:DL.keysS ds with
  |none=>simp_all
  |some ks=>
   rw[hk]at hd;have hd2:(if ks.length<4000 then some _ else none)=some w:=hd
   split at hd2
   .rename_i hn;cases hd2;cases e4
    obtain⟨a,ys,rfl,q1,q2⟩:=DL.rep_lst.mp ((jh7 e1).rep h r1);rw[DL.keysS_rep hk q2]at q1;exact⟨a,ks,rfl,q1,hn,λl hl=>⟨l,ks,rfl,jad,hn,k _ ρ1 _ (pr _) (h.other hl) rfl⟩⟩
   .cases hd2
|_=>cases e3
def jL2{neg:Bool}(hop:op=if neg then .NotIn else .In)(T:DL.TupAt X.K X.mg x ks)(hg:Gl X x)(hd:Aq x)(ha:SE X Er a fa):SE X Er (.Compare a [op] [.Name x p] pos) (s1 (lU λy=>(if neg then DL.gNotIn else DL.gIn) y (.tup (ks.map .str))) fa):=by
 obtain⟨Az,its,n,sl,h1,h2,h3,h4⟩:=T;have go:∀{g:PD->PD->Option PD}{r:R2},OpR X _ r->DL.OpD X.K g r->SE X Er (.Compare a [op] [.Name x p] pos) (s1 (lU λy=>g y (.tup (ks.map .str))) fa):=λ{g r} ho hg'=>by
  rintro U s Z H Q I ⟨J,Y,A,h,l,q,hf,k⟩;refine jvb ho ha (jjs (v:=.ref Az) hg h1 rfl hd) (by cases neg<;>rfl) _ s Z H Q I (bS h l hf k λx A1 hf u ρ1 H1 h l r1 k z=>?_);refine ob hf λy e1 hf=>?_
  obtain⟨d,e3,rfl⟩:=aB.mp hf;refine ob e3 λw e3 e4=>?_
  exact hg' _ _ _ e3 _ H1 _ u _ Q (λz z=>rfl) ((jh7 e1).rep h r1) (DL.rep_tup.mpr ⟨Az,_,rfl,.inr ⟨_,its,n,h2,rfl,rfl,h4,h3⟩,DL.reps_strs' _⟩) (un_k h e4 k)
 clear h2;grind[jjq,DL.opd_in,jez,DL.opd_notin]
def jDu(ks:Ab):D->MS D:=λd A=>match d with
 |.str y=>(DL.idxS y ks 0).map λj:Nat=>(.ok (.int (j:Int)),A)
 |_=>none
def jF2(T:DL.TupAt X.K X.mg x ks)(hg:Gl X x)(he:SE X Er e fe)(hd:Aq x)(hbase:attributeBase (.Name x p) "index" X.env (eval (.Name x p) X.env)=eval (.Name x p) X.env)
  (hfew:((backTo pos (starEach [e] X.env)).all (λx=>!x.1)&&(backToKw pos (keywordEach [] X.env)).all (λx=>x.1.isSome)
   && decide ([e].length+([]:Ai).length+(if([]:Ai).isEmpty then 0 else 1)<30))=true)
  (hline:(apos.endLine==pos.line)=true) (hs:starEach [e] X.env=[(false,eval e X.env)]):SE X Er (.Call (.Attribute (.Name x p) "index" apos) [e] [] pos) (s1 (jDu ks) fe):=by
 obtain⟨a,its,n,sl,h1,h2,h3,h4⟩:=T;rintro U s Z H Q I ⟨J,Y,A,h,l,q,hf,k⟩;refine jE2 (r:=λx xs H Q=>∃(y:Str) (j:Nat),x=.ref a/\xs=[.str y]/\DL.idxS y ks 0=some j/\Q (.int (j)) H) PySem.F.plainAttrs_tuple gx PySem.F.type_tuple_index ?_ (jjs (v:=.ref a) hg h1 rfl hd) (jgr he jks hs) hbase hfew hline hs rfl _ s Z H Q I ?_
 .intro U s Z H x xs v us Q I rx rxs h;obtain⟨y,j,rfl,rfl,hj,q⟩:=h;cases rx;obtain⟨u,rfl,t,rfl⟩:=rxs.one;obtain⟨m,e1,e2,e3⟩:=DL.idxS_ok hj;have e1':j=m:=by simp_all
  subst e1';exact fE gx ⟨_,I.kIn a _ h2,rfl⟩ PySem.F.entry_tuple_index (PySem.F.args_tuple_index_2 _ _) (DL.meets_index h3 e2 e3) ⟨(⟨_,I.kIn a _ h2,rfl,n,rfl⟩),.int _,H,I.tok _,⟨_,rfl⟩,q⟩
 .refine⟨.inr (.inl ⟨rfl,_,h2,rfl,rfl⟩),bS h l hf k λd A1 hf u ρ1 H1 h l r1 k z=>?_⟩
  cases d with
  |str y=>obtain⟨j,hj,rfl⟩:=aB.mp hf;cases r1;exact⟨y,j,rfl,rfl,hj,k _ ρ1 H1 (pr _) h rfl⟩
  |_=>cases hf
end
section
variable {ks:Ab}
def SmM(gs:Str->D->MS D)(g:Str->PD->Option PD):Prop:=∀{z x v W A a},g z x=some v->(∀j∈W,j<A.length)->Rp W A a x->tQ ReE W (gs z a) A (.ok v)
def jMj(h:SmM gs g)(ho:SmE n O fo po)(he:SmE n O fe pe):SmE n O (sSm gs fo fe) (DL.fSm g po pe):=by
 intro F Y p A r s e;refine smb ho s e λa b A1 s l r1 e=>?_
 split at e
 .cases r1;refine smb he s e λa b A1 s l r2 e=>?_
  obtain⟨v,e1,rfl⟩:=DL.M.o_inv e;exact h e1 s.lt r2
 .cases e
def jMl(h:∀z x v,g z x=some v->(un v).isSome):SmM (lM g) g:=by intro z x v W A a e _ r1;obtain⟨d,e1⟩:=bF.mp (h _ _ _ e);exact⟨_,A,by unfold lM;rw[jhu r1];simp[e,e1],aF _,.ok (jAn e1)⟩
theorem jo0:∀{ks:Ab},Rps W A (ks.map D.str) (ks.map DL.D.str)
|[]=>.nil
|_::_=>.cons .str jo0
def jlu:SmM gPartS DL.gPart:=by
 intro z x v W A a e hW r1;unfold DL.gPart at e
 split at e
 .split at e
  .rename_i hz;cases e;cases r1
   exact⟨_,_,aD hz,aA ..,.ok (jb5 hW jo0)⟩
  .cases e
 .cases e
def jjx:SmM gSplitS DL.gSplit:=by
 intro z x v W A a e hW r1;unfold DL.gSplit at e
 split at e
 .split at e
  .rename_i hz;cases e;cases r1
   exact⟨_,_,aD hz,aA ..,.ok (jgo hW jo0)⟩
  .cases e
 .cases e
end
end SI
namespace L2
open PyProof.Rows
open PySem.W (Frag InstAt Looks findIn mroIn clsIn)
section
variable {X:Cx}
inductive tTryA(K:Frag)(sp:Sp)(t:TA)(Bc:Addr)(i j l:Nat)(D:Ends)(Z:St)(H:Hp):Prop
|mk (Er:Addr->Addr->Ag->Hp->Prop) (h1:jG9 sp [] (EX Er) t Z H λv H1=>D.nx (Z.set i (some v)) H1)
  (h2:∀a C' od H1,H1 a=some (XO a C' od false)->Er a C' od H1->(∃C2 od2,H1 a=some (XO a C2 od2 false)/\W.exmOne K (.ref C2) (.ref Bc)=some true)/\∀H2,(∀b o,H1 b=some o->H2 b=some o)->D.nx (((Z.set j (some (.ref a))).set l (some (.ref a))).set j none) H2)
def jFi(F:Ap X (CX1 X.prog X.w) k f fd ps sp)(hr:Room k X.A)(hgx:Gl X x)(hmx:X.mg x=some (.ref f))(hk:W.keepIn X.K (.ref f)=true)(hb:Binds X.K fd ps [])(ha:∀W,PA (X.wish W) (e::es) t)
  (hst:X.stack=X.env::X.outer) (hfr:X.env.frame=some X.env.locals) (hg:Gl X B) (hmB:X.mg B=some (.ref Bc)) (hN:X.N.Nodup) (hi:X.N[i]?=some z) (hz:X.env.scope.names.lookup z=some .local) (hj:X.N[j]?=some n) (hn:X.env.scope.names.lookup n=some .local) (hl:X.N[l]?=some y) (hy:X.env.scope.names.lookup y=some .local) (hjl:j≠l)
  (hdx:Aq x) (hdb:Aq B) (hnd:Aq n) (hncd:(n==("__classdict__":Str))=false) (hs:swapsWith (.Name n pn) (some (.Name y py)) ypos.line X.env=pure false)
  (hs1:swapsWith (.Call (.Name x p) (e::es) [] pos) (some (.Name z px)) spos.line X.env=pure false) (hse:zsE e es X.env) (hpl:zbT pos es X.env):
  PS X (.Try [.Assign [.Name z px] (.Call (.Name x p) (e::es) [] pos) spos] [.ExceptHandler (some (.Name B np)) (some n) [.Assign [.Name y py] (.Name n pn) ypos] hpos] [] [] tpos) (tTryA X.K sp t Bc i j l):=by
 rintro U s Z H D I ⟨Er,h1,h2⟩;refine wpAny_Try_except ?_;generalize hW:(λ(e) (s₁)=>wpAny _ X.A _ _ _ _)=W;have hxW:∀H1 s1 e s',Inv (X.wish W) _ Z H1 s1->CX1 _ X.w _ H1 s1 (EX Er) e s'->W e s':=λH1 s1 e' s' I1 hc=>by
  obtain⟨a,C',od,Ha,H2,rfl,Jq,Fl,g7,a2,C2,g8,g9,g10⟩:=jss I1.unwish hc;cases g8;rw[<- hW];have e1:H2 a=some (XO a C' od false):=by obtain⟨e1,_⟩:=Fl;exact e1
  obtain rfl:C'=C2:=jCc Jq e1 (g7 _ _ g9);obtain⟨⟨C3,od3,g11,q1⟩,q2⟩:=h2 a C' od Ha g9 g10;obtain rfl:C'=C3:=jCc Jq e1 (g7 _ _ g11);refine jKc Jq Fl hst hfr I.ok.frames λT h' hT J2 F2=>?_
  refine jDx J2 F2 q1 hg hmB hdb hN hj hn hl hy hjl hnd hncd hs λs5 J5=>?_
  refine⟨_,_,J5,q2 _ λb ob q=>?_⟩;rw[jae (λz=>by grind)];grind
 have body:wpAny _ X.A _ (SP _ _ D) W s:=wpAny_Assign_Name (thn (jI9 (X:=X.wish W) F hr hgx hmx hk hb hxW (ha W) hdx hse hpl (I.wish W) h1) λv s1 ⟨zz,H1,J1,rz,q⟩=>(jfh (X:=X.wish W) J1 hN hi (.inl hz) rz (λs2 J2=>⟨_,H1,J2,q⟩) (.inr hz))) hs1;refine gr (thn body λf s1 q=>?_)
 cases f with
|next=>exact dM (dM (SP.unwish q))
|ret v=>exact SP.unwish q
|brk=>exact SP.unwish q
|cont=>exact SP.unwish q
end
end L2
namespace L2
open PyProof.Rows
section
variable {X:Cx}
def jsx:CallR X (.builtin "isinstance") (λxs H Q=>∃v c b,xs=[.non,v]/\(∀u,RelV v u->u=c)/\W.kitOne X.K (.type "NoneType") c=some b/\Q (.bl b) H):=by intro U s Z H xs us Q I r h;obtain⟨v,c,b,rfl,hv,hk,q⟩:=h;obtain⟨u,c',rfl,ru,rc⟩:=r.two;cases ru;rw[hv c' rc];exact W.kia_one W.kitx_none I.kIn True.intro hk (λz=>nomatch z) λtk=>⟨.bl b,H,I.tok _,rfl,q⟩
end
end L2
namespace DL
open L2
structure ErrN(K:Af)(mg:qc)(cs:Ab):Prop where
 ex:∀c∈cs,∀C,mg c=some (.ref C)->W.kitOne K (.type "NoneType") (.ref C)=some false
noncomputable def xTab3(K:Af)(es:List (Str×Addr)):Bool:=es.all λp=>W.kitOne K (.type "NoneType") (.ref p.2)==some false
def errN_mk{K:Af}{mg:qc}{es:List (Str×Addr)}(hm:∀p∈es,mg p.1=some (.ref p.2))(h:xTab3 K es=true):ErrN K mg (es.map (·.1)):=by refine⟨λc hc C hC=>?_⟩;obtain⟨p,hp,rfl⟩:=zcv.mp hc;rw[hm p hp]at hC;cases hC;exact bB.mp (aQ.mp h p hp)
end DL
namespace SI
open L2
open DL (Wx ErrT ErrN ErrM)
section
variable {X:Cx}
inductive IniX(P:Program)(w:World)(K:Af)(mg:qc)(base:Heap)(k:Nat)(c:Str)(n:Nat)(m:List D->MS D):Prop
| mk (C f:Addr) (fd:FuncData) (ps:Ab) (h1:ps.length=n) (h2:mg c=some (.ref C)) (h3:XMk K C f) (h4:Binds K fd ps []) (h5:FnOk P w K mg base (CX1 P w) k f fd ps (spS mg n m)) (h6:n<=1000)
def jq0(c:Str)(m:List D->MS D)(fl:DSt->MS (List D)):DSt->MS D:=λY=>(fl Y).b λds A=>((m (.obj A.length::ds)).b λd=>match d with
 |.non=>MS.p (.obj A.length)
 |_=>λz=>none) (A++[.exc c none true])
def jzv(C:IniX X.prog X.w X.K X.mg X.base k c n m)(ar:∀{ds A q},m ds A=some q->ds.length=n)(hr:Room (k+1) X.A)(hx:Wx X E)(ha:SA X (jbo E) (e::es) fl)(hg:Gl X c)(hdb:Aq c)(he:zsE e es X.env)
  (hpl:zbT pos es X.env):SE X (jbo E) (.Call (.Name c p) (e::es) [] pos) (jq0 c m fl):=by
 obtain⟨Ca,f,fd,ps,hl,hm,hM,hb,G,hn⟩:=C;refine sgo (jy4 hM G hr hg hm hb (wx_b hx) ha hdb he hpl) λh l q hf kk=>bS h l hf kk λds A1 hf vs ρ1 H1 h l r k z=>?_
 have hlen:ds.length+1=n:=by rcases MS.b_inv hf with ⟨_,_,e3,_⟩|⟨_,_,e3,_⟩<;>exact ar e3
 exact⟨by rw[<- r.length];lia,λa ha=>made ar h.len (h.new (o:=.exc c none true) ha ⟨Ca,_,hm,jad,rfl⟩) r hf k⟩
def jys(cs:Ab)(f:Str)(fo fv:DSt->MS D):DSt->MS Out:=λY=>(fv Y).b λd=>(fo Y).b λx A=>match x with
 |.obj i=>match A[i]? with
  |some (.exc c none fr)=>if cs.contains c then some (.ok (.nx Y),(A++[SO.xd [(f,d)]]).set i (.exc c (some A.length) fr))else none
  |_=>none
 |_=>none
set_option tactic.hygienic true in
def jG1(T:ErrT X.K X.mg cs fs b)(ht:∀c∈cs,∀C,X.mg c=some (.ref C)->W.takerIn X.K C f=some none)(ho:SE X Er o fo)(hv:SE X Er e fv)(hs:swapsWith e (some (.Attribute o f pos')) pos.line X.env=pure false):SS X Er (.Assign [.Attribute o f pos'] e pos) (jys cs f fo fv):=by
 refine sgO (jFj ho hv hs) λh l q hf k=>bO h l hf k λd A1 hf v ρ1 H1 h l r1 k _=>bO h l hf k λx A2 hf u ρ2 H2 h l r k l2=>?_
 split at hf
 .split at hf
  .rename_i i _ c fr hi
   split at hf
   .rename_i hcs;cases hf;obtain⟨a,rfl,e1,C,od,q1,q2,q3⟩:=h.rd (K:=[]) r hi;subst q3;have hcm:=zbc.mp hcs;refine⟨a,rfl,.first C fr q2 (T.cls c hcm C q1) (ht c hcm C q1) λdx hdx=>?_⟩;have lp:=aA ρ2 [dx];exact k _ _ _ lp ((h.new (o:=.xd _) hdx ⟨_,jad,.cons ⟨rfl,r1.mono (l2.trans lp)⟩ .nil⟩).put (by clear hf hi;grind) ⟨C,_,q1,jad,dx,by rw[<- h.len];simp,rfl⟩) (l.mono lp)
   .cases hf
  .cases hf
 .cases hf
noncomputable def gIsX(cs:Ab)(g:Str->Bool):D->MS D:=λx A=>match x with
 |.non=>some (.ok (.bl false),A)
 |.obj i=>match A[i]? with
  |some (.exc c none _)=>if cs.contains c then some (.ok (.bl (g c)),A)else none
  |some (.exc c (some j) _)=>match A[j]? with
   |some (.xd _)=>if cs.contains c then some (.ok (.bl (g c)),A)else none
   |_=>none
  |_=>none
 |_=>none
set_option tactic.hygienic true in
def jJe(T:ErrT X.K X.mg cs fs b)(hv:∀w,RelV D0 w->w=c0)(hk:∀c∈cs,∀C,X.mg c=some (.ref C)->W.kitOne X.K (.ref C) c0=some (g c))(hN:W.kitOne X.K (.type "NoneType") c0=some false)(hf:gIsX cs g y A=some q)(h:R X.mg J A H)(r:RV J y u)(k:kS RV X.mg Er J Q q):
  (∃a C od fr v c b,[u,D0]=[.ref a,v]/\H a=some (XO a C od fr)/\XCls X.K C/\(∀dx,od=some dx->∃fs,H dx=some (XDc dx fs))/\(∀u,RelV v u->u=c)/\W.kitOne X.K (.ref C) c=some b/\Q (.bl b) H)\/∃v c b,[u,D0]=[.non,v]/\(∀u,RelV v u->u=c)/\W.kitOne X.K (.type "NoneType") c=some b/\Q (.bl b) H:=by
 unfold gIsX at hf
 split at hf
 .cases hf;cases r
  exact .inr ⟨D0,c0,_,rfl,hv,hN,k _ J H (pr _) h rfl⟩
 .split at hf
  .rename_i c fr hi
   split at hf
   .rename_i hcs;cases hf;obtain⟨a,rfl,e1,C,od,q1,q2,q3⟩:=h.rd (K:=[]) r hi;subst q3;have hcm:=zbc.mp hcs;exact .inl ⟨a,C,_,fr,D0,c0,g c,rfl,q2,T.cls c hcm C q1,(λdx z=>nomatch z),hv,hk c hcm C q1,k _ J H (pr _) h rfl⟩
   .cases hf
  .rename_i c j fr hi
   split at hf
   .rename_i gs hj
    split at hf
    .rename_i hcs;cases hf;obtain⟨a,rfl,e1,C,od,q1,q2,dx,q3,rfl⟩:=h.rd (K:=[]) r hi;obtain⟨vs,q4,q5⟩:=h.ats j dx _ q3 hj;have hcm:=zbc.mp hcs;exact .inl ⟨a,C,_,fr,D0,c0,g c,rfl,q2,T.cls c hcm C q1,(λdx' z=>by clear q2 q1 q5;grind),hv,hk c hcm C q1,k _ J H (pr _) h rfl⟩
    .cases hf
   .cases hf
  .cases hf
 .cases hf
def jL4(T:ErrT X.K X.mg cs fs b)(hnm:PE X nm (tC D0))(hv:∀w,RelV D0 w->w=c0)(hk:∀c∈cs,∀C,X.mg c=some (.ref C)->W.kitOne X.K (.ref C) c0=some (g c))(hN:W.kitOne X.K (.type "NoneType") c0=some false)(hm:X.mg "isinstance"=none)(ha:SE X Er e fa)(hG:Gl X "isinstance")
  (he:starEach (e::[nm]) X.env=(false,eval e X.env)::starEach [nm] X.env) (he2:starEach [nm] X.env=(false,eval nm X.env)::starEach [] X.env) (hpl:(backTo pos (starEach [nm] X.env)).any (·.1)=false):SE X Er (.Call (.Name "isinstance" p) [e,nm] [] pos) (s1 (gIsX cs g) fa):=by exact sgo (jll ((jsy T.sp T.tk).or jsx) hG hm DL.bt_isinstance (jgr ha (jgr hnm jks he2) he) nofun rfl he hpl) λh l q hf k=>bS h l hf k λy A1 hf u ρ1 H1 h l r k z=>jJe T hv hk hN hf h r k
def jL3(T:ErrT X.K X.mg cs fs b)(N:ErrN X.K X.mg cs)(hd:cs.contains d=true)(hm:X.mg "isinstance"=none)(ha:SE X Er e fa)(hg:Gl X d)(hdb:Aq d)(hG:Gl X "isinstance")
  (he:starEach (e::[.Name d p2]) X.env=(false,eval e X.env)::starEach [.Name d p2] X.env):SE X Er (.Call (.Name "isinstance" p) [e,.Name d p2] [] pos) (s1 (gIsX cs λc=>c==d) fa):=by
 have hd':=zbc.mp hd;obtain⟨D0,h0⟩:=T.ats d hd';refine jL4 (D0:=.ref D0) T (jjs hg h0 rfl hdb) (λw r=>by cases r;rfl) (λc hc C hC=>?_) (N.ex d hd' D0 h0) hm ha hG he rfl rfl;obtain⟨D1,h1,h2⟩:=T.pair c hc d hd' C hC;simp_all
def Lo.unset(h:Lo J Y Z):Lo J (Y.set j none) (Z.set j none):=⟨by simp[h.len],λi d e=>by
 by_cases hj:j=i
 .clear h;grind
 .rw[zbw hj]at e |-;exact h.val i d e⟩
noncomputable def jpn(cs:Ab)(j l:Nat)(Y:DSt)(x:D):MS Out:=λA=>match x with
 |.obj q=>match A[q]? with
  |some (.exc c _ false)=>if cs.contains c then some (.ok (.nx (((Y.set j (some (.obj q))).set l (some (.obj q))).set j none)),A)else none
  |_=>none
 |_=>none
def jor(m:List D->MS D)(cs:Ab)(i j l:Nat)(fl:DSt->MS (List D)):DSt->MS Out:=λY=>(noE (fl Y)).b λds A=>match m ds A with
 |some (.ok d,A')=>some (.ok (.nx (Y.set i (some d))),A')
 |some (.error y,A')=>jpn cs j l Y y A'
 |none=>none
set_option tactic.hygienic true in
def js6(Em:ErrM X.K X.mg cs bn)(hB:X.mg bn=some (.ref Bc))(hf:jpn cs j l' Y y A'=some q)(lo:Lo J Y Z)(k:kO X.mg Er J Dn q):∃i,y=.obj i/\∀a C' od H1,H1 a=some (XO a C' od false)->(∃ρ1,J<+:ρ1/\R X.mg ρ1 A' H1/\ρ1[i]?=some a) ->
  (∃C2 od2,H1 a=some (XO a C2 od2 false)/\W.exmOne X.K (.ref C2) (.ref Bc)=some true)/\∀H2,(∀b o,H1 b=some o->H2 b=some o)->Dn.nx (((Z.set j (some (.ref a))).set l' (some (.ref a))).set j none) H2:=by
 unfold jpn at hf
 split at hf
 .rename_i i
  split at hf
  .rename_i c jj hi
   split at hf
   .rename_i hcs;cases hf;refine⟨i,rfl,λa C' od H1 hH hzz=>?_⟩;obtain⟨ρ1,l1,R1,e1⟩:=hzz;obtain⟨C,od2,q1,q2,q3⟩:=R1.ats i a _ e1 hi;refine⟨⟨C,od2,q2,Em.ex c (zbc.mp hcs) C q1 Bc hB⟩,λH2 sm=>?_⟩;have ro:RV ρ1 (.obj i) _:=⟨a,e1,rfl⟩
    exact k _ ρ1 H2 l1 (R1.same sm) ((((lo.mono l1).set ro).set ro).unset)
   .cases hf
  .cases hf
 .cases hf
def jGz(C:CalS X.prog X.w X.K X.mg X.base k x n m)(ar:∀{ds A q},m ds A=some q->ds.length=n)(Em:ErrM X.K X.mg cs bn)(hr:Room k X.A)(ha:∀W,SA (X.wish W) (jbo E0) (e::es) fl)
  (hst:X.stack=X.env::X.outer) (hfr:X.env.frame=some X.env.locals) (hN:X.N.Nodup) (hjl:j≠l)
  (hi:X.N[i]?=some z) (hz:X.env.scope.names.lookup z=some .local) (hj:X.N[j]?=some n') (hn:X.env.scope.names.lookup n'=some .local) (hl:X.N[l]?=some y) (hy:X.env.scope.names.lookup y=some .local) (hgx:Gl X x) (hg:Gl X bn)
  (hdx:Aq x) (hdb:Aq bn) (hnd:(n' == ("__debug__":Str))=false) (hncd:(n' == ("__classdict__":Str))=false) (hs:swapsWith (.Name n' pn) (some (.Name y py)) ypos.line X.env=pure false)
  (hs1:swapsWith (.Call (.Name x p) (e::es) [] pos) (some (.Name z px)) spos.line X.env=pure false) (hse:zsE e es X.env) (hpl:zbT pos es X.env):
  SS X Er (.Try [.Assign [.Name z px] (.Call (.Name x p) (e::es) [] pos) spos] [.ExceptHandler (some (.Name bn np)) (some n') [.Assign [.Name y py] (.Name n' pn) ypos] hpos] [] [] tpos) (jor m cs i j l fl):=by
 obtain⟨f,fd,ps,hln,hm,hk,hb,G⟩:=C;obtain⟨Bc,hB⟩:=Em.atb;rintro U s Z H Dn I ⟨J,Y,A,h,lo,q,hf,k⟩;refine jFi (t:=tS _ _ _ fl) G hr hgx hm hk hb (λW=>ha W) hst hfr hg hB hN hi hz hj hn hl hy hjl hdx hdb hnd hncd hs hs1 hse hpl _ s Z H Dn I ?_;obtain⟨ds,A1,e1,hf⟩:=jop hf
 split at hf
 .rename_i d A' e2;cases hf;refine⟨λ_ _ _ _=>False,⟨J,Y,A,h,lo,_,e1,λvs ρ1 H1 l1 h1 r1=>?_⟩,λ_ _ _ _ _ z=>z.elim⟩;rw[aO];exact⟨r1.length.symm.trans (ar e2),ρ1,ds,A1,h1,r1,_,e2,λv ρ2 H2 l2 h2 r2=>k _ ρ2 H2 (l1.trans l2) h2 ((lo.mono (l1.trans l2)).set r2)⟩
 .rename_i y0 A' e2;obtain⟨i0,rfl,hc⟩:=js6 Em hB hf lo k;refine⟨_,⟨J,Y,A,h,lo,_,e1,λvs ρ1 H1 l1 h1 r1=>?_⟩,hc⟩;rw[aO];refine⟨r1.length.symm.trans (ar e2),ρ1,ds,A1,h1,r1,_,e2,λρ2 H2 l2 h2 i' a C' od he hρ hH=>?_⟩;cases he;exact⟨a,C',rfl,hH,ρ2,l1.trans l2,h2,hρ⟩
 .cases hf
def juy(g:DSt->MS Out):DSt->MS Out:=λY=>noE (g Y)
set_option tactic.hygienic true in
def jG0(hb:∀W,SSs (X.wish W) (jbo E0) body g):SS X Er (.Try body (h0::hs) [] [] tpos) (juy g):=by
 rintro U s Z H Dn I ⟨J,Y,A,h,lo,q,hf,k⟩;refine wpAny_Try_except ?_;generalize (λ(e) (s₁)=>wpAny _ X.A _ _ _ _)=W;unfold juy noE at hf
 split at hf
 .rename_i a A' e1;cases hf;refine thn (hb W _ s Z H Dn (I.wish W) ⟨J,Y,A,h,lo,_,e1,by cases a<;>exact k⟩) λf s1 q=>?_
  cases f with
  |next=>exact dM (SP.unwish q)
  |ret v=>exact SP.unwish q
  |brk=>exact SP.unwish q
  |cont=>exact SP.unwish q
 .cases hf
end
end SI
namespace SI
open L2
section
variable [DecidableEq κ]
noncomputable def valD(kvs:List (κ×D))(k:κ):Option D:=(kvs.find? λkv=>decide (kv.1=k)).map (·.2)
noncomputable def jr5(kvs:List (κ×D))(k:κ)(v:D):List (κ×D):=if(kvs.any λkv=>decide (kv.1=k))=true then kvs.map (λkv=>if kv.1=k then(kv.1,v)else kv)else kvs++[(k,v)]
inductive Ro(J:Rho):Option D->Option V->Prop
| no:Ro J none none
| yes {d v} (h:RV J d v):Ro J (some d) (some v)
def jNp{kvs:List (κ×D)}{vs:List (κ×V)}(k:κ)(h:Fp J kvs vs):Ro J (valD kvs k) (valV vs k):=by
 induction h with
 |nil=>exact .no
 |@cons p q _ _ z t ih=>
  obtain⟨a,d⟩:=p;obtain⟨b,v⟩:=q;obtain⟨z,r⟩:=z;cases z;unfold valD valV;rw[eR,eR]
  by_cases h:a=k
  .simp only[h];exact .yes r
  .simp only[h];exact ih
def jHy{kvs:List (κ×D)}{vs:List (κ×V)}(k:κ)(h:Fp J kvs vs):(kvs.any λkv=>decide (kv.1=k))=vs.any λkv=>decide (kv.1=k):=by
 induction h with
 |nil=>rfl
 |cons z t ih=>rw[dO,dO,ih,z.1]
def jLc{vs:List (κ×V)}(r:RV J d v)(h:Fp J kvs vs):Fp J (jr5 kvs k d) (putK vs k v):=by
 unfold jr5 putK;rw[jHy k h]
 split
 .rename_i z
  clear z
  induction h with
  |nil=>exact .nil
  |cons a _ ih=>
   refine .cons ?_ ih;lia
 .exact papp h (.cons ⟨rfl,r⟩ .nil)
end
noncomputable def keyK:D->Option Key
|.int i=>some (.inl i)
|.str x=>some (.inr x)
|_=>none
inductive Dc where
| k (kvs:List (Key×D)) (q:Key)
def dcO(A:Sto)(x y:D):Option (Nat×Dc):=match x with
 |.obj i=>match A[i]? with
  |some (.dK kvs)=>(keyK y).map λk=>(i,.k kvs k)
  |_=>none
 |_=>none
def Dc.val:Dc->Option D
|.k kvs q=>valD kvs q
noncomputable def Dc.len:Dc->Nat
|.k kvs _=>kvs.length
def Dc.put(d:D):Dc->SO
|.k kvs q=>.dK (jr5 kvs q d)
section
variable {mg:qc}{J:Rho}{A:Sto}{H:Hp}{X:Cx}{Er:Err}{e o i f:Expr}{fo fi fv ff:DSt->MS D}{pos pos' apos:Pos}{x y:D}{u v:V}
def jD6(e:keyK d=some k)(r:RV J d v):v=kV k:=by cases d<;>cases e<;>exact r
def jxq(h:R mg J A H)(e:dcO A x y=some (j,c))(r1:RV J x u)(r2:RV J y v):∃a o,u=.ref a/\J[j]?=some a/\IsD H a/\DGet H a v o/\Ro J c.val o/\(∀{d w},c.len<sizeLine->RV J d w->∃H',DPut H a v w H'/\R mg J (A.set j (c.put d)) H'):=by
 unfold dcO at e
 split at e
 .split at e
  .rename_i hi;obtain⟨k,e1,e2⟩:=aB.mp e;cases e2;obtain⟨a,rfl,e3,vs,q1,q2⟩:=h.rd (K:=[]) r1 hi;have ev:=jD6 e1 r2;exact⟨a,_,rfl,e3,.inl ⟨vs,.inl q1⟩,.inl ⟨vs,k,.inl q1,ev,rfl⟩,jNp k q2,λ{d w} hl r=>⟨_,.inl ⟨vs,k,q1,ev,by rw[<- q2.length];exact hl,rfl⟩,h.put e3 ⟨_,jad,jLc r q2⟩⟩⟩
  .cases e
 .cases e
noncomputable def jzp(t:Bool):DSt->MS D:=λz A=>some (.ok (.obj A.length),A++[.dK []])
def jF1:SE X Er (.Dict [] [] pos) (jzp t):=by rintro U s Z H Q I ⟨J,Y,A,h,l,q,hf,k⟩;cases hf;exact jy0 _ s Z H Q I λp hp=>newO (o:=.dK []) h hp ⟨[],jad,.nil⟩ k
def gDIn(neg:Bool):D->D->MS D:=λy x A=>(dcO A x y).map λc=>(.ok (.bl (c.2.val.isSome != neg)),A)
def jvs(h:Ro J a b):b.isSome=a.isSome:=by cases h<;>rfl
def jLz(hop:op=if neg then .NotIn else .In)(hu:X.A.units+1<cLine)(hi:SE X Er i fi)(ho:SE X Er o fo)(hm:behindInMarks op o=false):SE X Er (.Compare i [op] [o] pos) (s2 (gDIn neg) fi fo):=by
 rintro U s Z H Q I ⟨J,Y,A,h,l,q,hf,k⟩
 cases neg with
 |false=>cases hop;refine jBo (jKm hu hi ho) hm _ s Z H Q I (bS h l hf k λy A1 hf v ρ1 H1 h l r1 k z=>bS h l hf k λx A2 hf u ρ2 H2 h l r2 k l2=>?_);obtain⟨⟨j,c⟩,e1,rfl⟩:=aB.mp hf;obtain⟨a,ov,rfl,_,_,q1,q2,_⟩:=jxq h e1 r2 (r1.mono l2);exact⟨a,ov,rfl,q1,k _ ρ2 H2 (pr _) h (by rw[jvs q2];cases c.val.isSome<;>rfl)⟩
 |true=>cases hop;refine jBo (ju9 hu hi ho) hm _ s Z H Q I (bS h l hf k λy A1 hf v ρ1 H1 h l r1 k z=>bS h l hf k λx A2 hf u ρ2 H2 h l r2 k l2=>?_);obtain⟨⟨j,c⟩,e1,rfl⟩:=aB.mp hf;obtain⟨a,ov,rfl,_,_,q1,q2,_⟩:=jxq h e1 r2 (r1.mono l2);exact⟨a,ov,rfl,q1,k _ ρ2 H2 (pr _) h (by rw[jvs q2];cases c.val.isSome<;>rfl)⟩
def jEr(fo fi fv:DSt->MS D):DSt->MS Out:=λY=>(fv Y).b λd=>(fo Y).b λx=>(fi Y).b λy A=>(dcO A x y).bind λc=>if c.2.len<sizeLine then some (.ok (.nx Y),A.set c.1 (c.2.put d))else none
def jGw(hu:X.A.units+1<cLine)(ho:SE X Er o fo)(hi:SE X Er i fi)(hv:SE X Er e fv)(hs:swapsWith e (some (.Subscript o i pos')) pos.line X.env=pure false):SS X Er (.Assign [.Subscript o i pos'] e pos) (jEr fo fi fv):=by
 refine sgO (jFf hu ho hi hv hs) λh l q hf k=>bO h l hf k λd A1 hf w ρ1 H1 h l r1 k _=>bO h l hf k λx A2 hf u ρ2 H2 h l r2 k l2=>bO h l hf k λy A3 hf v J3 H3 h l r3 k l3=>?_
 obtain⟨⟨j,c⟩,e1,hf⟩:=aG.mp hf
 split at hf
 .rename_i hz;cases hf;obtain⟨a,ov,rfl,_,_,q1,q2,q3⟩:=jxq h e1 (r2.mono l3) r3;obtain⟨H',g1,g2⟩:=q3 hz (r1.mono (l2.trans l3));exact⟨a,H',rfl,g1,k _ J3 H' (pr _) g2 l⟩
 .cases hf
noncomputable def isDO(A:Sto):D->Bool
|.obj i=>match A[i]? with
  |some (.dK _)=>true
  |_=>false
|_=>false
def isD_at(h:R mg J A H)(e:isDO A x=true)(r:RV J x u):∃a,u=.ref a/\IsD H a:=by
 unfold isDO at e
 split at e
 .split at e
  .rename_i hi;obtain⟨a,rfl,_,vs,q1,_⟩:=h.rd (K:=[]) r hi;exact⟨a,rfl,.inl ⟨vs,.inl q1⟩⟩
  .cases e
 .cases e
def jqz(fo fi ff:DSt->MS D):DSt->MS D:=λY=>(fo Y).b λx A=>if isDO A x=true then((fi Y).b λy=>(ff Y).b λz A=>(dcO A x y).map λc=>(.ok (c.2.val.getD z),A)) A else none
def jzt(hu:X.A.units+1<cLine)(ho:SE X Er o fo)(hi:SE X Er i fi)(hf:SE X Er f ff)(m:M2 X o "get" apos i f pos):SE X Er (.Call (.Attribute o "get" apos) [i,f] [] pos) (jqz fo fi ff):=by
 refine sgo (jyz hu ho hi hf m) λh l q hg k=>bS h l hg k λx A1 hg u ρ1 H1 h l r1 k _=>?_
 split at hg
 .rename_i hd;obtain⟨a,rfl,q0⟩:=isD_at h hd r1;refine⟨a,rfl,q0,bS h l hg k λy A2 hg v ρ2 H2 h l r2 k l2=>bS h l hg k λz A3 hg w J3 H3 h l r3 k l3=>?_⟩;obtain⟨⟨j,c⟩,e1,rfl⟩:=aB.mp hg;obtain⟨a',ov,e2,_,_,q1,q2,_⟩:=jxq h e1 (r1.mono (l2.trans l3)) (r2.mono l3);cases e2;refine⟨ov,q1,k _ J3 H3 (pr _) h ?_⟩
  revert q2
  generalize c.val=cv;intro q2;cases q2<;>simp_all
 .cases hg
end
open DL (Wx ErrT ErrN ErrM)
noncomputable def nSt(e:Expr):Bool:=!([7,22,26].contains e.ctorIdx)
noncomputable def nCo(e:Expr):Bool:=!([8,9,10].contains e.ctorIdx)
noncomputable def nTe(e:Expr):Bool:=!([0,3,5,15].contains e.ctorIdx)
noncomputable def nSu(e:Expr):Bool:=e.ctorIdx != 16
def jbp(h:nSt e=true):starEach (e::es) env=(false,eval e env)::starEach es env:=by cases e<;>first|rfl|cases h
def jQc(h:nSt e=true):jns e:=by intro o i;cases e<;>first|rfl|cases h
def jr0(h:nSt e=true):behindInMarks op e=false:=by cases e<;>first|rfl|cases h
def jx7(h:nSt e=true)(x:Value):foldedSetIterable e env x=pure x:=by cases e<;>first|rfl|cases h
def jj2{t:Option Expr}(h:nCo e=true):swapsWith e t l env=pure false:=by cases e<;>first|rfl|cases h
def jQq(h:nTe e=true)(whole:Sem Value):isTrue e env whole=(do let v <- whole;standAt e.pos;holding [v] (truthy v)):=by cases e<;>first|rfl|cases h
def jl3(h:nSu e=true)(w:Sem Value):attributeBase e a env w=w:=by cases e<;>first|rfl|cases h
theorem jiq:∀{es:Ad},es.all nSt=true->(backTo pos (starEach es env)).any (·.1)=false
|[],_=>rfl
|e::es,h=>by rw[bN,aC]at h;rw[jbp h.1];exact jiq h.2
theorem jCi:∀{es:Ad},es.all nSt=true->(backTo pos (starEach es env)).all (λx=>!x.1)=true
|[],_=>rfl
|e::es,h=>by rw[bN,aC]at h;rw[jbp h.1];exact jCi h.2
def jx8(h:(es.all nSt&&decide (es.length<29))=true):((backTo pos (starEach es env)).all (λx=>!x.1)&&(backToKw pos (keywordEach [] env)).all (λx=>x.1.isSome)&&decide (es.length+([]:Ai).length+(if([]:Ai).isEmpty then 0 else 1)<30))=true:=by rw[aC,aV]at h;rw[jCi h.1,fN];exact aX (by simp;lia)
def jJ5(h1:nSu o=true)(hf:(es.all nSt&&decide (es.length<29))=true)(hl:(apos.endLine==pos.line)=true):eval (.Call (.Attribute o x apos) es [] pos) env=(do
   let ov <- eval o env
   standAt apos.atName
   let (f,first) <- holding [ov] (getMethod ov x (do let l <- importBound o env;pure (l.getD true)))
   callWith pos f first (backTo pos (starEach es env)) (backToKw pos (keywordEach [] env))):=by
 have hm:methodCallForm (es.length+([]:Ai).length) (backTo pos (starEach es env)) (backToKw pos (keywordEach [] env))=true:=by rw[aC,aV]at hf;unfold methodCallForm;rw[jCi hf.1];exact(aC _ _).mpr ⟨rfl,aX (by grind)⟩
 have e:eval (.Call (.Attribute o x apos) es [] pos) env=(do
   let ov <- attributeBase o x env (eval o env)
   standAt apos.atName
   methodCall o x apos pos env ov (es.length+([]:Ai).length) (backTo pos (starEach es env)) (backToKw pos (keywordEach [] env))):=by rfl
 simp_all [jl3,methodCall,calleeOf,methodCallPos]
def jN7(h:nSt ix=true)(v:Value):assign (.Subscript o ix p2) env v=(do
   let ov <- holding [v] (eval o env)
   let iv <- holding [v,ov] (eval ix env)
   standAt p2
   holding [v,ov,iv] (setItem ov iv v)
   release [v,ov,iv] []):=by cases ix<;>first|rfl|cases h
def jMt(h:nCo e=true):swapsWithSole [t] e l env=pure false:=by cases e<;>first|rfl|cases h
def jQy:swappedStores [.Subscript o ix p2] e env=pure none:=by cases e<;>exact rfl
noncomputable def alt{α:Type}(a b:MS α):MS α:=λA=>match a A with
 |some q=>some q
 |none=>b A
def jsq(h:alt a b A=some q):a A=some q\/b A=some q:=by
 unfold alt at h;grind
def jCh{α:Type}{a b:MS α}{A:Sto}{q:Except D α×Sto}(h:a A=some q):alt a b A=some q:=by grind[alt]
def jN9{m:MS α}(h:(m.b λx=>alt (f x) (g x)) A=some q):m.b f A=some q\/m.b g A=some q:=by
 rcases MS.b_inv h with ⟨a,A1,e1,e2⟩|⟨x,A1,e1,rfl⟩
 .exact (jsq e2).imp (λz=>by unfold MS.b;rw[e1];exact z) λz=>by unfold MS.b;rw[e1];exact z
 .exact .inl (by unfold MS.b;rw[e1])
section
variable {X:Cx}{g1 g2:D->D->MS D}
def jLx(a:SE X Er e f)(b:SE X Er e g)(hk:∀{Y A q},k Y A=some q->f Y A=some q\/g Y A=some q):SE X Er e k:=by
 rintro U s Z H Q I ⟨J,Y,A,h,l,q,hf,kk⟩;rcases hk hf with hf|hf
 .exact a _ s Z H Q I ⟨J,Y,A,h,l,q,hf,kk⟩
 .exact b _ s Z H Q I ⟨J,Y,A,h,l,q,hf,kk⟩
def jFy(a:SE X Er e (s2 g1 fa fb))(b:SE X Er e (s2 g2 fa fb)):SE X Er e (s2 (λx y=>alt (g1 x y) (g2 x y)) fa fb):=jLx a b λ{Y A q} h=>by
 rcases MS.b_inv h with ⟨x,A1,e1,e2⟩|⟨x,A1,e1,rfl⟩
 .exact (jN9 e2).imp (λz=>by unfold s2 MS.b;rw[e1];exact z) λz=>by unfold s2 MS.b;rw[e1];exact z
 .exact .inl (by unfold s2 MS.b;rw[e1])
end
structure OT(op:Operator) where
 g:D->D->MS D
 h:∀X:Cx,∃r,OpR X (binaryOp op) r/\OpS X.mg g r
 f:Option {q:PD->PD->Option PD // OpM g q}
def jMz(e:DL.gSub x y=some v):(un v).isSome:=by unfold DL.gSub at e;split at e<;>cases e<;>rfl
def jJ3(e:DL.gMod x y=some v):(un v).isSome:=by unfold DL.gMod at e;split at e<;>(try split at e)<;>cases e<;>rfl
def jDm(e:DL.gFdiv x y=some v):(un v).isSome:=by unfold DL.gFdiv at e;split at e<;>(try split at e)<;>cases e<;>rfl
def jK5(e:DL.gPow x y=some v):(un v).isSome:=by unfold DL.gPow at e;split at e<;>(try split at e)<;>cases e<;>rfl
def jma(e:DL.gCmp p q x y=some v):(un v).isSome:=by unfold DL.gCmp at e;split at e<;>cases e<;>rfl
def jIr(e:DL.gEq x y=some v):(un v).isSome:=by unfold DL.gEq at e;split at e<;>cases e<;>rfl
def jPm(e:DL.gNe x y=some v):(un v).isSome:=by unfold DL.gNe at e;split at e<;>cases e<;>rfl
theorem jDz(e:DL.gIn x y=some v):(un v).isSome:=by unfold DL.gIn at e;split at e<;>(try split at e)<;>cases e<;>rfl
theorem jqm(e:DL.gNotIn x y=some v):(un v).isSome:=by unfold DL.gNotIn at e;split at e<;>(try split at e)<;>cases e<;>rfl
def jJ9(e:DL.gNeg x=some v):(un v).isSome:=by unfold DL.gNeg at e;split at e<;>cases e<;>rfl
def opT(o:Bool):(op:Operator)->Option (OT op)
|.Add=>some ⟨gCatS,λX=>⟨_,jEw,jOe⟩,if o then some ⟨DL.gCatE,jyv⟩else some ⟨DL.gCat,jou⟩⟩
|.Sub=>some ⟨lO DL.gSub,λX=>⟨_,jKj,jfj (DL.opd_sub (X:=X))⟩,some ⟨DL.gSub,jd9 (g:=DL.gSub) λz z z e=>jMz e⟩⟩
|.Mult=>some ⟨gMulS,λX=>⟨_,jos,jEm⟩,some ⟨DL.gMul,jEx⟩⟩
|.Mod=>some ⟨lO DL.gMod,λX=>⟨_,jKg,jfj (DL.opd_mod (X:=X))⟩,some ⟨DL.gMod,jd9 (g:=DL.gMod) λz z z e=>jJ3 e⟩⟩
|.FloorDiv=>some ⟨lO DL.gFdiv,λX=>⟨_,DL.op_fdivD,jfj (DL.opd_fdiv (X:=X))⟩,some ⟨DL.gFdiv,jd9 (g:=DL.gFdiv) λz z z e=>jDm e⟩⟩
|.Pow=>some ⟨lO DL.gPow,λX=>⟨_,jKh,jfj (DL.opd_pow (X:=X))⟩,some ⟨DL.gPow,jd9 (g:=DL.gPow) λz z z e=>jK5 e⟩⟩
|_=>none
structure CT(k:Nat)(op:CmpOp) where
 g:D->D->MS D
 h:∀X:Cx,Room k X.A->∃r,OpR X (compareOp op) r/\OpS X.mg g r
 f:Option {q:PD->PD->Option PD // OpM g q}
def cpT(k:Nat):(op:CmpOp)->Option (CT k op)
|.Eq=>some ⟨lO DL.gEq,λX H=>⟨_,DL.op_eqD (DL.hu30 H),jfj (DL.opd_eq (X:=X))⟩,some ⟨DL.gEq,jd9 (g:=DL.gEq) λz z z e=>jIr e⟩⟩
|.NotEq=>some ⟨lO DL.gNe,λX H=>⟨_,DL.op_neD (DL.hu30 H),jfj (DL.opd_ne (X:=X))⟩,some ⟨DL.gNe,jd9 (g:=DL.gNe) λz z z e=>jPm e⟩⟩
|.Lt=>some ⟨lO DL.gLt,λX z=>⟨_,DL.op_ltD,jfj (DL.opd_cmp (X:=X))⟩,some ⟨DL.gLt,jd9 (g:=DL.gLt) λz z z e=>jma e⟩⟩
|.LtE=>some ⟨lO DL.gLe,λX z=>⟨_,DL.op_leD,jfj (DL.opd_cmp (X:=X))⟩,some ⟨DL.gLe,jd9 (g:=DL.gLe) λz z z e=>jma e⟩⟩
|.Gt=>some ⟨lO DL.gGt,λX z=>⟨_,DL.op_gtD,jfj (DL.opd_cmp (X:=X))⟩,some ⟨DL.gGt,jd9 (g:=DL.gGt) λz z z e=>jma e⟩⟩
|.GtE=>some ⟨lO DL.gGe,λX z=>⟨_,DL.op_geD,jfj (DL.opd_cmp (X:=X))⟩,some ⟨DL.gGe,jd9 (g:=DL.gGe) λz z z e=>jma e⟩⟩
|.Is=>some ⟨gIsS true,λX z=>⟨_,jKf,is_S⟩,none⟩
|.IsNot=>none
|.In=>some ⟨lO DL.gIn,λX z=>⟨_,jjq,jfj (DL.opd_in (X:=X))⟩,some ⟨DL.gIn,jd9 (g:=DL.gIn) λz z z e=>jDz e⟩⟩
|.NotIn=>some ⟨lO DL.gNotIn,λX z=>⟨_,jez,jfj (DL.opd_notin (X:=X))⟩,some ⟨DL.gNotIn,jd9 (g:=DL.gNotIn) λz z z e=>jqm e⟩⟩
def jJc(e:DL.kIntT x=some v):(un v).isSome:=by
 unfold DL.kIntT at e
 split at e
 .cases e;rfl
 .cases e;rfl
 .split at e
  .obtain⟨_,_,rfl⟩:=aB.mp e;rfl
  .cases e
 .cases e
def jAx(e:DL.kAll x=some v):(un v).isSome:=by
 unfold DL.kAll at e
 split at e
 .obtain⟨_,_,rfl⟩:=aB.mp e;rfl
 .cases e
def jMy(e:DL.kStr x=some v):(un v).isSome:=by unfold DL.kStr at e;split at e<;>(try split at e)<;>cases e<;>rfl
def jM1(e:DL.kSum x=some v):(un v).isSome:=by
 unfold DL.kSum at e
 split at e
 .split at e
  .obtain⟨_,_,rfl⟩:=aB.mp e;rfl
  .cases e
 .cases e
def jHu(e:DL.kAbs x=some v):(un v).isSome:=by unfold DL.kAbs at e;split at e<;>cases e<;>rfl
structure BT(x:Str) where
 g:List D->MS D
 h:∀X:Cx,X.calm=true->(∃id r,CallR X (.builtin id) r/\CaS X.mg g r/\bootBuiltins x=some (.builtin id))\/(∃T r,CallR X (.type T) r/\CaS X.mg g r/\bootBuiltins x=some (.type T))
 f:Option {k:List PD->Option PD // CaM g k}
def bT(x:Str):Option (BT x):=
 if h:x="len" then some ⟨kLen,λX z=>.inl ⟨_,_,DL.call_lenD,jCr,by rw[h];exact DL.bt_len⟩,some ⟨DL.kLen,js3⟩⟩
 else if h:x="tuple" then some ⟨kTup,λX z=>.inr ⟨_,_,jk0,js4,by rw[h];exact DL.bt_tuple⟩,some ⟨DL.kTuple,jiu⟩⟩
 else if h:x="int" then some ⟨lC DL.kIntT,λX z=>.inr ⟨_,_,DL.call_intT,jue (DL.cad_intT (X:=X)),by rw[h];exact DL.bt_int⟩,some ⟨DL.kIntT,jrm (g:=DL.kIntT) λz z e=>jJc e⟩⟩
 else if h:x="all" then some ⟨lC DL.kAll,λX c=>.inl ⟨_,_,DL.call_allD c,jue (DL.cad_all (X:=X)),by rw[h];exact DL.bt_all⟩,some ⟨DL.kAll,jrm (g:=DL.kAll) λz z e=>jAx e⟩⟩
 else if h:x="str" then some ⟨lC DL.kStr,λX z=>.inr ⟨_,_,jl9,jue (DL.cad_str (X:=X)),by rw[h];exact DL.bt_str⟩,some ⟨DL.kStr,jrm (g:=DL.kStr) λz z e=>jMy e⟩⟩
 else if h:x="sum" then some ⟨lC DL.kSum,λX c=>.inl ⟨_,_,DL.call_sumD c,jue (DL.cad_sum (X:=X)),by rw[h];exact DL.bt_sum⟩,some ⟨DL.kSum,jrm (g:=DL.kSum) λz z e=>jM1 e⟩⟩
 else if h:x="abs" then some ⟨lC DL.kAbs,λX z=>.inl ⟨_,_,jxl,jue (DL.cad_abs (X:=X)),by rw[h];exact DL.bt_abs⟩,some ⟨DL.kAbs,jrm (g:=DL.kAbs) λz z e=>jHu e⟩⟩
 else none
def jwk(e:DL.gStarts z x=some v):(un v).isSome:=by unfold DL.gStarts at e;split at e<;>cases e<;>rfl
def jD4(e:DL.gJoin z x=some v):(un v).isSome:=by
 unfold DL.gJoin at e
 split at e
 .split at e
  .split at e<;>cases e;rfl
  .cases e
 .cases e
structure MT(n:Str) where
 g:Str->D->MS D
 h:∀X:Cx,∃r,DL.SmR X n r/\SmSt X.mg g r
 f:Option {q:Str->PD->Option PD // SmM g q}
def mT(n:Str):Option (MT n):=
 if h:n="partition" then some ⟨gPartS,λX=>⟨_,by rw[h];exact DL.sm_part,jKl⟩,some ⟨DL.gPart,jlu⟩⟩
 else if h:n="split" then some ⟨gSplitS,λX=>⟨_,by rw[h];exact DL.sm_split,jGv⟩,some ⟨DL.gSplit,jjx⟩⟩
 else if h:n="startswith" then some ⟨lM DL.gStarts,λX=>⟨_,by rw[h];exact DL.sm_starts,jOy (DL.smd_starts (X:=X))⟩,some ⟨DL.gStarts,jMl (g:=DL.gStarts) λz z z e=>jwk e⟩⟩
 else none
structure LT(n:Str) where
 g:Lm
 h:∀X:Cx,∃id r,Slot "list" n id/\typeOf (.builtin id)=pure (.type "method_descriptor")/\MtR X id r/\MtS X.mg g r
def lT(n:Str):Option (LT n):=
 if h:n="append" then some ⟨mApp,λX=>⟨_,_,by rw[h];exact gz,gw,jjm,jur⟩⟩
 else none
def lT0(n:Str):Option (LT n):=
 if h:n="pop" then some ⟨mPop,λX=>⟨_,_,by rw[h];exact PySem.F.slot_list_pop,PySem.F.type_list_pop,jJ6,jEl⟩⟩
 else none
structure Fi where
 x:Str
 k:Nat
 n:Nat
 m:List D->MS D
 f:Option {f:List PD->PM PD // SimM m f}
structure Mi where
 c:Str
 x:Str
 k:Nat
 n:Nat
 m:List D->MS D
inductive Gc where
| int (i:Int)|str (z:Str)|tup (ks:Ab)
structure Pg where
 t:List Fi
 ms:List Mi
 is:List Mi
 xs:List Mi
 xn:Ab
 b:Ab
 g:List (Str×Gc)
 cl:Ab
 ats:Ab
 cs:Ab
 fs:Ab
 bn:Str
def GlS(K:Af)(mg:qc)(x:Str):Gc->Prop
|.int i=>∃t,mg x=some (.int i t)
|.str z=>∃t,mg x=some (.str z t)
|.tup ks=>DL.TupAt K mg x ks
abbrev Ar(n:Nat)(m:List D->MS D):Prop:=∀{ds A q},m ds A=some q->ds.length=n
structure PgOk(P:Program)(w:World)(K:Af)(mg:qc)(base:Heap)(p:Pg):Prop where
 t:∀i∈p.t,CalS P w K mg base i.k i.x i.n i.m/\Ar i.n i.m
 ms:∀i∈p.ms,MetS P w K mg base i.k i.c i.x i.n i.m/\Ar i.n i.m
 is:∀i∈p.is,IniS P w K mg base i.k i.c i.n i.m/\Ar i.n i.m
 xs:∀i∈p.xs,IniX P w K mg base i.k i.c i.n i.m/\Ar i.n i.m
 xn:∀c∈p.xn,DL.NewAt K mg c
 b:∀x∈p.b,mg x=none
 g:∀q∈p.g,GlS K mg q.1 q.2
 cl:∀f∈p.ats,∀c∈p.cl,∀C,mg c=some (.ref C)->Cls K C/\NoAttr K C f
 er:p.cs≠[]->ErrT K mg p.cs p.fs p.bn/\ErrN K mg p.cs/\ErrM K mg p.cs p.bn/\∀f∈p.fs,∀c∈p.cs,∀C,mg c=some (.ref C)->W.takerIn K C f=some none
structure Sx where
 N:Ab
 sc:Scope
 k:Nat
 p:Pg
 w:Aa
 q:Aa
 f:Bool
structure SxOk(S:Sx)(X:Cx):Prop where
 N:X.N=S.N
 sc:X.env.scope=S.sc
 cm:X.calm=true
 hr:Room S.k X.A
 p:PgOk X.prog X.w X.K X.mg X.base S.p
 f:S.f=true->∀x,X.fn x=true
def SxOk.wi(Zq:SxOk S X):SxOk S (X.wish W):=⟨Zq.N,Zq.sc,Zq.cm,Zq.hr,Zq.p,Zq.f⟩
def wx0:Wx X E0:=λz z z z B=>by obtain⟨_,_,_,_,_,_,_,_,_,h⟩:=B;exact h.elim
section
variable {X:Cx}
noncomputable def vis(S:Sx)(x:Str):Bool:=match S.sc.names.lookup x with
 |some .local=>true
 |some .cell=>true
 |some .free=>true
 |_=>false
theorem jNq(H:SxOk S X)(h:vis S x=true):Vis X.env.scope x:=by unfold vis at h;unfold Vis;rw[H.sc];grind
noncomputable def glb(S:Sx)(x:Str):Bool:=decide (S.sc.names.lookup x=some .globalImplicit)&&!(x==("__debug__":Str))&&!(x==("__name__":Str))
def ja6(H:SxOk S X)(h:glb S x=true):Gl X x/\Aq x/\x≠"__name__":=by unfold glb at h;simp only[aC,aV,eG]at h;refine⟨?_,h.1.2,λe=>by grind⟩;show X.env.scope.names.lookup x=_;rw[H.sc];exact h.1.1
noncomputable def loc(S:Sx)(i:Nat)(x:Str):Bool:=decide (S.N[i]?=some x)&&(decide (S.sc.names.lookup x=some .local) || S.f&&decide (S.sc.names.lookup x=some .cell))
def jfs(H:SxOk S X)(h:loc S i x=true):X.N[i]?=some x/\Loc X.env.scope x/\(X.fn x=true\/X.env.scope.names.lookup x=some .local):=by
 unfold loc at h;simp only[aC,Bool.or_eq_true,aV]at h;rw[H.N,H.sc];rcases h.2 with h'|h'
 .exact⟨h.1,.inl h',.inr h'⟩
 .exact⟨h.1,.inr h'.2,.inl (H.f h'.1 x)⟩
def jui(h:loc S i x=true):i<S.N.length:=by
 unfold loc at h;grind
def var(S:Sx)(i:Nat)(x:Str):Bool:=decide (S.N[i]?=some x)&&vis S x&&!(x==("__debug__":Str))&&!(x==("__classdict__":Str))
def jrh(H:SxOk S X)(h:var S i x=true):X.N[i]?=some x/\Vis X.env.scope x/\Aq x/\(x==("__classdict__":Str))=false:=by
 unfold var at h;rw[H.N]
 grind[jNq]
def bin(S:Sx)(x:Str)(es:Ad):Bool:=glb S x&&S.p.b.contains x&&es.all nSt
def jh0(H:SxOk S X)(h:bin S x (a::es)=true):Gl X x/\X.mg x=none/\nSt a=true/\es.all nSt=true/\Aq x/\x≠"__name__":=by unfold bin at h;simp only[aC,bN]at h;exact⟨(ja6 H h.1.1).1,H.p.b _ (zbc.mp h.1.2),h.2.1,h.2.2,(ja6 H h.1.1).2⟩
theorem jm2{α:Type}{d:α}:∀{l:List (Str×α)},l.lookup x=some d->(x,d)∈l
|(y,c)::l,h=>by
  rw[aZ]at h
  split at h
  .simp_all
  .exact zaw _ (jm2 h)
end
def je4(ms:List Mi)(x:Str)(fo:DSt->MS D)(fl:DSt->MS (List D)):DSt->MS D:=λY=>(fo Y).b λd A=>match insO A d with
 |some (_,c,fs)=>if(fs.lookup x).isNone then match ms.find? λi=>i.c==c&&i.x==x with
   |some i=>((fl Y).b λds=>i.m (d::ds)) A
   |none=>none
  else none
 |none=>none
section
variable {X:Cx}
set_option tactic.hygienic true in
def jup(h:je4 ms x fo fl Y A=some q):(∃i,i∈ms/\i.x=x/\jzq i.c x i.m fo fl Y A=some q)\/∃y A1,fo Y A=some (.error y,A1)/\q=(.error y,A1):=by
 rcases MS.b_inv h with ⟨d,A1,e1,e2⟩|⟨y,A1,e1,rfl⟩
 .refine .inl ?_
  cases ei:insO A1 d with
  |none=>simp_all
  |some z=>
   rw[ei]at e2;dsimp only at e2
   split at e2
   .rename_i hno
    split at e2
    .rename_i i hi;have hp:=eQ hi;simp only[aC,bB]at hp;refine⟨i,(cO hi),hp.2,?_⟩;unfold jzq MS.b;rw[e1];dsimp only;rw[ei];dsimp only;rw[aD ⟨hp.1.symm,hno⟩];exact e2
    .cases e2
   .cases e2
 simp_all
def jq3{ex:Expr}{t:TA}(M:∀i∈ms,MetS X.prog X.w X.K X.mg X.base i.k i.c i.x i.n i.m/\Ar i.n i.m)(hk:ms.all (λi=>decide (i.x≠x\/i.k<=k))=true)(h0:ms.any (λi=>decide (i.x=x))=true)(hr:Room k X.A)(ht:∀{Z H Q},tS (λJ=>Paired (RV J)) X.mg (jbo E) fl Z H Q->t Z H Q)
  (hp:∀{k C f fd ps sp},Room k X.A->Cls X.K C->Meth X.K C x f->Binds X.K fd ps []->Ap X (CX1 X.prog X.w) k f fd ps sp->PE X ex (jHb C x sp [] E (tS RV X.mg (jbo E) fo) t)):SE X (jbo E) ex (je4 ms x fo fl):=by
 have go:∀i∈ms,i.x=x->SE X (jbo E) ex (jzq i.c x i.m fo fl):=λi hi hxi=>by
  have hki:=aQ.mp hk i hi;simp only[aV]at hki;obtain⟨⟨Ca,f,fd,ps,hl,hm,hc,hM,hb,G⟩,ar⟩:=M i hi;rw[hxi]at hM;refine sgo (hp (hr.mono (hki.resolve_left λz=>z hxi)) hc hM hb G) λh l q hf kk=>bS h l hf kk λd A1 hf u ρ1 H1 h l r k _=>?_
  cases ei:insO A1 d with
  |none=>simp_all
  |some z=>
   simp only[ei]at hf
   split at hf
   .rename_i hcs;obtain⟨ec,hno⟩:=hcs;obtain⟨a,C,dx,vs,rfl,rfl,q1,q2,q3,q4⟩:=joa h r ei;rw[ec]at q2;cases hm.symm.trans q2;have:=jtx (f:=x) q4;rw[Option.isNone_iff_eq_none.mp hno]at this;refine⟨a,dx,vs,rfl,q3,this,ht (bS h l hf k λds A2 hf us ρ2 H2 h l r2 k l2=>?_)⟩;rw[aO];exact⟨(Paired.cons (r.mono l2) r2).length.symm.trans (ar hf),ρ2,_,A2,h,.cons (r.mono l2) r2,_,hf,k⟩
   .cases hf
 rintro U s Z H Q I ⟨J,Y,A,h,l,q,hf,kk⟩;rcases jup hf with ⟨i,hi,hxi,hf⟩|⟨y,A1,e1,rfl⟩
 .exact go i hi hxi _ s Z H Q I ⟨J,Y,A,h,l,q,hf,kk⟩
 .obtain⟨i,hi,hxi⟩:=List.any_eq_true.mp h0;exact go i hi (of_decide_eq_true hxi) _ s Z H Q I ⟨J,Y,A,h,l,_,by unfold jzq MS.b;rw[e1],kk⟩
def iRg3(fl:DSt->MS (List D)):DSt->MS Itr:=λY=>(fl Y).b λds=>match ds with
 |[.int i,.int j,.int k]=>if 0<k/\k<2^60 then MS.p (wkV (λn=>.int (i+(n:Nat)*k)) (Builtin.Range.rangeSize i j k).toNat) elseλz=>none
 |_=>λz=>none
def jG8(hg:Gl X "range")(hm:X.mg "range"=none)(ha:SA X Er (a::es) fl)(hs:starEach (a::es) X.env=(false,eval a X.env)::starEach es X.env)(hp:zbT pos es X.env):SW X Er tg (.Call (.Name "range" p) (a::es) [] pos) (iRg3 fl):=by
 refine sgo (L2.pi_range3 hg hm ha hs hp) λh l q hf k=>bS h l hf k λds A1 hf us ρ1 H1 h l r k _=>?_
 split at hf
 .split at hf
  .rename_i hz;cases hf;cases r with|cons r t =>
   cases t with|cons r2 t =>
   cases t with|cons r3 t =>
   cases t;cases r;cases r2;cases r3;exact⟨_,_,_,rfl,hz.1,hz.2,k _ ρ1 H1 (pr _) h (jrj λ_ _=>rfl)⟩
  .cases hf
 .cases hf
def jz1(ha:SmA n O fl pl):Sm ReI n O (iRg3 fl) (DL.iArgs DL.rangeArgs3 pl):=by
 intro F Y p A r s e;refine smb ha s e λa b A1 s l r1 e=>?_
 obtain⟨xs,e1,rfl⟩:=DL.M.o_inv e;unfold DL.rangeArgs3 at e1
 split at e1
 .split at e1
  .rename_i hz;cases e1;cases r1 with|cons r1 t =>
   cases t with|cons r2 t =>
   cases t with|cons r3 t =>
   cases t;cases r1;cases r2;cases r3
   exact⟨_,A1,by dsimp only;rw[aD hz];rfl,aF _,.ok (jzh λ_ _ j=>.int)⟩
  .cases e1
 .cases e1
end
structure RE(S:Sx)(O:Aa)(e:Expr) where
 g:DSt->MS D
 h:∀{X E},SxOk S X->Wx X E->SE X (jbo E) e g
 f:Option {f:PSt->PM PD // SmE S.N.length O g f}
structure RA(S:Sx)(O:Aa)(e:Ad) where
 g:DSt->MS (List D)
 h:∀{X E},SxOk S X->Wx X E->SA X (jbo E) e g
 f:Option {f:PSt->PM (List PD) // SmA S.N.length O g f}
structure RT(S:Sx)(O:Aa)(e:Expr) where
 g:DSt->MS Bool
 h:∀{X E},SxOk S X->Wx X E->ST X (jbo E) e g
 f:Option {f:PSt->PM Bool // SmT S.N.length O g f}
structure RW(S:Sx)(O:Aa)(e:Expr) where
 g:DSt->MS Bool
 h:∀{X E},SxOk S X->Wx X E->SWt X (jbo E) e g
 f:Option {f:PSt->PM Bool // SmT S.N.length O g f}
structure RI(S:Sx)(O:Aa)(t e:Expr) where
 g:DSt->MS Itr
 h:∀{X E},SxOk S X->Wx X E->SW X (jbo E) t e g
 f:Option {f:PSt->PM (List PD) // Sm ReI S.N.length O g f}
structure RG(S:Sx)(O:Aa)(t:Expr) where
 g:Tg
 h:∀{X},SxOk S X->S.N.Nodup->SG X t g
 f:Option {f:PD->PSt->Option PSt // SmG S.N.length O g f}
structure RC(S:Sx)(O:Aa)(es:Ad) where
 g:DSt->MS Bool
 h:∀{X E},SxOk S X->Wx X E->SC X (jbo E) es g
 f:Option {f:PSt->PM Bool // SmT S.N.length O g f}
structure RP(S:Sx)(O:Aa)(e:Option Expr) where
 g:DSt->MS (Option Int)
 h:∀{X E},SxOk S X->Wx X E->SPo X (jbo E) e g
 f:Option {f:PSt->PM (Option Int) // SmP S.N.length O g f}
structure SsOk(S:Sx)(X:Cx):Prop where
 ok:SxOk S X
 nd:S.N.Nodup
 ps:PassesOwn (model X.prog X.w) X.A X.env X.xe
 bk:X.env.blockKind=.function
 st:X.stack=X.env::X.outer
 fr:X.env.frame=some X.env.locals
structure RSs(S:Sx)(O O' B:Aa)(sts:List Stmt) where
 g:DSt->MS Out
 h:∀{X E},SsOk S X->Wx X E->SSs X (jbo E) sts g
 f:Option {f:PSt->PM DL.Out // SmS S.N.length O O' B g f}
structure Lv where
 e:∀(S:Sx)(O:Aa)(e:Expr),Option (RE S O e)
 t:∀(S:Sx)(O:Aa)(e:Expr),Option (RT S O e)
 w:∀(S:Sx)(O:Aa)(e:Expr),Option (RW S O e)
 s:∀(S:Sx)(O O' B:Aa)(sts:List Stmt),Option (RSs S O O' B sts)
def st_w(h:SWt X Er e f):ST X Er e f:=PW.pt h
noncomputable def p2{α β γ:Type}{p:α->Prop}{q:β->Prop}{r:γ->Prop}(a:Option {a // p a})(b:Option {b // q b})(f:α->β->γ)(h:∀{a b},p a->q b->r (f a b)):Option {c // r c}:=a.bind λa=>b.map λb=>⟨f a.1 b.1,h a.2 b.2⟩
noncomputable def p1{α γ:Type}{p:α->Prop}{r:γ->Prop}(a:Option {a // p a})(f:α->γ)(h:∀{a},p a->r (f a)):Option {c // r c}:=a.map λa=>⟨f a.1,h a.2⟩
section
variable (L:Lv)(S:Sx)(O:Aa)
noncomputable def rA:(es:Ad)->Option (RA S O es)
|[]=>some ⟨sNil,λz z=>jvy,some ⟨DL.fNil,jfu⟩⟩
|e::es=>(L.e S O e).bind λa=>(rA es).bind λr=>if h:nSt e=true then some ⟨jar a.g r.g,λH W=>jo2 (a.h H W) (r.h H W) (jbp h),p2 a.f r.f DL.fCons jb6⟩else none
def rP:(e:Option Expr)->Option (RP S O e)
|none=>some ⟨sNo,λz z=>jz6,some ⟨DL.oNone,jBx⟩⟩
|some e=>(L.e S O e).bind λa=>some ⟨sPa a.g,λH W=>jz7 (a.h H W),p1 a.f DL.oSome jq5⟩
set_option backward.match.sparseCases true in
def ixs:Ad->Option Aa
|[]=>some []
|.Name x _::es=>if loc S (S.N.idxOf x) x=true then(ixs es).map (S.N.idxOf x::·)else none
|_::_=>none
theorem jBm{S:Sx}(H:SxOk S X)(nd:S.N.Nodup):∀{es:Ad}{is:Aa},ixs S es=some is->Nms X es is
|[],_,h=>by cases h;exact .nil
|e::es,is,h=>by
  unfold ixs at h
  split at h
  .trivial
  .rename_i hq;cases hq
   split at h
   .rename_i hl;obtain⟨is',h1,rfl⟩:=aB.mp h;obtain⟨z1,z2,z3⟩:=jfs H hl;exact .cons (by rw[H.N];exact nd) z1 z2 z3 rfl (jBm H nd h1)
   .cases h
  .cases h
theorem jof{S:Sx}:∀{es:Ad}{is:Aa},ixs S es=some is->(assignEach es env).length=is.length/\(assignEach es env).findIdx? (·.1)=none
|[],_,h=>by cases h;exact⟨rfl,rfl⟩
|e::es,is,h=>by
  unfold ixs at h
  split at h
  .simp_all
  .rename_i hq;cases hq
   split at h
   .obtain⟨is',h1,rfl⟩:=aB.mp h;obtain⟨z1,z2⟩:=jof h1;refine⟨congrArg _ z1,?_⟩;show List.findIdx? _ ((false,_)::assignEach es env)=none
    grind
   .cases h
  .cases h
def gTs(O:Aa)(n:Nat):(is:Aa)->Option {f:PD->PSt->Option PSt // SmG n O (tTup is) f}
|[i,j]=>if h:O.contains i=false/\O.contains j=false then some ⟨DL.gTup2 i j,jQe h.1 h.2⟩else none
|_=>none
set_option backward.match.sparseCases true in
def rG:(t:Expr)->Option (RG S O t)
|.Name x pos=>if h:loc S (S.N.idxOf x) x=true then some ⟨jhz (S.N.idxOf x),λH nd=>have z:=jfs H h;jGd (by rw[H.N];exact nd) z.1 z.2.1 z.2.2,if o:O.contains (S.N.idxOf x)=false then some ⟨DL.gName (S.N.idxOf x),jim o⟩else none⟩else none
|.Tuple ts kk pos=>match h:ixs S ts with
  |some is=>some ⟨tTup is,λH nd=>jMa H.cm (jBm H nd h) (jof h).1 (jof h).2,gTs O S.N.length is⟩
  |none=>none
|_=>none
def rC:(es:Ad)->Option (RC S O es)
|[]=>some ⟨sYes,λz z=>jLv,some ⟨DL.tYes,λ{F Y p A r} s e=>by cases e;exact tQ.it rfl⟩⟩
|[a]=>(L.t S O a).bind λa=>some ⟨a.g,λH W=>jLw (a.h H W),a.f⟩
|_=>none
set_option backward.match.sparseCases true in
def rI:(t e:Expr)->Option (RI S O t e)
|.Tuple ts kk tp,.Call (.Name x p) (a::es) [] pos=>
  if h:bin S x (a::es)=true/\x="enumerate"/\es=[]then(rA L S O [a]).bind λl=>some ⟨iEnS true l.g,λH W=>by obtain⟨h,rfl,rfl⟩:=h;obtain⟨h1,h2,h3,h4,_⟩:=jh0 H h;exact jQg h1 h2 (l.h H W) (jbp h3),p1 l.f (DL.iArgs DL.enumArgs) jMk⟩
  else match es with
   |[b]=>if h:bin S x [a,b]=true/\x="zip" then(rA L S O [a,b]).bind λl=>some ⟨iZp l.g,λH W=>by
     obtain⟨h,rfl⟩:=h;obtain⟨h1,h2,h3,h4,_⟩:=jh0 H h
     rw[bN,aC]at h4;exact jM5 h1 h2 (l.h H W) ((jbp h3).trans (congrArg _ (jbp h4.1))) (jbp h4.1),p1 l.f (DL.iArgs DL.zipArgs) jGm⟩else none
   |_=>none
|t,.Call (.Name x p) (a::es) [] pos=>
  if h:bin S x (a::es)=true/\x="range" then(rA L S O (a::es)).bind λl=>if es.length=2 then some ⟨iRg3 l.g,λH W=>by
   obtain⟨h,rfl⟩:=h;obtain⟨h1,h2,h3,h4,_⟩:=jh0 H h;exact jG8 h1 h2 (l.h H W) (jbp h3) (jiq h4),p1 l.f (DL.iArgs DL.rangeArgs3) jz1⟩
   else some ⟨iRg l.g,λH W=>by obtain⟨h,rfl⟩:=h;obtain⟨h1,h2,h3,h4,_⟩:=jh0 H h;exact jM3 h1 h2 (l.h H W) (jbp h3) (jiq h4),p1 l.f (DL.iArgs DL.rangeArgs) jGk⟩
  else(L.e S O (.Call (.Name x p) (a::es) [] pos)).bind λa=>some ⟨iSq a.g,λH W=>jB3 (a.h H W),p1 a.f DL.iSeqD jjw⟩
|t,e=>(L.e S O e).bind λa=>if S.q.contains (e.pos.line*1000+e.pos.col)then some ⟨iTx a.g,λH W=>jM4 (a.h H W),p1 a.f DL.iTxtD jGl⟩else some ⟨iSq a.g,λH W=>jB3 (a.h H W),p1 a.f DL.iSeqD jjw⟩
end
section
variable {g1 g2:D->D->MS D}
abbrev gSub:D->D->MS D:=gIx
def jj7(cs:Ab)(f:Str):D->MS D:=λx A=>match insO A x with
 |some (_,c,fs)=>if cs.contains c then(fs.lookup f).map λd=>(.ok d,A)else none
 |none=>none
noncomputable def jDs(cs:Ab)(f:Str):D->MS D:=λd A=>match d with
 |.obj i=>match A[i]? with
  |some (.exc c (some j) _)=>match A[j]? with
   |some (.xd fs)=>if cs.contains c then(fs.lookup f).map λd=>(.ok d,A)else none
   |_=>none
  |_=>none
 |_=>none
def jGh(h:SmE n O (s2 g1 fa fb) q):SmE n O (s2 (λx y=>alt (g1 x y) (g2 x y)) fa fb) q:=by intro F Y p A r s e;obtain⟨q',A',f1,f2,f3⟩:=h s e;exact⟨q',A',jgx f1 λx A1 q h=>jgx h λy A2 q h=>jCh h,f2,f3⟩
end
def st_one:(ST X Er a f->SWt X Er (.BoolOp .And [a] pos) f)/\(ST X Er a f->SWt X Er (.BoolOp .Or [a] pos) f):=⟨λh=>jFo h,λh=>jLe h⟩
section
variable (L:Lv)(S:Sx)(O:Aa)
def rNm(x:Str)(pos:Pos):Option (RE S O (.Name x pos)):=
 if h:var S (S.N.idxOf x) x=true then some ⟨sVar (S.N.idxOf x),λH W=>have z:=jrh H h;jq4 z.1 z.2.1 z.2.2.1 z.2.2.2,if o:O.contains (S.N.idxOf x)=false then some ⟨DL.vR (S.N.idxOf x),jdi o⟩else none⟩
 else if h:glb S x=true then
  match hg:S.p.g.lookup x with
  |some (.int i)=>some ⟨sC (.int i),λH W=>by obtain⟨t,ht⟩:=H.p.g _ (jm2 hg);exact se_c (v:=.int i) (jjs (ja6 H h).1 ht ⟨t,rfl⟩ (ja6 H h).2.1) λy=>rfl,some ⟨DL.fC (.int i),sm_c λy y=>.int⟩⟩
  |some (.str z)=>some ⟨sC (.str z),λH W=>by obtain⟨t,ht⟩:=H.p.g _ (jm2 hg);exact se_c (v:=.str z) (jjs (ja6 H h).1 ht ⟨t,rfl⟩ (ja6 H h).2.1) λy=>rfl,some ⟨DL.fC (.str z),sm_c λy y=>.str⟩⟩
  |_=>none
 else none
def rCal(x:Str)(p:Pos)(e:Expr)(es:Ad)(pos:Pos):Option (RE S O (.Call (.Name x p) (e::es) [] pos)):=
 if h:bin S x (e::es)=true then(bT x).bind λk=>(rA L S O (e::es)).bind λl=>some ⟨sL k.g l.g,λ{X E} H W=>by
  obtain⟨h1,h2,h3,h4,h5,h6⟩:=jh0 H h;rcases k.h X H.cm with ⟨_,_,a,b,c⟩|⟨_,_,a,b,c⟩
  .exact jzr a b h1 h2 c (l.h H W) h6 h5 (jbp h3) (jiq h4)
  .exact jv1 a b h1 h2 c (l.h H W) h6 h5 (jbp h3) (jiq h4),p2 k.f l.f DL.fL sm_l⟩
 else(rA L S O (e::es)).bind λl=>if hn:glb S x=true/\nSt e=true/\es.all nSt=true then
  match hf:S.p.t.find? (λi=>i.x==x)with
  |some i=>if hk:i.k<=S.k then some ⟨sL i.m l.g,λH W=>by
    have C:=(H.p.t i (cO hf))
    have q:i.x=x:=eq_of_beq (eQ (p:=λi:Fi=>i.x==x) hf);rw[q]at C;exact jFz C.1 C.2 (H.hr.mono hk) W (l.h H W) (ja6 H hn.1).1 (ja6 H hn.1).2.1 (jbp hn.2.1) (jiq hn.2.2),p2 i.f l.f DL.fCall jwb⟩else none
  |none=>match hf:S.p.is.find? (λi=>i.c==x)with
   |some i=>if hk:i.k+1<=S.k then some ⟨jr8 x i.m l.g,λH W=>by have C:=H.p.is i (cO hf);have q:i.c=x:=eq_of_beq (eQ (p:=λi:Mi=>i.c==x) hf);rw[q]at C;exact jF5 C.1 C.2 (H.hr.mono hk) W (l.h H W) (ja6 H hn.1).1 (ja6 H hn.1).2.1 (jbp hn.2.1) (jiq hn.2.2),none⟩else none
   |none=>match hf:S.p.xs.find? (λi=>i.c==x)with
    |some i=>if hk:i.k+1<=S.k then some ⟨jq0 x i.m l.g,λH W=>by have C:=H.p.xs i (cO hf);have q:i.c=x:=eq_of_beq (eQ (p:=λi:Mi=>i.c==x) hf);rw[q]at C;exact jzv C.1 C.2 (H.hr.mono hk) W (l.h H W) (ja6 H hn.1).1 (ja6 H hn.1).2.1 (jbp hn.2.1) (jiq hn.2.2),none⟩else none
    |none=>none
  else none
def rIs(p:Pos)(e:Expr)(d:Str)(p2 pos:Pos):Option (RE S O (.Call (.Name "isinstance" p) [e,.Name d p2] [] pos)):=
 if h:S.p.cs.contains d=true/\glb S d=true/\bin S "isinstance" [e]=true then(L.e S O e).bind λa=>some ⟨s1 (gIsX S.p.cs λc=>c==d) a.g,λH W=>by
  have er:=H.p.er λz=>by simp_all
  obtain⟨h1,h2,h3,h4,_⟩:=jh0 H h.2.2;exact jL3 er.1 er.2.1 h.1 h2 (a.h H W) (ja6 H h.2.1).1 (ja6 H h.2.1).2.1 h1 (jbp h3),none⟩else none
def rLs(p:Pos)(p2:Pos)(e:Expr)(p3 p4:Pos):Option (RE S O (.Call (.Name "len" p) [.Call (.Name "set" p2) [e] [] p3] [] p4)):=
 if h:bin S "len" [e]=true/\bin S "set" [e]=true then(L.e S O e).bind λa=>some ⟨s1 (lU DL.gLenS) a.g,λH W=>by
  have z:=jh0 H h.1;have u:=jh0 H h.2
  exact jF4 H.cm u.2.1 z.2.1 (a.h H W) u.1 z.1 (jbp z.2.2.1) rfl rfl rfl,p1 a.f (DL.f1 DL.gLenS) λh=>sm_1 (jNo λx v e=>by
   unfold DL.gLenS at e
   split at e
   .refine ob e λy y e=>?_;split at e<;>cases e;rfl
   .cases e) h⟩else none
def rMt(o:Expr)(n:Str)(ap:Pos)(e:Expr)(es:Ad)(pos:Pos):Option (RE S O (.Call (.Attribute o n ap) (e::es) [] pos)):=
 if h:(nSu o=true/\(ap.endLine==pos.line)=true)/\((e::es).all nSt&&decide ((e::es).length<29))=true then
  (L.e S O o).bind λa=>(rA L S O (e::es)).bind λl =>
  if q:S.p.ms.any (λi=>decide (i.x=n))=true then if hk:S.p.ms.all (λi=>decide (i.x≠n\/i.k<=S.k))=true then some ⟨je4 S.p.ms n a.g l.g,λH W=>by have hs:=((aC _ _).mp h.2).1;rw[bN,aC]at hs;exact jq3 H.p.ms hk q H.hr (λz=>z) λhr hc hM hb G=>jE6 (a.h H W) hc hM G hr hb .nil (wx_b W) (l.h H W) (jbp hs.1) (jiq hs.2) (jJ5 h.1.1 h.2 h.1.2),none⟩else none
  else match lT n with
   |some g=>some ⟨sMt g.g a.g l.g,λ{X E} H W=>by obtain⟨_,_,h1,h2,h3,h4⟩:=g.h X;have hs:=((aC _ _).mp h.2).1;rw[bN,aC]at hs;exact jF6 h1 h2 h3 h4 (a.h H W) (l.h H W) (jl3 h.1.1 _) (jx8 h.2) h.1.2 (jbp hs.1) (jiq hs.2),none⟩
   |none=>none
 else none
def rTx(o:Expr)(n:Str)(ap:Pos)(e:Expr)(pos:Pos):Option (RE S O (.Call (.Attribute o n ap) [e] [] pos)):=
 if h:(nSu o=true/\nSt e=true)/\(ap.endLine==pos.line)=true then
  if q:n="join" then(L.e S O o).bind λa=>(L.e S O e).bind λb=>some ⟨sSm (lM DL.gJoin) a.g b.g,λH W=>by subst q;exact jF3 (a.h H W) (b.h H W) (jl3 h.1.1 _) (by rw[jbp h.1.2];rfl) h.2 (jbp h.1.2),p2 a.f b.f (DL.fSm DL.gJoin) (jMj (jMl (g:=DL.gJoin) λz z z e=>jD4 e))⟩
  else match mT n with
   |some g=>(L.e S O o).bind λa=>(L.e S O e).bind λb=>some ⟨sSm g.g a.g b.g,λ{X E} H W=>by obtain⟨_,r1,r2⟩:=g.h X;exact jP7 r1 r2 (a.h H W) (b.h H W) (jl3 h.1.1 _) (jbp h.1.2) h.2,g.f.bind λq=>p2 a.f b.f (DL.fSm q.1) (jMj q.2)⟩
   |none=>rMt L S O o n ap e [] pos
 else none
def rKx(x:Str)(p:Pos)(n:Str)(ap:Pos)(e:Expr)(pos:Pos):Option (RE S O (.Call (.Attribute (.Name x p) n ap) [e] [] pos)):=
 if h:(n="index"/\glb S x=true)/\nSt e=true/\(ap.endLine==pos.line)=true then match hg:S.p.g.lookup x with
  |some (.tup ks)=>(L.e S O e).bind λa=>some ⟨s1 (jDu ks) a.g,λH W=>by obtain⟨⟨rfl,h1⟩,h2,h3⟩:=h;exact jF2 (H.p.g _ (jm2 hg)) (ja6 H h1).1 (a.h H W) (ja6 H h1).2.1 rfl (by rw[jbp h2];rfl) h3 (jbp h2),none⟩
  |_=>none
 else none
def rM0(o:Expr)(n:Str)(ap pos:Pos):Option (RE S O (.Call (.Attribute o n ap) [] [] pos)):=
 if h:nSu o=true/\(ap.endLine==pos.line)=true then(L.e S O o).bind λa =>
  if q:S.p.ms.any (λi=>decide (i.x=n))=true then if hk:S.p.ms.all (λi=>decide (i.x≠n\/i.k<=S.k))=true then some ⟨je4 S.p.ms n a.g sNil,λH W=>jq3 H.p.ms hk q H.hr (λz=>by cases z with|mk _ _ _ h _ _ hf k=>cases hf;exact k _ _ _ (pr _) h .nil) λhr hc hM hb G=>jy2 (a.h H W) hc hM G hr hb .nil (wx_b W) (jJ5 h.1 rfl h.2),none⟩else none
  else match lT0 n with
   |some g=>some ⟨sMt0 g.g a.g,λ{X E} H W=>by obtain⟨_,_,h1,h2,h3,h4⟩:=g.h X;exact jL5 h1 h2 h3 h4 (a.h H W) (jl3 h.1 _) h.2,none⟩
   |none=>none
 else none
def hu1(h:Room k A):A.units+1<cLine:=eC (fJ (by decide) _) (DL.hu30 h)
def rGet(o:Expr)(ap:Pos)(e f:Expr)(pos:Pos):Option (RE S O (.Call (.Attribute o "get" ap) [e,f] [] pos)):=
 if h:(nSu o=true/\(ap.endLine==pos.line)=true)/\nSt e=true/\nSt f=true then(L.e S O o).bind λa=>(L.e S O e).bind λb=>(L.e S O f).bind λc=>some ⟨jqz a.g b.g c.g,λH W=>jzt (hu1 H.hr) (a.h H W) (b.h H W) (c.h H W) ⟨jl3 h.1.1 _,jx8 (by simp_all),h.1.2,by rw[jbp h.2.1,jbp h.2.2];rfl⟩,none⟩
 else none
set_option backward.match.sparseCases true in
noncomputable def tnm:Expr->Ab
|.Name x _=>[x]
|.Tuple es _ _=>es.filterMap λe=>match e with
  |.Name x _=>some x
  |_=>none
|_=>[]
noncomputable def cps(scope:Scope):qh:=S.N.zipIdx.filter λp=>decide (scope.names.lookup p.1=some .free)
def cpX(scope:Scope)(tg:Expr):Sx:=⟨tnm tg++(cps S scope).map (·.1),relabel scope ⟨S.sc,0,0,[],Str.empty,none,.none,none,0⟩,S.k,S.p,[],S.q,false⟩
def jk3{S:Sx}(H:SxOk S X):SxOk (cpX S scope tg) (jbd X scope (tnm tg++(cps S scope).map (·.1)) C s0 H0 ex):=⟨rfl,by show relabel _ _=_;unfold cpX relabel Env.kindOf;rw[H.sc],H.cm,H.hr,H.p,λh=>nomatch h⟩
def cpOk(scope:Scope)(tg iter:Expr)(a:Int):Bool:=decide (a=0)&&decide ((cpX S scope tg).N.Nodup)&&decide (scope.kind=.function)&&jpm S.N S.sc.names scope.names (cps S scope)&&nSt iter
def jtb{S:Sx}(h:cpOk S scope tg iter a=true):a=0/\(cpX S scope tg).N.Nodup/\scope.kind=.function/\jpm S.N S.sc.names scope.names (cps S scope)=true/\nSt iter=true:=by simp_all [cpOk]
def jkd{S:Sx}:(cpX S scope tg).N.length=(tnm tg).length+(cps S scope).length:=by simp[cpX]
structure RCm(e:Expr) where
 g:DSt->MS D
 h:∀{X E},SxOk S X->Wx X E->SE X (jbo E) e g
 f:Option {f:PSt->PM PD // SmF S.N.length O g f}
def rCm(elt tg iter:Expr)(ifs:Ad)(a:Int)(scope:Scope)(pos:Pos):Option (RCm S O (.ListComp elt [⟨tg,iter,ifs,a⟩] scope pos)):=
 (rI L S O tg iter).bind λi=>(rG (cpX S scope tg) [] tg).bind λg=>(rC L (cpX S scope tg) [] ifs).bind λc=>(L.e (cpX S scope tg) [] elt).bind λf =>
 if h:cpOk S scope tg iter a=true then some ⟨sCmp (tnm tg).length (cps S scope) i.g g.g c.g f.g,λH W=>by
  obtain⟨rfl,h1,h2,h3,h5⟩:=jtb h;exact jBt (Er':=jbo E0) (own:=tnm tg) H.cm (jnu H.N H.sc h2 h3) (i.h H W) (λz z z z=>g.h (jk3 H) h1) (λz z z z=>c.h (jk3 H) wx0) (λz z z z=>f.h (jk3 H) wx0) (jx7 h5),
  if hc:DL.capsFree O (cps S scope)=true then i.f.bind λi'=>g.f.bind λg'=>c.f.bind λc'=>f.f.map λf'=>⟨DL.fComp (tnm tg).length (cps S scope) i'.1 g'.1 c'.1 f'.1,jg8 i'.2 hc (jkd ▸ g'.2) (jkd ▸ c'.2) (jkd ▸ f'.2)⟩else none⟩else none
def jv2(hu:X.A.units+1<cLine)(ha:SE X Er a fa)(hb:SE X Er b fb)(h:nSt b=true):SE X Er (.Subscript a b pos) (s2 gSub fa fb):=
 jP6 jJg ix_S ha hb (jQc h)
set_option backward.match.sparseCases true in
def rIx(a b:Expr)(pos:Pos):Option (RE S O (.Subscript a b pos)):=match a,b with
 |a,.Slice lo hi none p3=>(L.e S O a).bind λa=>(rP L S O lo).bind λl=>(rP L S O hi).bind λu=>some ⟨sSl a.g l.g u.g,λH W=>jzu (a.h H W) (l.h H W) (u.h H W),a.f.bind λa=>p2 l.f u.f (DL.fSl a.1) (jMi a.2)⟩
 |.Name x p,b=>(L.e S O b).bind λv=>
  if q:nSt b=true then
   if h:var S (S.N.idxOf x) x=true then some ⟨s2 gSub (sVar (S.N.idxOf x)) v.g,λH W=>have z:=jrh H h;jv2 (hu1 H.hr) (jq4 z.1 z.2.1 z.2.2.1 z.2.2.2) (v.h H W) q,
    if o:O.contains (S.N.idxOf x)=true then p1 v.f (DL.f2 DL.gIx (DL.vR (S.N.idxOf x))) λk=>jMf o k else p1 v.f (DL.f2 DL.gIx (DL.vR (S.N.idxOf x))) λk=>sm_2 jh6 (jdi (f8 _ ▸ o)) k⟩
   else(rNm S O x p).bind λa=>some ⟨s2 gSub a.g v.g,λH W=>jv2 (hu1 H.hr) (a.h H W) (v.h H W) q,p2 a.f v.f (DL.f2 DL.gIx) λh1 h2=>sm_2 jh6 h1 h2⟩
  else none
 |a,b=>(L.e S O a).bind λa=>(L.e S O b).bind λv=>if q:nSt b=true then some ⟨s2 gSub a.g v.g,λH W=>jv2 (hu1 H.hr) (a.h H W) (v.h H W) q,p2 a.f v.f (DL.f2 DL.gIx) λh1 h2=>sm_2 jh6 h1 h2⟩else none
def gInA(neg:Bool):D->D->MS D:=λx y=>alt (lO (if neg then DL.gNotIn else DL.gIn) x y) (gDIn neg x y)
def jJb{neg:Bool}(e:(if neg then DL.gNotIn else DL.gIn) x y=some v):(un v).isSome:=by grind[jDz,jqm]
def jP5(hop:op=if neg then .NotIn else .In)(hu:X.A.units+1<cLine)(ha:SE X Er a fa)(hb:SE X Er b fb)(h:nSt b=true):SE X Er (.Compare a [op] [b] pos) (s2 (gInA neg) fa fb):=by
 refine jFy ?_ (jLz hop hu ha hb (jr0 h))
 cases neg with
 |false=>cases hop;exact jo3 jjq (jfj (DL.opd_in)) ha hb (jr0 h)
 |true=>cases hop;exact jo3 jez (jfj (DL.opd_notin)) ha hb (jr0 h)
noncomputable def ngT(op:CmpOp):Option {neg:Bool // op=if neg then .NotIn else .In}:=match op with
 |.In=>some ⟨false,rfl⟩
 |.NotIn=>some ⟨true,rfl⟩
 |_=>none
def rCK(a:Expr)(op:CmpOp)(neg:Bool)(hop:op=if neg then .NotIn else .In)(x:Str)(p pos:Pos):Option (RE S O (.Compare a [op] [.Name x p] pos)):=
 if h:glb S x=true then match hg:S.p.g.lookup x with
  |some (.tup ks)=>(L.e S O a).bind λa=>some ⟨s1 (lU λy=>(if neg then DL.gNotIn else DL.gIn) y (.tup (ks.map .str))) a.g,λH W=>jL2 hop (H.p.g _ (jm2 hg)) (ja6 H h).1 (ja6 H h).2.1 (a.h H W),none⟩
  |_=>none
 else none
def rInn(a:Expr)(op:CmpOp)(neg:Bool)(hop:op=if neg then .NotIn else .In)(b:Expr)(pos:Pos):Option (RE S O (.Compare a [op] [b] pos)):=
 (L.e S O a).bind λa=>(L.e S O b).bind λv=>if h:nSt b=true then some ⟨s2 (gInA neg) a.g v.g,λH W=>jP5 hop (hu1 H.hr) (a.h H W) (v.h H W) h,p2 a.f v.f (DL.f2 (if neg then DL.gNotIn else DL.gIn)) λh1 h2=>jGh (sm_2 (jd9 (g:=if neg then DL.gNotIn else DL.gIn) λz z z e=>jJb e) h1 h2)⟩else none
def rCp(a:Expr)(op:CmpOp)(b:Expr)(pos:Pos):Option (RE S O (.Compare a [op] [b] pos)):=match ngT op with
 |some ⟨neg,hop⟩=>match b with
  |.Name x p=>match rCK L S O a op neg hop x p pos with
   |some r=>some r
   |none=>rInn L S O a op neg hop (.Name x p) pos
  |b=>rInn L S O a op neg hop b pos
 |none=>(L.e S O a).bind λa=>(L.e S O b).bind λv=>(cpT S.k op).bind λg=>if h:nSt b=true then some ⟨s2 g.g a.g v.g,λ{X E} H W=>by obtain⟨_,h1,h2⟩:=g.h X H.hr;exact jo3 h1 h2 (a.h H W) (v.h H W) (jr0 h),g.f.bind λq=>p2 a.f v.f (DL.f2 q.1) (sm_2 q.2)⟩else none
def rAt(e:Expr)(f:Str)(pos:Pos):Option (RE S O (.Attribute e f pos)):=(L.e S O e).bind λa =>
 if h:nSu e=true then
  if h1:S.p.ats.contains f=true then
   some ⟨s1 (jj7 S.p.cl f) a.g,λH W=>jL0 (λc hc C hC=>H.p.cl f (zbc.mp h1) c hc C hC) (a.h H W) (jl3 h _),none⟩
  else if h2:S.p.fs.contains f=true/\S.p.cs.isEmpty=false then some ⟨s1 (jDs S.p.cs f) a.g,λH W=>jF8 (H.p.er λz=>by rw[z]at h2;cases h2.2).1 (zbc.mp h2.1) (a.h H W) (jl3 h _),none⟩
  else none
 else none
def rBin(a:Expr)(op:Operator)(b:Expr)(pos:Pos):Option (RE S O (.BinOp a op b pos)):=match a,op with
 |.List es p3,.Mult=>(rA L S O es).bind λa=>(L.e S O b).bind λb=>some ⟨s2 gMulS (sL (gNew .lst) a.g) b.g,λH W=>jF7 jos jEm (jq2 (a.h H W)) (b.h H W),p2 a.f b.f DL.fRep λh1 h2=>SmF.e (jo9 h1 h2)⟩
 |a,op=>(L.e S O a).bind λa=>(L.e S O b).bind λb=>(opT (S.q.contains (pos.line*1000+pos.col)) op).bind λg=>some ⟨s2 g.g a.g b.g,λ{X E} H W=>by obtain⟨_,h1,h2⟩:=g.h X;exact jF7 h1 h2 (a.h H W) (b.h H W),g.f.bind λq=>p2 a.f b.f (DL.f2 q.1) (sm_2 q.2)⟩
def rXn(x:Str)(p pos:Pos):Option (RE S O (.Call (.Name x p) [] [] pos)):=
 if h:glb S x=true/\S.p.xn.contains x=true then some ⟨sXNew x,λH W=>by obtain⟨C,h1,h2,h3⟩:=H.p.xn x (zbc.mp h.2);exact jF9 h2 h3 (ja6 H h.1).1 h1 (ja6 H h.1).2.1,none⟩else none
set_option backward.match.sparseCases true in
def rE:(e:Expr)->Option (RE S O e)
|.Name x pos=>rNm S O x pos
|.Constant (.int i) j pos=>some ⟨sC (.int i),λz z=>se_c jKs λz=>rfl,some ⟨DL.fC (.int i),sm_c λz z=>.int⟩⟩
|.Constant (.str i) j pos=>some ⟨sC (.str i),λz z=>se_c jKx λz=>rfl,some ⟨DL.fC (.str i),sm_c λz z=>.str⟩⟩
|.Constant (.bool i) j pos=>some ⟨sC (.bl i),λz z=>se_c jPq λz=>rfl,some ⟨DL.fC (.bl i),sm_c λz z=>.bl⟩⟩
|.Constant .none j pos=>some ⟨sC .non,λz z=>se_c jKu λz=>rfl,some ⟨DL.fC .non,sm_c λz z=>.non⟩⟩
|.BinOp a op b pos=>rBin L S O a op b pos
|.UnaryOp .Not a pos=>(L.e S O a).bind λa=>some ⟨s1 gNotS a.g,λH W=>jL6 (a.h H W),p1 a.f (DL.f1 DL.gNot) (sm_1 jHh)⟩
|.UnaryOp .USub a pos=>(L.e S O a).bind λa=>some ⟨s1 (lU DL.gNeg) a.g,λ{X E} H W=>jP8 jNn (jOz (DL.und_neg (X:=X))) (a.h H W),p1 a.f (DL.f1 DL.gNeg) (sm_1 (jNo (g:=DL.gNeg) λz z e=>jJ9 e))⟩
|.BoolOp op [a] pos=>(L.e S O a).bind λa=>some ⟨a.g,λH W=>jL7 (a.h H W),a.f⟩
|.BoolOp .And (a::b::rest) pos=>(L.e S O a).bind λa=>(L.e S O (.BoolOp .And (b::rest) pos)).bind λb=>some ⟨jo1 a.g b.g,λH W=>jLy (a.h H W) (b.h H W),p2 a.f b.f DL.fAnd jGi⟩
|.BoolOp .Or (a::b::rest) pos=>(L.e S O a).bind λa=>(L.e S O (.BoolOp .Or (b::rest) pos)).bind λb=>some ⟨sOrV a.g b.g,λH W=>SI.se_or (a.h H W) (b.h H W),p2 a.f b.f DL.fOr jMh⟩
|.Compare a [op] [b] pos=>rCp L S O a op b pos
|.Compare a [op,op'] [b,c] pos=>(L.e S O a).bind λa=>(L.e S O b).bind λb=>(L.e S O c).bind λv=>(cpT S.k op).bind λg=>(cpT S.k op').bind λg'=>if h:nSt c=true then some ⟨sCh g.g g'.g a.g b.g v.g,λ{X E} H W=>by obtain⟨_,h1,h2⟩:=g.h X H.hr;obtain⟨_,h3,h4⟩:=g'.h X H.hr;exact jzs h1 h2 h3 h4 (a.h H W) (b.h H W) (v.h H W) (jr0 h),g.f.bind λq=>g'.f.bind λq'=>a.f.bind λa=>p2 b.f v.f (DL.fChain q.1 q'.1 a.1) (jzz q.2 q'.2 a.2)⟩else none
|.IfExp c a b pos=>(L.t S O c).bind λc=>(L.e S O a).bind λa=>(L.e S O b).bind λb=>some ⟨sIf c.g a.g b.g,λH W=>jL1 (c.h H W) (a.h H W) (b.h H W),c.f.bind λc=>p2 a.f b.f (DL.fIf c.1) (jMe c.2)⟩
|.Tuple es k pos=>(rA L S O es).bind λa=>some ⟨sL (gNew .tup) a.g,λH W=>jL8 (a.h H W),p1 a.f (DL.fL DL.gTupD) (sm_l jnt)⟩
|.List es pos=>(rA L S O es).bind λa=>some ⟨sL (gNew .lst) a.g,λH W=>jq2 (a.h H W),p1 a.f (DL.fL DL.gLstD) λh=>SmF.e (jlt h)⟩
|.Dict [] [] pos=>some ⟨jzp (S.q.contains (pos.line*1000+pos.col)),λz z=>jF1,none⟩
|.Subscript a b pos=>rIx L S O a b pos
|.Attribute e f pos=>rAt L S O e f pos
|.Call (.Name x p) [] [] pos=>rXn S O x p pos
|.Call (.Name x p) [.Call (.Name y p2) [e] [] p3] [] p4=>if h:x="len"/\y="set" then(rLs L S O p p2 e p3 p4).bind λr=>some (by rw[h.1,h.2];exact r)else rCal L S O x p _ _ p4
|.Call (.Name x p) [e,.Name d p2] [] pos=>if h:x="isinstance"/\S.p.cs.contains d=true then(rIs L S O p e d p2 pos).bind λr=>some (by rw[h.1];exact r)else rCal L S O x p e [.Name d p2] pos
|.Call (.Name x p) (e::es) [] pos=>rCal L S O x p e es pos
|.Call (.Attribute o n ap) [] [] pos=>rM0 L S O o n ap pos
|.Call (.Attribute (.Name x p) n ap) [e] [] pos=>match rKx L S O x p n ap e pos with
  |some r=>some r
  |none=>rTx L S O (.Name x p) n ap e pos
|.Call (.Attribute o n ap) [e] [] pos=>rTx L S O o n ap e pos
|.Call (.Attribute o n ap) [e,f] [] pos=>if h:n="get" then(rGet L S O o ap e f pos).bind λr=>some (by rw[h];exact r)else rMt L S O o n ap e [f] pos
|.Call (.Attribute o n ap) (e::es) [] pos=>rMt L S O o n ap e es pos
|.ListComp elt [⟨tg,iter,ifs,a⟩] scope pos=>(rCm L S O elt tg iter ifs a scope pos).bind λr=>some ⟨r.g,r.h,p1 r.f id λh=>SmF.e h⟩
|_=>none
def rW:(e:Expr)->Option (RW S O e)
|.BoolOp .And [a] pos=>(L.t S O a).bind λa=>some ⟨a.g,λH W=>st_one.1 (a.h H W),a.f⟩
|.BoolOp .Or [a] pos=>(L.t S O a).bind λa=>some ⟨a.g,λH W=>st_one.2 (a.h H W),a.f⟩
|.BoolOp .And (a::b::rest) pos=>(L.t S O a).bind λa=>(L.w S O (.BoolOp .And (b::rest) pos)).bind λb=>some ⟨sAnd a.g b.g,λH W=>jM2 (a.h H W) (b.h H W),p2 a.f b.f DL.tAnd jMd⟩
|.BoolOp .Or (a::b::rest) pos=>(L.t S O a).bind λa=>(L.w S O (.BoolOp .Or (b::rest) pos)).bind λb=>some ⟨sOr a.g b.g,λH W=>jQh (a.h H W) (b.h H W),p2 a.f b.f DL.tOr jQd⟩
|_=>none
end
section
variable {X:Cx}
def jMn(h:SS X Er st f)(h':SS X Er st g)(hk:∀{Y A q},k Y A=some q->f Y A=some q\/g Y A=some q):SS X Er st k:=by
 rintro U s Z H Q I ⟨J,Y,A,hR,l,q,hf,kk⟩;rcases hk hf with hf|hf
 .exact h _ s Z H Q I ⟨J,Y,A,hR,l,q,hf,kk⟩
 .exact h' _ s Z H Q I ⟨J,Y,A,hR,l,q,hf,kk⟩
def jkb(fo fi fv:DSt->MS D):DSt->MS Out:=λY=>alt (oPut fo fi fv Y) (jEr fo fi fv Y)
def oAsg(g:Tg)(fa:DSt->MS D):DSt->MS Out:=λY=>(fa Y).b λd A=>(g d Y A).map λY'=>(.ok (.nx Y'),A)
def jMo(he:SE X Er e fa)(hg:SG X tg g)(hs:swapsWithSole [tg] e pos.line X.env=pure false)(hw:swappedStores [tg] e X.env=pure none)
  (h1:(assignEach [tg] X.env).map (·.2)=[assign tg X.env]):SS X Er (.Assign [tg] e pos) (oAsg g fa):=by
 refine sgO (jBq he hg hs hw h1) λh l q hf k=>bO h l hf k λd A1 hf v ρ1 H1 h l r k z=>?_
 obtain⟨Y',e1,rfl⟩:=aB.mp hf;exact⟨ρ1,_,A1,h,l,d,r,Y',e1,λZ' lo=>k _ ρ1 H1 (pr _) h lo⟩
noncomputable def nTu:Expr->Bool
|.Tuple _ _ _=>false
|.List _ _=>false
|_=>true
def jQz{kk:Nat}(h:nTu e=true):swappedStores [.Tuple ts kk tp] e env=pure none:=by cases e<;>first|rfl|cases h
def jGy{fi:DSt->MS Itr}(hc:X.calm=true)(ck:CapsOk X scope caps)(hi:SW X Er tg iter fi)
  (hg:∀C s0 H0 ex,SG (As X scope own caps C s0 H0 ex) tg g) (ht:∀C s0 H0 ex,SC (As X scope own caps C s0 H0 ex) Er' ifs tc)
  (he:∀C s0 H0 ex,SE (As X scope own caps C s0 H0 ex) Er' elt fe) (hN:X.N.Nodup) (hix:X.N[i]?=some x) (hx:Loc X.env.scope x) (hsw:swapsWith (.ListComp elt [⟨tg,iter,ifs,0⟩] scope cpos) (some (.Name x pos')) pos.line X.env=pure true)
  (hf:An X x) (hs:Ao X iter):SS X Er (.Assign [.Name x pos'] (.ListComp elt [⟨tg,iter,ifs,0⟩] scope cpos) pos) (oSet i (sCmp own.length caps fi g tc fe)):=by
 rintro U s Z H Dn I ⟨J,Y,A,h,l,q,hq,k⟩;refine jFh (g:=tT _ g) (tc:=tS _ _ Er' tc) (te:=tS RV _ Er' fe) hc ck hi hg ht he hN hix hx hsw hf hs _ s Z H Dn I ?_;have go:∀{q':Except D D×Sto},sCmp own.length _ fi g tc fe Y A=some q'->kS RV _ Er J _ q'->jwr _ caps _ _ _ (tS RV _ Er' fe) Z H λv H'=>Dn.nx (Z.set i (some v)) H':=λe kk=>by obtain⟨n,e⟩:=jEa e;exact jA4 ⟨J,Y,A,h,l,_,e,kk⟩
 rcases MS.b_inv hq with ⟨d,A1,e1,hq⟩|⟨y,A1,e1,rfl⟩
 .cases hq;exact go e1 λv ρ1 H1 l1 h1 r1=>k _ ρ1 H1 l1 h1 ((l.mono l1).set r1)
 .exact go e1 k
end
structure RS1(S:Sx)(O B:Aa)(st:Stmt) where
 g:DSt->MS Out
 h:∀{X E},SsOk S X->Wx X E->SS X (jbo E) st g
 f:Option (Σ O':Aa,{f:PSt->PM DL.Out // SmS S.N.length O O' B g f})
noncomputable def swB(S:Sx)(x:Str)(scope:Scope)(cpos pos':Pos):Bool:=S.sc.names.lookup x==some .local&&pos'.line==cpos.line&&!(scope.names.any λ(n,k)=>n==x&&(k == .local || k == .cell))
def jB2(H:SsOk S X)(h:swB S x scope cpos pos'=b):swapsWith (.ListComp elt gs scope cpos) (some (.Name x pos')) l X.env=pure b:=by have e:swapsWith (.ListComp elt gs scope cpos) (some (.Name x pos')) l X.env=pure _:=rfl;rw[e,H.bk,<- h,show X.env.kindOf x=X.env.scope.names.lookup x from rfl,H.ok.sc];rfl
def jHv(e:DL.gAdd x y=some v):(un v).isSome:=by unfold DL.gAdd at e;split at e<;>(try split at e)<;>cases e<;>rfl
section
variable (L:Lv)(S:Sx)(O:Aa)
set_option backward.match.sparseCases true in
def rT:(e:Expr)->Option (RT S O e)
|.BoolOp op es pos=>(L.w S O (.BoolOp op es pos)).bind λa=>some ⟨a.g,λH W=>st_w (a.h H W),a.f⟩
|.UnaryOp .Not a pos=>(L.t S O a).bind λa=>some ⟨sNot a.g,λH W=>jMv (a.h H W),p1 a.f DL.tNot jMg⟩
|.Compare a [op] [b] pos=>(L.e S O a).bind λa=>(L.e S O b).bind λv=>if h:nSt b=true then(cpT S.k op).bind λg=>some ⟨sT2 g.g a.g v.g,λ{X E} H W=>by obtain⟨_,h1,h2⟩:=g.h X H.hr;exact jG3 h1 h2 (a.h H W) (v.h H W) (jr0 h),g.f.bind λq=>p2 a.f v.f (DL.t2 q.1) (jGt q.2)⟩
  else none
|e=>(L.e S O e).bind λa=>if h:nTe e=true then some ⟨sTru a.g,λH W=>jMw (a.h H W) (jQq h),p1 a.f DL.tTru jGu⟩else none
def rTh(c:Expr):Option (RT S O c):=(L.t S [] c).bind λa=>some ⟨a.g,a.h,p1 a.f id λh=>jz0 (λy z=>absurd z aK) h⟩
end
section
variable (L:Lv)(S:Sx)(O B:Aa)
def ownP{n i:Nat}{O B:Aa}{g:DSt->MS D}(w:Aa)(hi:i<n)(f:Option {f:PSt->PM PD // SmF n O g f}):Option (Σ O':Aa,{f:PSt->PM DL.Out // SmS n O O' B (oSet i g) f}):=
 f.bind λf=>if o:O.contains i=false then if w.contains i then some ⟨i::O,DL.gSet i f.1,jGr hi o f.2⟩else some ⟨O,DL.gSet i f.1,jwc o (SmF.e f.2)⟩else none
set_option backward.match.sparseCases true in
def rSet(x:Str)(pos':Pos)(e:Expr)(pos:Pos):Option (RS1 S O B (.Assign [.Name x pos'] e pos)):=
 if h:loc S (S.N.idxOf x) x=true then match e with
  |.List es p3=>(rA L S O es).bind λa=>some ⟨oSet (S.N.idxOf x) (sL (gNew .lst) a.g),λH W=>have z:=jfs H.ok h;jq8 (by rw[H.ok.N];exact H.nd) (jq2 (a.h H.ok W)) z.1 z.2.1 (jj2 rfl) z.2.2,ownP S.w (jui h) (p1 a.f (DL.fL DL.gLstD) λk=>jlt k)⟩
  |.BinOp (.List es p3) .Mult b p4=>(rA L S O es).bind λa=>(L.e S O b).bind λb=>some ⟨oSet (S.N.idxOf x) (s2 gMulS (sL (gNew .lst) a.g) b.g),λH W=>have z:=jfs H.ok h;jq8 (by rw[H.ok.N];exact H.nd) (jF7 jos jEm (jq2 (a.h H.ok W)) (b.h H.ok W)) z.1 z.2.1 (jj2 rfl) z.2.2,ownP S.w (jui h) (p2 a.f b.f DL.fRep λk1 k2=>jo9 k1 k2)⟩
  |.ListComp elt [⟨tg,iter,ifs,a⟩] scope cpos=>
   (rI L S O tg iter).bind λi=>(rG (cpX S scope tg) [] tg).bind λg=>(rC L (cpX S scope tg) [] ifs).bind λc=>(L.e (cpX S scope tg) [] elt).bind λf =>
   if q:cpOk S scope tg iter a=true then some ⟨oSet (S.N.idxOf x) (sCmp (tnm tg).length (cps S scope) i.g g.g c.g f.g),λH W=>by
     have z:=jfs H.ok h;obtain⟨rfl,h1,h2,h3,h5⟩:=jtb q
     by_cases u:swB S x scope cpos pos'=true
     .exact jGy (Er':=jbo E0) (own:=tnm tg) H.ok.cm (jnu H.ok.N H.ok.sc h2 h3) (i.h H.ok W) (λy y y y=>g.h (jk3 H.ok) h1) (λy y y y=>c.h (jk3 H.ok) wx0) (λy y y y=>f.h (jk3 H.ok) wx0) (by rw[H.ok.N];exact H.nd) z.1 z.2.1 (jB2 H u) z.2.2 (jx7 h5)
     .exact jq8 (by rw[H.ok.N];exact H.nd) (jBt (Er':=jbo E0) (own:=tnm tg) H.ok.cm (jnu H.ok.N H.ok.sc h2 h3) (i.h H.ok W) (λy y y y=>g.h (jk3 H.ok) h1) (λy y y y=>c.h (jk3 H.ok) wx0) (λy y y y=>f.h (jk3 H.ok) wx0) (jx7 h5)) z.1 z.2.1 (jB2 H (f8 _ ▸ u)) z.2.2,
    ownP S.w (jui h) (if hc:DL.capsFree O (cps S scope)=true then i.f.bind λi'=>g.f.bind λg'=>c.f.bind λc'=>f.f.map λf'=>⟨DL.fComp (tnm tg).length (cps S scope) i'.1 g'.1 c'.1 f'.1,jg8 i'.2 hc (jkd ▸ g'.2) (jkd ▸ c'.2) (jkd ▸ f'.2)⟩else none)⟩
   else none
  |e=>(L.e S O e).bind λa=>if q:nCo e=true then some ⟨oSet (S.N.idxOf x) a.g,λH W=>have z:=jfs H.ok h;jq8 (by rw[H.ok.N];exact H.nd) (a.h H.ok W) z.1 z.2.1 (jj2 q) z.2.2,a.f.bind λf=>if o:O.contains (S.N.idxOf x)=false then some ⟨O,DL.gSet (S.N.idxOf x) f.1,jwc o f.2⟩else none⟩else none
 else none
def rEx(e:Expr)(pos:Pos):Option (RS1 S O B (.Expr e pos)):=(L.e S O e).bind λr=>if q:nCo e=true then some ⟨jct r.g,λH W=>jpd (r.h H.ok W) (jj2 q),r.f.map λf=>⟨O,DL.gDrop f.1,jz2 f.2⟩⟩else none
def rAp(x:Str)(p3:Pos)(n:Str)(p4:Pos)(e:Expr)(p5 pos:Pos):Option (RS1 S O B (.Expr (.Call (.Attribute (.Name x p3) n p4) [e] [] p5) pos)):=
 if h:(var S (S.N.idxOf x) x=true/\nSt e=true)/\(p4.endLine==p5.line)=true then
  (L.e S O e).bind λa =>
  if q:n="append" then some ⟨jct (sMt mApp (sVar (S.N.idxOf x)) (jar a.g sNil)),λH W=>by have z:=jrh H.ok h.1.1;subst q;exact jpd (jF6 gz gw jjm jur (jq4 z.1 z.2.1 z.2.2.1 z.2.2.2) (jo2 (a.h H.ok W) jvy (jbp h.1.2)) rfl (jx8 (by simp[h.1.2])) h.2 (jbp h.1.2) rfl) (jj2 rfl),if o:O.contains (S.N.idxOf x)=true then a.f.map λf=>⟨O,DL.gApp (S.N.idxOf x) f.1,jGn o f.2⟩else none⟩
  else if q:n="extend" then some ⟨jct (sMt mExt (sVar (S.N.idxOf x)) (jar a.g sNil)),λH W=>by have z:=jrh H.ok h.1.1;subst q;exact jpd (jF6 gy PySem.F.type_list_extend jJ4 jEk (jq4 z.1 z.2.1 z.2.2.1 z.2.2.2) (jo2 (a.h H.ok W) jvy (jbp h.1.2)) rfl (jx8 (by simp[h.1.2])) h.2 (jbp h.1.2) rfl) (jj2 rfl),if o:O.contains (S.N.idxOf x)=true then a.f.map λf=>⟨O,DL.gExt (S.N.idxOf x) f.1,jGp o f.2⟩else none⟩
  else rEx L S O B (.Call (.Attribute (.Name x p3) n p4) [e] [] p5) pos
 else none
end
noncomputable def gNoE(f:PSt->PM DL.Out):PSt->PM DL.Out:=λp=>match f p with
 |some (.ok o)=>some (.ok o)
 |_=>none
set_option tactic.hygienic true in
def jz3(h:SmS n O O' B g f):SmS n O O' B (juy g) (gNoE f):=by
 intro F Y p A r s e;unfold gNoE at e
 split at e
 .rename_i o e1;cases e;obtain⟨q,A',f1,f2⟩:=h s e1;refine⟨q,A',?_,f2⟩;unfold juy noE;rw[f1];cases f2<;>rfl
 .cases e
noncomputable def oNever:DSt->MS Out:=λz z=>none
def jAa:SS X Er st oNever:=by rintro U s Z H Dn I ⟨J,Y,A,h,l,q,hf,k⟩;cases hf
section
variable (L:Lv)(S:Sx)(O B:Aa)
def rPut(o ix:Expr)(p3:Pos)(e:Expr)(pos:Pos):Option (RS1 S O B (.Assign [.Subscript o ix p3] e pos)):=
 (L.e S O o).bind λa=>(L.e S O ix).bind λb=>(L.e S O e).bind λv =>
 if h:nSt ix=true/\nCo e=true then some ⟨jkb a.g b.g v.g,λH W=>jMn (jMu (a.h H.ok W) (b.h H.ok W) (v.h H.ok W) (jN7 h.1) (jMt h.2) jQy rfl) (jGw (hu1 H.ok.hr) (a.h H.ok W) (b.h H.ok W) (v.h H.ok W) (jj2 h.2)) jsq,none⟩else none
def rFld(o:Expr)(f:Str)(p3:Pos)(e:Expr)(pos:Pos):Option (RS1 S O B (.Assign [.Attribute o f p3] e pos)):=
 (L.e S O o).bind λa=>(L.e S O e).bind λv=>if h:nCo e=true then
  if h1:S.p.ats.contains f=true then
   some ⟨oFld S.p.cl f a.g v.g,λH W=>jMq (λc hc C hC=>H.ok.p.cl f (zbc.mp h1) c hc C hC) (a.h H.ok W) (v.h H.ok W) (jj2 h),none⟩
  else if h2:S.p.fs.contains f=true/\S.p.cs.isEmpty=false then some ⟨jys S.p.cs f a.g v.g,λH W=>have er:=H.ok.p.er λz=>by rw[z]at h2;cases h2.2
    jG1 er.1 (er.2.2.2 f (zbc.mp h2.1)) (a.h H.ok W) (v.h H.ok W) (jj2 h),none⟩
  else none
 else none
def rTry(z:Str)(px:Pos)(x:Str)(p:Pos)(e:Expr)(es:Ad)(pos spos:Pos)(bn:Str)(np:Pos)(n' y:Str)(py pn ypos hpos tpos:Pos):Option (RS1 S O B (.Try [.Assign [.Name z px] (.Call (.Name x p) (e::es) [] pos) spos] [.ExceptHandler (some (.Name bn np)) (some n') [.Assign [.Name y py] (.Name n' pn) ypos] hpos] [] [] tpos)):=
 (rA L S O (e::es)).bind λl=>match hf:S.p.t.find? (λi=>i.x==x)with
  |some i=>if h:(((loc S (S.N.idxOf z) z=true/\S.sc.names.lookup z=some .local)/\(loc S (S.N.idxOf n') n'=true/\S.sc.names.lookup n'=some .local)/\loc S (S.N.idxOf y) y=true/\S.sc.names.lookup y=some .local)/\(glb S x=true/\nSt e=true/\es.all nSt=true)/\glb S bn=true/\S.p.bn=bn/\S.p.cs.isEmpty=false/\i.k<=S.k)/\S.N.idxOf n'≠S.N.idxOf y/\(n' == ("__debug__":Str))=false/\(n' == ("__classdict__":Str))=false then
    some ⟨jor i.m S.p.cs (S.N.idxOf z) (S.N.idxOf n') (S.N.idxOf y) l.g,λ{X E} H W=>by
     obtain⟨⟨⟨⟨a1,a2⟩,⟨b1,b2⟩,c1,c2⟩,⟨d1,d2,d3⟩,g1,g2,g3,g4⟩,k1,k2,k3⟩:=h;have C:=H.ok.p.t i (cO hf);have q:i.x=x:=eq_of_beq (eQ (p:=λi:Fi=>i.x==x) hf);rw[q]at C;have er:=H.ok.p.er λz=>by simp_all
     have em:=er.2.2.1;rw[g2]at em;have sc:=H.ok.sc;exact jGz C.1 C.2 em (H.ok.hr.mono g4) (λW'=>l.h H.ok.wi wx0) H.st H.fr (by rw[H.ok.N];exact H.nd) k1 (jfs H.ok a1).1 (by grind) (jfs H.ok b1).1 (by grind) (jfs H.ok c1).1 (by grind) (ja6 H.ok d1).1 (ja6 H.ok g1).1 (ja6 H.ok d1).2.1 (ja6 H.ok g1).2.1 k2 k3 (jj2 rfl) (jj2 rfl) (jbp d2) (jiq d3),none⟩
   else none
  |none=>none
set_option backward.match.sparseCases true in
def rSt:(st:Stmt)->Option (RS1 S O B st)
|.Assign [.Name x pos'] e pos=>rSet L S O B x pos' e pos
|.Assign [.Tuple ts kk tp] e pos=>(rG S O (.Tuple ts kk tp)).bind λg=>(L.e S O e).bind λa=>if h:nTu e=true/\nCo e=true then some ⟨oAsg g.g a.g,λH W=>jMo (a.h H.ok W) (g.h H.ok H.nd) (jMt h.2) (jQz h.1) rfl,none⟩else none
|.Assign [.Subscript o ix p3] e pos=>rPut L S O B o ix p3 e pos
|.Assign [.Attribute o f p3] e pos=>rFld L S O B o f p3 e pos
|.Expr (.Call (.Attribute (.Name x p3) n p4) [e] [] p5) pos=>match rAp L S O B x p3 n p4 e p5 pos with
  |some r=>some r
  |none=>rEx L S O B (.Call (.Attribute (.Name x p3) n p4) [e] [] p5) pos
|.Expr e pos=>rEx L S O B e pos
|.AugAssign (.Name x pos') .Add e pos=>(L.e S O e).bind λa=>if h:loc S (S.N.idxOf x) x=true then some ⟨oAug (S.N.idxOf x) (lO DL.gAdd) a.g,λ{X E} H W=>have z:=jfs H.ok h;jMp (by rw[H.ok.N];exact H.nd) (iop_add.or joc) (jfj (DL.opd_add (X:=X))) (a.h H.ok W) z.1 z.2.1 z.2.2,a.f.bind λf=>if o:O.contains (S.N.idxOf x)=false then some ⟨O,DL.gAug (S.N.idxOf x) DL.gAdd f.1,jGo o (jd9 (g:=DL.gAdd) λw w w e=>jHv e) f.2⟩else none⟩else none
|.If c s1 s2 pos=>(rTh L S O c).bind λc=>(L.s S O O B s1).bind λa=>(L.s S O O B s2).bind λb=>some ⟨oIf c.g a.g b.g,λH W=>jMs (c.h H.ok W) (a.h H W) (b.h H W),c.f.bind λc=>a.f.bind λa=>b.f.map λb=>⟨O,DL.gIf c.1 a.1 b.1,jBy c.2 a.2 b.2⟩⟩
|.For tg iter body [] pos=>(rI L S O tg iter).bind λi=>(rG S O tg).bind λg=>(L.s S O O O body).bind λb=>if q:nSt iter=true then some ⟨jka i.g g.g b.g,λH W=>jGx H.ps H.ok.cm (i.h H.ok W) (g.h H.ok H.nd) (b.h H W) (jx7 q),i.f.bind λi=>g.f.bind λg=>b.f.map λb=>⟨O,DL.gFor i.1 g.1 b.1,jGq i.2 g.2 b.2⟩⟩else none
|.While c body [] pos=>(rTh L S O c).bind λc=>(L.s S O O O body).bind λb=>some ⟨juz c.g b.g,λH W=>jwg H.ps (c.h H.ok W) (b.h H W),c.f.bind λc=>b.f.map λb=>⟨O,DL.whileD c.1 b.1 DL.FUEL,jwd c.2 b.2⟩⟩
|.Raise (some e) none pos=>match L.e S O e with
  |some a=>if h:S.p.cs.isEmpty=false then some ⟨jna S.p.cs a.g,λH W=>jAb (H.ok.p.er λz=>by simp_all).1 H.ok.cm W (a.h H.ok W),some ⟨O,DL.gNever,jjy⟩⟩else none
  |none=>some ⟨oNever,λw w=>jAa,some ⟨O,DL.gNever,jjy⟩⟩
|.Try [.Return (some e) rpos] (h0::hs) [] [] tpos=>(L.e S [] e).bind λa=>some ⟨juy (oRet a.g),λH W=>jG0 λW'=>jj0 (jwf (a.h H.ok.wi wx0)),a.f.map λf=>⟨O,gNoE (DL.gRet f.1),jz3 (jpa f.2)⟩⟩
|.Try [.Assign [.Name z px] (.Call (.Name x p) (e::es) [] pos) spos] [.ExceptHandler (some (.Name bn np)) (some n') [.Assign [.Name y py] (.Name n2 pn) ypos] hpos] [] [] tpos=>if h:n2=n' then(rTry L S O B z px x p e es pos spos bn np n' y py pn ypos hpos tpos).bind λr=>some (by rw[h];exact r)else none
|.Return (some e) pos=>(L.e S [] e).bind λa=>some ⟨oRet a.g,λH W=>jwf (a.h H.ok W),a.f.map λf=>⟨O,DL.gRet f.1,jpa f.2⟩⟩
|_=>none
end
structure RP1(S:Sx)(O B:Aa)(st:Stmt) where
 O1:Aa
 le:∀i∈O1,i∈O
 r:RS1 S O1 B st
def pick(L:Lv)(S:Sx)(O B:Aa)(st:Stmt):Option (RP1 S O B st):=match rSt L S O B st with
 |some r=>if r.f.isSome || O.isEmpty then some ⟨O,λy z=>z,r⟩else match rSt L S O.tail B st with
  |some r'=>if r'.f.isSome then some ⟨O.tail,λy z=>List.mem_of_mem_tail z,r'⟩else(rSt L S [] B st).bind λr=>some ⟨[],λy z=>absurd z aK,r⟩
  |none=>none
 |none=>none
set_option backward.match.sparseCases true in
noncomputable def rSs(L:Lv)(S:Sx)(O' B:Aa):(sts:List Stmt)->(O:Aa)->Option (RSs S O O' B sts)
|[],O=>some ⟨oNx,λz z=>jG2,if h:O'.all (O.contains ·)=true then some ⟨DL.gNx,jq6 (λi hi=>zbc.mp (aQ.mp h i hi)) jMm⟩else none⟩
|[.Return (some e) pos],O=>(L.e S [] e).bind λa=>some ⟨oRet a.g,λH W=>jj0 (jwf (a.h H.ok W)),p1 a.f DL.gRet jpa⟩
|[.If c s1 s2 pos],O=>(rTh L S O c).bind λc=>(L.s S O O' B s1).bind λa=>(L.s S O O' B s2).bind λb=>some ⟨oIf c.g a.g b.g,λH W=>jj0 (jMs (c.h H.ok W) (a.h H W) (b.h H W)),c.f.bind λc=>p2 a.f b.f (DL.gIf c.1) (jBy c.2)⟩
|[.Raise (some e) none pos],O=>(rSt L S O B (.Raise (some e) none pos)).bind λr=>some ⟨r.g,λH W=>jj0 (r.h H W),some ⟨DL.gNever,jjy⟩⟩
|[st],O=>(pick L S O B st).bind λr=>some ⟨r.r.g,λH W=>jj0 (r.r.h H W),r.r.f.bind λf=>if h:O'.all (f.1.contains ·)=true then some ⟨f.2.1,jq7 r.le (jq6 (λi hi=>zbc.mp (aQ.mp h i hi)) f.2.2)⟩else none⟩
|st::rest,O=>(pick L S O B st).bind λr=>match r.r.f with
  |some f=>(rSs L S O' B rest f.1).bind λq=>some ⟨oSeq r.r.g q.g,λH W=>jq9 (r.r.h H W) (q.h H W),p1 q.f (DL.gSeq f.2.1) λk=>jq7 r.le (jGs f.2.2 k)⟩
  |none=>(rSs L S O' B rest O).bind λq=>some ⟨oSeq r.r.g q.g,λH W=>jq9 (r.r.h H W) (q.h H W),none⟩
noncomputable def lv0:Lv:=⟨λz z z=>none,λz z z=>none,λz z z=>none,λz z z z z=>none⟩
def lv:Nat->Lv
|0=>lv0
|n+1=>⟨rE (lv n),rT (lv n),rW (lv n),λS O O' B st=>rSs (lv n) S O' B st O⟩
noncomputable def fnOk(N ps:Ab)(sc:Scope):Bool:=decide (sc.kind=.function)&&!sc.isCoroutine&&!sc.isGenerator&&decide N.Nodup&&decide (N.take ps.length=ps)&&ps.all (λx=>decide (sc.names.lookup x=some .local\/sc.names.lookup x=some .cell))&&sc.names.all λy=>decide (y.2≠.free)
def jtw(h:fnOk N ps sc=true):FnScope N ps sc:=by unfold fnOk at h;simp only[aC,aV,aQ,eG]at h;exact⟨h.1.1.1.1.1.1,h.1.1.1.1.1.2,h.1.1.1.1.2,h.1.1.1.2,h.1.1.2,h.1.2,h.2⟩
structure Df where
 st:Stmt
 k:Nat
 w:Aa
 q:Aa
def Df.N(d:Df):Ab:=(jat d.st).names.filterMap λy=>if y.2=.local\/y.2=.cell then some y.1 else none
def psOf(s:Stmt):Ab:=(jbu s).args.map (·.arg)
def Df.n(d:Df):Nat:=(psOf d.st).length
def Df.S(d:Df)(p:Pg):Sx:=⟨d.N,jat d.st,d.k,p,d.w,d.q,true⟩
def Df.rd(d:Df)(p:Pg):Option (RSs (d.S p) [] [] [] (jdj d.st)):=(lv 40).s (d.S p) [] [] [] (jdj d.st)
def Df.m(d:Df)(p:Pg):List D->MS D:=match d.rd p with
 |some r=>mirS d.n d.N.length r.g
 |none=>λz z=>none
def Df.f(d:Df)(p:Pg):Option (PSt->PM DL.Out):=(d.rd p).bind λr=>r.f.map (·.1)
def Df.g(d:Df)(p:Pg):Option (DSt->MS Out):=(d.rd p).map (·.g)
def Df.ar{d:Df}:Ar d.n (d.m p):=λ{ds A q} h=>by
 unfold Df.m at h
 cases e:d.rd p with
 |none=>simp_all
 |some r=>rw[e]at h;exact jN6 h
def Df.sim{d:Df}{f:PSt->PM DL.Out}{n N:Nat}(h:(d.f p,d.n,d.N.length,fnOk d.N (psOf d.st) (jat d.st))=(some f,n,N,true)):SimM (d.m p) (DL.mir n N f):=by
 simp only[Prod.mk.injEq]at h;obtain⟨h,rfl,rfl,k⟩:=h;have hn:d.n<=d.N.length:=by have:=congrArg List.length (jtw k).pre;rw[List.length_take]at this;unfold Df.n;lia
 obtain⟨r,e1,e2⟩:=aG.mp h;obtain⟨q,e3,rfl⟩:=aB.mp e2;unfold Df.m;rw[e1];exactλ{W vs r A ds}=>jGf hn q.2
def Df.m_of{d:Df}{g:DSt->MS Out}{n N:Nat}(h:(d.g p,d.n,d.N.length)=(some g,n,N)):d.m p=mirS n N g:=by
 cases h0:d.rd p with
 |none=>unfold Df.g at h;simp_all
 |some r=>unfold Df.g at h;unfold Df.m;simp_all
def jOb{sc:Scope}(h:sc.kind=.function):(if sc.kind.isAnnotationScope then ScopeKind.function else sc.kind)=.function:=by rw[h];rfl
section
variable {w:World}{d:Df}{q:Str}
def Df.bd(F:FnScope d.N ps (jat d.st))(Zq:PgOk P w K mg base p)(h:(d.rd p).isSome=true):∃g,d.m p=mirS d.n d.N.length g/\Bd P w K mg base d.N q d.st d.k g:=by obtain⟨r,e⟩:=bF.mp h;refine⟨r.g,by unfold Df.m;rw[e],λf cdv A outer s H E hr=>r.h ⟨⟨rfl,rfl,rfl,hr,Zq,λz z=>rfl⟩,F.nd,PassesOwn.leaving,jOb F.kind,rfl,rfl⟩ DL.wx_of⟩
def Df.ok(d:Df)(p:Pg):Bool:=fnOk d.N (psOf d.st) (jat d.st)&&(d.rd p).isSome
def Df.ok_of(h:d.ok p=true):FnScope d.N (psOf d.st) (jat d.st)/\(d.rd p).isSome=true:=by unfold Df.ok at h;rw[aC]at h;exact⟨jtw h.1,h.2⟩
end
mutual
def okV:PD->Bool
|.obj _=>false
|.tup xs=>okVs xs
|.lst xs=>okVs xs
|_=>true
def okVs:List PD->Bool
|[]=>true
|x::xs=>okV x&&okVs xs
end
mutual
theorem jP2:∀(v:PD)(A:Sto),okV v=true->∃A' d,A<+:A'/\Rp [] A' d v
|.non,A,_=>⟨A,_,aF _,.non⟩
|.bl _,A,_=>⟨A,_,aF _,.bl⟩
|.int _,A,_=>⟨A,_,aF _,.int⟩
|.str _,A,_=>⟨A,_,aF _,.str⟩
|.ty _,A,_=>⟨A,_,aF _,.ty⟩
|.obj _,_,h=>by cases h
|.tup xs,A,h=>by unfold okV at h;obtain⟨A',ds,l,r⟩:=rps_mk xs A h;exact⟨_,_,l.trans (aA ..),jb5 (λy z=>absurd z aK) r⟩
|.lst xs,A,h=>by unfold okV at h;obtain⟨A',ds,l,r⟩:=rps_mk xs A h;exact⟨_,_,l.trans (aA ..),jgo (λy z=>absurd z aK) r⟩
theorem rps_mk:∀(v:List PD)(A:Sto),okVs v=true->∃A' d,A<+:A'/\Rps [] A' d v
|[],A,_=>⟨A,[],aF _,.nil⟩
|x::xs,A,h=>by unfold okVs at h;rw[aC]at h;obtain⟨A1,d,l1,r1⟩:=jP2 x A h.1;obtain⟨A2,ds,l2,r2⟩:=rps_mk xs A1 h.2;exact⟨A2,d::ds,l1.trans l2,.cons (r1.grow l2) r2⟩
end
def PuOk(m:List D->MS D)(vs:List PD)(v:PD):Prop:=∀{W A ds},(∀j∈W,j<A.length)->Rps W A ds vs->tQ ReE W (m ds) A (.ok v)
open Classical in
def pu(m:List D->MS D):List PD->PM PD:=λvs=>if h:okVs vs=true/\∃v,PuOk m vs v then some (.ok h.2.choose)else none
def sim_pu:SimM m (pu m):=λ{W vs r A ds} hW e rs=>by
 unfold pu at e
 split at e
 .rename_i h;cases e;exact h.2.choose_spec hW rs
 .cases e
def jLb(h0:okVs vs=true)(h:PuOk m vs v):pu m vs=some (.ok v):=by
 have hx:okVs vs=true/\∃v,PuOk m vs v:=⟨h0,v,h⟩
 unfold pu;rw[dif_pos hx];obtain⟨A,ds,_,r⟩:=rps_mk vs [] h0;obtain⟨q1,A1,e1,_,z1⟩:=hx.2.choose_spec (λy z=>absurd z aK) r;obtain⟨q2,A2,e2,_,z2⟩:=h (λy z=>absurd z aK) r;rw[e1]at e2;cases e2
 cases z1 with|ok z1 =>
 cases z2<;>grind[Rp.det]
def jOq(T:ErrT K mg cs fs b)(N:ErrN K mg cs)(M:ErrM K mg cs b):ErrT K mg cs fs b/\ErrN K mg cs/\ErrM K mg cs b/\∀f∈fs,∀c∈cs,∀C,mg c=some (.ref C)->W.takerIn K C f=some none:=
 ⟨T,N,M,λf hf c hc C hC=>DL.taker_of (T.fld c hc C hC f hf)⟩
def l0{α:Type}{p:α->Prop}:∀x∈([]:List α),p x:=λz h=>absurd h aK
def l1{α:Type}{p:α->Prop}{a:α}{l:List α}(h:p a)(r:∀x∈l,p x):∀x∈a::l,p x:=λx hx=>by grind
abbrev sI(i:Int):DSt->MS D:=sC (.int i)
abbrev sS(x:Str):DSt->MS D:=sC (.str x)
abbrev sA1(a:DSt->MS D):=jar a sNil
abbrev sA2(a b:DSt->MS D):=jar a (sA1 b)
abbrev sA3(a b c:DSt->MS D):=jar a (sA2 b c)
abbrev sA4(a b c d:DSt->MS D):=jar a (sA3 b c d)
theorem pints:∀{ns:Ae},Paired (RV J) (ns.map D.int) (ns.map V.int)
|[]=>.nil
|_::_=>.cons rfl pints
theorem jqw:∀{ns:Ae},Rps W A (ns.map D.int) (ns.map DL.D.int)
|[]=>.nil
|_::_=>.cons .int jqw
def jD7{K:Af}{mg:qc}{m:List D->MS D}{H:Hp}{a:Addr}{ns:Ae}{A:Sto}(hK:DL.noL K=true)(hS:SqL K H a (ns.map V.int))(h:m [.obj 0] [.fro (ns.map .int)]=some (.ok (.bl true),A)):spS mg 1 m [.ref a] H (λv z=>v=.bl true) λz z z=>False:=by
 rcases hS with hS|⟨o,_,_,hk,hc,_⟩
 .refine⟨rfl,[a],[.obj 0],_,⟨rfl,by simp,λi b o e1 e2=>?_⟩,.cons ⟨a,rfl,rfl⟩ .nil,_,h,λv J' H' z z r=>r⟩
  cases i with
  |zero=>cases e1;cases e2;exact⟨_,hS,pints⟩
  |succ i=>cases e1
 .exact absurd hc (DL.noL_ok hK hk)
end SI
namespace DL
open PySem
abbrev fI(i:Int):DSt->M D:=fC (.int i)
abbrev fS(x:Str):DSt->M D:=fC (.str x)
abbrev fA1(a:DSt->M D):=fCons a fNil
abbrev fA2(a b:DSt->M D):=fCons a (fA1 b)
abbrev fA3(a b c:DSt->M D):=fCons a (fA2 b c)
abbrev fA4(a b c d:DSt->M D):=fCons a (fA3 b c d)
end DL
namespace SI
open L2
open DL (ErrT ErrN ErrM)
theorem jqf{α:Type}:∀{ns:Ab}{us:List α},ns.Nodup->us.length=ns.length->ns.filterMap (λn=>((ns.zip us).lookup n).map (n,·))=ns.zip us/\ns.filter (λn=>((ns.zip us).lookup n).isNone)=[]
|[],_,_,_=>⟨rfl,rfl⟩
|n::ns,[],_,h=>by cases h
|n::ns,u::us,nd,h=>by
  obtain⟨a,b⟩:=cP.mp nd;obtain⟨e1,e2⟩:=jqf b (Nat.succ.inj h);have c:∀m∈ns,List.lookup m ((n,u)::ns.zip us)=List.lookup m (ns.zip us):=λm hm=>by
   have:(m==n)=false:=aH.mpr λz=>a (by rw[<- z];exact hm)
   simp[aZ,this]
  constructor
  .have g:∀l:Ab,(∀m∈l,m∈ns)->l.filterMap (λk=>(List.lookup k ((n,u)::ns.zip us)).map (k,·))=l.filterMap (λk=>(List.lookup k (ns.zip us)).map (k,·)):=λl=>by induction l<;>grind
   simp only[fK,eX,List.lookup_cons_self,bJ,g ns λy z=>z,e1]
  .rw[<- e2,List.filter_cons];simp only[fK,List.lookup_cons_self];exact List.filter_congr λm hm=>by rw[c m hm]
def jCo{fd:FuncData}{as:List Arg}{kd:List (Option Expr)}{us:Ac}(h0:fd.params=⟨[],as,none,[],kd,none,[]⟩)(hd:fd.defaults=.none)(nd:(as.map (·.arg)).Nodup)(hl:us.length=(as.map (·.arg)).length):bindArgs fd ⟨us,[]⟩=pure ((as.map (·.arg)).zip us):=by
 obtain⟨e1,e2⟩:=jqf nd hl;have e3:seqItems? .none=pure none:=rfl;unfold bindArgs;rw[hd,h0];dsimp only;generalize as.map (·.arg)=ns at e1 e2 hl |-
 have e4:ns.take ns.length=ns:=List.take_length;simp[hl,e3,e4,e2,e1]
noncomputable def refA:Option Al->Addr
|some (some (.ref a))=>a
|_=>0
def gA(K:Af)(x:Str):Addr:=refA (W.nsIn K mainGlobals x)
noncomputable def fdA(K:Af)(f:Addr):Option FuncData:=match K.lookup f with
 |some ⟨_,_,.func fd,_⟩=>some fd
 |_=>none
def agOk(s:Stmt):Bool:=(jbu s).posonlyargs.isEmpty&&(jbu s).vararg.isNone&&(jbu s).kwonlyargs.isEmpty&&(jbu s).kwarg.isNone&&(jbu s).defaults.isEmpty&&decide ((jbu s).args.map (·.arg)).Nodup
def jHw{a:Arguments}(h1:a.posonlyargs=[])(h2:a.vararg=none)(h3:a.kwonlyargs=[])(h4:a.kwarg=none)(h5:a.defaults=[]):a=⟨[],a.args,none,[],a.kw_defaults,none,[]⟩:=by cases a;cases h1;cases h2;cases h3;cases h4;cases h5;rfl
def fnL(K:Af)(f:Addr)(q:Str)(st:Stmt):Option FuncData×Bool×Bool×Bool:=(fdA K f,W.codeIn K ((fdA K f).getD default).code q,W.keepIn K (.ref f),agOk st)
def fnR(K:Af)(f:Addr)(x q:Str)(st:Stmt):Option FuncData×Bool×Bool×Bool:=(some (let d:=(fdA K f).getD default;W.fnOf x q (jbu st) (jdj st) (jat st) .none d.kwdefaults d.doc d.pyModule d.annotations d.code d.closureTuple),true,true,true)
def jxe{K:Af}{f:Addr}{x q:Str}{st:Stmt}(e:fnL K f q st=fnR K f x q st):∃fd,Fun K x q st f fd/\Binds K fd (psOf st) []:=by
 simp only[fnL,fnR,Prod.mk.injEq]at e;obtain⟨e1,e2,e3,e4⟩:=e;generalize (fdA K f).getD default=d at e1 e2;unfold fdA at e1
 split at e1
 .rename_i l;cases e1;have F:=jJa l e2 e3;refine⟨_,F,F.binds λkV dc pm an cd ct us hl=>?_⟩;unfold agOk at e4;simp only[aC,eD,Option.isNone_iff_eq_none,aV]at e4;obtain⟨⟨⟨⟨⟨a1,a2⟩,a3⟩,a4⟩,a5⟩,a6⟩:=e4;exact jCo (jHw a1 a2 a3 a4 a5) rfl a6 hl
 .cases e1
structure Ds where
 f:List (Str×Stmt)
 m:List (Str×Str×Str×Stmt)
 i:List (Str×Str×Stmt)
 x:List (Str×Str×Stmt)
 p:Pg
section
variable (D:Ds)(K:Af)
abbrev fiA(c x:Str):Option Al:=W.findIn K (.ref (gA K c)) x
noncomputable abbrev nsA(x:Str):Option Al:=W.nsIn K mainGlobals x
noncomputable def tkA:Option Al->Tok
|some (some (.int _ t))=>t
|some (some (.str _ t))=>t
|_=>0
def gcA(q:Str×Gc):Option Al:=match q.2 with
 |.int i=>some (some (.int i (tkA (nsA K q.1))))
 |.str z=>some (some (.str z (tkA (nsA K q.1))))
 |.tup _=>nsA K q.1
abbrev esA:List (Str×Addr):=D.p.cs.map λc=>(c,gA K c)
def Ds.l:=(D.f.map λp=>(nsA K p.1,fnL K (gA K p.1) p.1 p.2),D.m.map λp=>(fiA K p.1 p.2.1,W.isFn K (.ref (refA (fiA K p.1 p.2.1))),D.p.cl.contains p.1,fnL K (refA (fiA K p.1 p.2.1)) p.2.2.1 p.2.2.2),
 D.i.map λp=>(nsA K p.1,W.makesIn K (gA K p.1),fiA K p.1 "__init__",W.isFn K (.ref (refA (fiA K p.1 "__init__"))),W.keepIn K (.ref (gA K p.1)),fnL K (refA (fiA K p.1 "__init__")) p.2.1 p.2.2),
 D.x.map λp=>(fiA K p.1 "__init__",W.isFn K (.ref (refA (fiA K p.1 "__init__"))),D.p.cs.contains p.1,fnL K (refA (fiA K p.1 "__init__")) p.2.1 p.2.2),
 D.p.cl.map λc=>(nsA K c,W.plainGet K (gA K c) Str.empty,W.hasDictIn K (gA K c),W.plainOver K (gA K c),fiA K c "__setattr__",D.p.ats.map (fiA K c)),
 D.p.cs.map λc=>(nsA K c,nsA K D.p.bn),D.p.g.map λq=>nsA K q.1,D.p.b.map (nsA K),
 D.p.cs.isEmpty || DL.xTab K (esA D K) (gA K D.p.bn) D.p.fs&&DL.xTab2 K (esA D K) (gA K D.p.bn)&&DL.xTab3 K (esA D K),D.p.xn.all λc=>D.p.cs.contains c&&xNoI K (gA K c),DL.noL K)
noncomputable abbrev aR(a:Addr):Option Al:=some (some (.ref a))
def Ds.r:=(D.f.map λp=>(aR (gA K p.1),fnR K (gA K p.1) p.1 p.1 p.2),D.m.map λp=>(aR (refA (fiA K p.1 p.2.1)),true,true,fnR K (refA (fiA K p.1 p.2.1)) p.2.1 p.2.2.1 p.2.2.2),
 D.i.map λp=>(aR (gA K p.1),true,aR (refA (fiA K p.1 "__init__")),true,true,fnR K (refA (fiA K p.1 "__init__")) "__init__" p.2.1 p.2.2),
 D.x.map λp=>(aR (refA (fiA K p.1 "__init__")),true,true,fnR K (refA (fiA K p.1 "__init__")) "__init__" p.2.1 p.2.2),
 D.p.cl.map λc=>(aR (gA K c),true,true,true,some (some (Value.builtin "object.__setattr__")),D.p.ats.map λz=>some (none:Al)),
 D.p.cs.map λc=>(aR (gA K c),aR (gA K D.p.bn)),D.p.g.map (gcA K),D.p.b.map λz=>some (none:Al),true,true,true)
end
structure TX(D:Ds)(K:Af)(mg:qc):Prop where
 f:∀p∈D.f,DL.FunAt K mg p.1 p.2 (psOf p.2)
 m:∀p∈D.m,∃q,DL.MetAt K mg p.1 p.2.1 q p.2.2.2 (psOf p.2.2.2)
 i:∀p∈D.i,∃q,DL.IniAt K mg p.1 q p.2.2 (psOf p.2.2)
 x:∀p∈D.x,∃q,DL.IniXAt K mg p.1 q p.2.2 (psOf p.2.2)
 p:∀{P:Program}{w:World}{base:Heap},PgOk P w K mg base { D.p with t:=[],ms:=[],is:=[],xs:=[]}
 nol:DL.noL K=true
def txt_of{D:Ds}{K:Af}{h:Heap}{mg:qc}(X:K.In h)(G:h.Ns mainGlobals mg)(e:D.l K=D.r K)(ht:∀q∈D.p.g,∀ks,q.2=.tup ks->DL.TupAt K mg q.1 ks):TX D K mg:=by
 simp only[Ds.l,Ds.r,Prod.mk.injEq,List.map_inj_left]at e;obtain⟨e1,e2,e3,e4,e5,e6,e7,e8,e9,ea,eb⟩:=e;have M:=λ{x v}=>W.mg_of (n:=x) (v:=v) X G
 have C:∀c∈D.p.cl,∀C,mg c=some (.ref C)->C=gA K c/\Cls K C:=λc hc C hC=>by
  obtain⟨h1,h2,h3,h4,h5,h6⟩:=e5 c hc;rw[M h1]at hC;cases hC
  exact⟨rfl,h2,h3,h4,h5⟩
 have R:D.p.cs≠[]->ErrT K mg D.p.cs D.p.fs D.p.bn/\ErrN K mg D.p.cs/\ErrM K mg D.p.cs D.p.bn:=λhn=>by
  have:D.p.cs.isEmpty=false:=by grind
  rw[this]at e9;simp only[Bool.false_or,aC]at e9;obtain⟨c,r,hc⟩:=List.exists_cons_of_ne_nil hn;have hb:=M (e6 c (by rw[hc];exact zaa)).2;have hm:∀p∈esA D K,mg p.1=some (.ref p.2):=λp hp=>by obtain⟨c,hc,rfl⟩:=zcv.mp hp;exact M (e6 c hc).1
  have hs:(esA D K).map (·.1)=D.p.cs:=by simp[Function.comp_def]
  have a:=DL.errT_mk hm hb e9.1.1;have b:=DL.errM_mk hm hb e9.1.2;have c:=DL.errN_mk hm e9.2;rw[hs]at a b c;exact⟨a,c,b⟩
 have Wc:∀{c},D.p.cs.contains c=true->∃C,C=gA K c/\mg c=some (.ref C)/\XCls K C:=λ{c} hc=>by have hc:=zbc.mp hc;have:=M (e6 c hc).1;exact⟨_,rfl,this,(R λz=>by rw[z]at hc;cases hc).1.cls c hc _ this⟩
 refine⟨λp hp=>?_,λp hp=>?_,λp hp=>?_,λp hp=>?_,λ{P w base}=>⟨l0,l0,l0,l0,λc hc=>?_,λx hx=>W.mg_none_of X G (e8 x hx),λq hq=>?_,λf hf c hc C' hC=>?_,λhn=>?_⟩,eb⟩
 .obtain⟨fd,F,B⟩:=jxe (e1 p hp).2;exact⟨_,fd,M (e1 p hp).1,F,B⟩
 .obtain⟨h1,h2,h3,h4⟩:=e2 p hp;obtain⟨fd,F,B⟩:=jxe h4;have hc:=zbc.mp h3;have hm:=M (e5 _ hc).1;exact⟨_,_,_,fd,hm,(C _ hc _ hm).2,⟨h1,h2,F.kp⟩,F,B⟩
 .obtain⟨h1,h2,h3,h4,h5,h6⟩:=e3 p hp;obtain⟨fd,F,B⟩:=jxe h6;exact⟨_,_,_,fd,M h1,⟨h2,h3,h4,h5⟩,F,B⟩
 .obtain⟨h1,h2,h3,h4⟩:=e4 p hp;obtain⟨fd,F,B⟩:=jxe h4;obtain⟨_,rfl,hm,hx⟩:=Wc h3;exact⟨_,_,_,fd,hm,⟨hx,h1,h2⟩,F,B⟩
 .have:=aQ.mp ea c hc;rw[aC]at this;obtain⟨_,rfl,hm,hx⟩:=Wc this.1;exact⟨_,hm,hx,this.2⟩
 .have:=e7 q hq;obtain⟨x,g⟩:=q
  cases g with
  |int i=>exact⟨_,M this⟩
  |str z=>exact⟨_,M this⟩
  |tup ks=>exact ht _ hq ks rfl
 .obtain⟨rfl,k⟩:=C c hc C' hC;exact⟨k,(e5 c hc).2.2.2.2.2 f hf⟩
 .obtain⟨a,b,c⟩:=R hn;exact jOq a b c
structure PT(D:Ds) where
 p:Pg
 h:∀{P:Program}{w:World}{K:Af}{mg:qc}{base:Heap},TX D K mg->PgOk P w K mg base p
section
variable {w:World}{d:Df}{q x:Str}{f:Addr}{D:Ds}
def Df.fn(F:Fun K x q d.st f fd)(Zq:PgOk P w K mg base p)(h:d.ok p=true):FnOk P w K mg base (CX1 P w) (d.k+1) f fd (psOf d.st) (spS mg d.n (d.m p)):=by obtain⟨h1,h3⟩:=Df.ok_of h;obtain⟨g,e,b⟩:=Df.bd (q:=q) h1 Zq h3;rw[e];exact fn_S F h1 b
noncomputable def PT.z:PT D:=⟨_,λT=>T.p⟩
def jm7{α:Type}{l:List α}{i:Nat}{x:α}(h:i<l.length):l.getD i x∈l:=by simp_all
variable (Zq:PT D)(i k:Nat)(ws qs:Aa)
noncomputable def Ds.fa(D:Ds)(i:Nat):Str×Stmt:=D.f.getD i (Str.empty,.Pass ⟨0,0,0,0⟩)
noncomputable def Ds.ma(D:Ds)(i:Nat):Str×Str×Str×Stmt:=D.m.getD i (Str.empty,Str.empty,Str.empty,.Pass ⟨0,0,0,0⟩)
noncomputable def Ds.ia(l:List (Str×Str×Stmt))(i:Nat):Str×Str×Stmt:=l.getD i (Str.empty,Str.empty,.Pass ⟨0,0,0,0⟩)
def Ds.e(D:Ds)(i k:Nat)(ws qs:Aa):Df:=⟨(D.fa i).2,k,ws,qs⟩
def PT.fn(f:Option {f:List PD->PM PD // SimM ((D.e i k ws qs).m Zq.p) f})(h:autoParam ((D.e i k ws qs).ok Zq.p=true) zau2._auto_1)(hi:autoParam (i<D.f.length) zau0._auto_1):PT D:=
 ⟨{ Zq.p with t:=⟨(D.fa i).1,k+1,(D.e i k ws qs).n,(D.e i k ws qs).m Zq.p,f⟩::Zq.p.t },λt=>let Zq:=Zq.h t;⟨λj hj=>by
  rcases aM.mp hj with rfl|hj
  .obtain⟨f,fd,hm,F,hB⟩:=t.f _ (jm7 hi);exact⟨⟨f,fd,_,rfl,hm,F.kp,hB,Df.fn (d:=D.e i k ws qs) F Zq h⟩,Df.ar⟩
  .exact Zq.t j hj,Zq.ms,Zq.is,Zq.xs,Zq.xn,Zq.b,Zq.g,Zq.cl,Zq.er⟩⟩
def PT.fs(g:PSt->PM DL.Out)(n N:Nat)(h:autoParam (((D.e i k ws qs).f Zq.p,(D.e i k ws qs).n,(D.e i k ws qs).N.length,fnOk (D.e i k ws qs).N (psOf (D.e i k ws qs).st) (jat (D.e i k ws qs).st))=(some g,n,N,true)) zau2._auto_1)(hi:autoParam (i<D.f.length) zau0._auto_1):PT D:=
 Zq.fn i k ws qs (some ⟨_,Df.sim h⟩) (by simp only[Prod.mk.injEq]at h;obtain⟨r,e,_⟩:=aG.mp h.1;unfold Df.ok;rw[h.2.2.2,e];rfl) hi
def PT.mt(h:autoParam ((Df.mk (D.ma i).2.2.2 k ws qs).ok Zq.p=true) zau2._auto_1)(hi:autoParam (i<D.m.length) zau0._auto_1):PT D:=
 ⟨{ Zq.p with ms:=⟨(D.ma i).1,(D.ma i).2.1,k+1,_,(Df.mk (D.ma i).2.2.2 k ws qs).m Zq.p⟩::Zq.p.ms },λt=>let Zq:=Zq.h t;⟨Zq.t,λj hj=>by
  rcases aM.mp hj with rfl|hj
  .obtain⟨q,C,f,fd,m1,m2,m3,m4,m5⟩:=t.m _ (jm7 hi);exact⟨⟨C,f,fd,_,rfl,m1,m2,m3,m5,Df.fn (d:=⟨(D.ma i).2.2.2,k,ws,qs⟩) m4 Zq h⟩,Df.ar⟩
  .exact Zq.ms j hj,Zq.is,Zq.xs,Zq.xn,Zq.b,Zq.g,Zq.cl,Zq.er⟩⟩
def PT.ini(h:autoParam ((Df.mk (Ds.ia D.i i).2.2 k ws qs).ok Zq.p=true) zau2._auto_1)(hi:autoParam (i<D.i.length) zau0._auto_1):PT D:=
 ⟨{ Zq.p with is:=⟨(Ds.ia D.i i).1,"__init__",k+1,_,(Df.mk (Ds.ia D.i i).2.2 k ws qs).m Zq.p⟩::Zq.p.is },λt=>let Zq:=Zq.h t;⟨Zq.t,Zq.ms,λj hj=>by
  rcases aM.mp hj with rfl|hj
  .obtain⟨q,C,f,fd,m1,m2,m4,m5⟩:=t.i _ (jm7 hi);exact⟨⟨C,f,fd,_,rfl,m1,m2,m5,Df.fn (d:=⟨(Ds.ia D.i i).2.2,k,ws,qs⟩) m4 Zq h⟩,Df.ar⟩
  .exact Zq.is j hj,Zq.xs,Zq.xn,Zq.b,Zq.g,Zq.cl,Zq.er⟩⟩
def PT.xini(h:autoParam (((Df.mk (Ds.ia D.x i).2.2 k ws qs).ok Zq.p&&decide ((Df.mk (Ds.ia D.x i).2.2 k ws qs).n<=1000))=true) zau2._auto_1)(hi:autoParam (i<D.x.length) zau0._auto_1):PT D:=
 ⟨{ Zq.p with xs:=⟨(Ds.ia D.x i).1,"__init__",k+1,_,(Df.mk (Ds.ia D.x i).2.2 k ws qs).m Zq.p⟩::Zq.p.xs },λt=>let Zq:=Zq.h t;⟨Zq.t,Zq.ms,Zq.is,λj hj=>by
  rcases aM.mp hj with rfl|hj
  .rw[aC,aV]at h;obtain⟨q,C,f,fd,m1,m2,m4,m5⟩:=t.x _ (jm7 hi);exact⟨⟨C,f,fd,_,rfl,m1,m2,m5,Df.fn (d:=⟨(Ds.ia D.x i).2.2,k,ws,qs⟩) m4 Zq h.1,h.2⟩,Df.ar⟩
  .exact Zq.xs j hj,Zq.xn,Zq.b,Zq.g,Zq.cl,Zq.er⟩⟩
end
def walkS{l:W.OpenLaw}{q:Program}{loose:Ab}{XP:(qc)->Heap->Prop}{YP:World->Heap->Prop}{d:DefRec}{K:Params->Af}{x:Str}{i k:Nat}{ws qs:Aa}{D:Ds}{zt:PT D}(hn:l.most=some 63)(hdf:d.params.defaults=[])(hk:k+1<=60)(hx:psOf (D.fa i).2=[x])(hl:(D.fa i).1="law")(hi:i<D.f.length)(hps:(D.e i k ws qs).ok zt.p=true)
  (hY:∀(w:World)(h:Heap),YP w h->(K w.params).In h)
  (F:∀(w:World)(mg:qc)(fa:Addr)(h:Heap),(K w.params).In h->h.Ns mainGlobals mg->mg d.name=some (.ref fa)->TX D (K w.params) mg/\mg "law"=some (.ref fa))
  (hb:∀(kV doc pm:Value)(an:Ag)(cdv ct:Value)(s:Shared)(u:Value),BindsTo s (W.fnOf "law" "law" (jbu (D.fa i).2) (jdj (D.fa i).2) (jat (D.fa i).2) .none kV doc pm an cdv ct) ⟨[u],[]⟩ [(x,u)])
  (hm:∀ns:Ae,ns.length<=63->∃A,(D.e i k ws qs).m zt.p [.obj 0] [.fro (ns.map .int)]=some (.ok (.bl true),A)):
  W.WalkO q loose XP YP l.row.toRowW d [] (λf vs=>PySem.call f vs):=
 L2.walk_of (n:=63) (k:=k+1) (x:=x) (CX:=λw=>CX1 l.prog w) (sp:=λw vs H Q E=>∀mg,DL.noL (K w.params)=true->spS mg 1 ((D.e i k ws qs).m zt.p) vs H Q E) hn (by decide) hdf (Room.mono (k:=60) ⟨rfl,by decide,by decide⟩ hk) hY
  (λw mg fa h KX G hmg=>by obtain⟨t,hq⟩:=F w mg fa h KX G hmg;have hf:=t.f _ (jm7 (x:=(Str.empty,.Pass ⟨0,0,0,0⟩)) hi);change DL.FunAt _ _ (D.fa i).1 (D.fa i).2 (psOf (D.fa i).2)at hf;rw[hl,hx]at hf;obtain⟨fd,FF,hb⟩:=DL.funAt_law hf hq hb;refine⟨fd,hb,λbase y y=>?_⟩;have:=Df.fn (d:=D.e i k ws qs) FF (zt.h (P:=l.prog) (w:=w) (base:=base) t) hps;unfold Df.n Ds.e at this;rw[hx]at this;exact this.imp λvs H Q E z=>z mg t.nol)
  (λy y a ns hl y hS=>λmg hno=>let ⟨A,e⟩:=hm ns hl;jD7 hno hS e) λw H s e s' z=>by obtain⟨_,_,_,_,_,_,_,_,_,_,_,_,z⟩:=z;exact z
end SI
namespace DL
open PyProof.Rows L2
def sC:starEach (.Constant v j p::es) env=(false,eval (.Constant v j p) env)::starEach es env:=rfl
end DL
namespace SI
open L2
def Ev{α:Type}(m:MS α)(A:Sto)(Q:α->Sto->Prop):Prop:=∃a A',m A=some (.ok a,A')/\Q a A'
theorem Ev.b(h:Ev m A λa A1=>Ev (f a) A1 Q):Ev (m.b f) A Q:=by obtain⟨a,A1,e,b,A2,e2,h⟩:=h;exact⟨b,A2,by unfold MS.b;rw[e];exact e2,h⟩
def Ev.p{a:β}(h:Q a A):Ev (MS.p a) A Q:=⟨a,A,rfl,h⟩
def Ev.imp{m:MS β}(h:Ev m A Q)(k:∀a A',Q a A'->Q' a A'):Ev m A Q':=let ⟨a,A',e,h⟩:=h;⟨a,A',e,k a A' h⟩
def jab(e:Y[i]?=some (some d))(h:q d A):Ev (sVar i Y) A q:=⟨d,A,by simp_all [sVar,MS.o],h⟩
def ev_c(h:q d A):Ev (sC d Y) A q:=⟨d,A,rfl,h⟩
def ev_1{g:D->MS D}(h:Ev (fa Y) A λa A1=>Ev (g a) A1 q):Ev (s1 g fa Y) A q:=h.b
def ev_2{g:D->D->MS D}(h:Ev (fa Y) A λa A1=>Ev (fb Y) A1 λb A2=>Ev (g a b) A2 q):Ev (s2 g fa fb Y) A q:=(h.imp λz z h=>h.b).b
def ev_l{g:List D->MS D}(h:Ev (fl Y) A λa A1=>Ev (g a) A1 q):Ev (sL g fl Y) A q:=h.b
def jac(h:ql [] A):Ev (sNil Y) A ql:=⟨[],A,rfl,h⟩
def jaa(h:Ev (fa Y) A λa A1=>Ev (fl Y) A1 λl A2=>ql (a::l) A2):Ev (jar fa fl Y) A ql:=(h.imp λz z h=>(h.imp λz z h=>.p h).b).b
def jdu{g:D->D->MS D}(h:Ev (fa Y) A λa A1=>Ev (fb Y) A1 λb A2=>Ev (g a b) A2 λd A3=>∃c,d=.bl c/\qb c A3):Ev (sT2 g fa fb Y) A qb:=(h.imp λz z h=>(h.imp λz z h=>(h.imp λ_ _ ⟨c,e,h⟩=>by subst e;exact .p h).b).b).b
def jtt(h:Ev (fa Y) A λa A1=>∃c,truS A1 a=some c/\qb c A1):Ev (sTru fa Y) A qb:=(h.imp λa A1 ⟨c,e,h⟩=>⟨c,A1,by simp_all,h⟩).b
def jI1(h:Ev (ta Y) A λc A1=>qb (!c) A1):Ev (sNot ta Y) A qb:=(h.imp λz z h=>.p h).b
def jBb(h:Ev (tc Y) A λc A1=>if c=true then Ev (fa Y) A1 q else Ev (fb Y) A1 q):Ev (sIf tc fa fb Y) A q:=(h.imp λc A1 h=>by grind).b
def jn1(h:Ev (fa Y) A λd A1=>∃c,d=.bl c/\if c=true then Ev (fb Y) A1 q else q (.bl false) A1):Ev (jo1 fa fb Y) A q:=(h.imp λd A1 ⟨c,e,h⟩=>by subst e;cases c;exact .p h;exact h).b
def jax(h:Ev (fa Y) A λd A1=>qo (.nx (Y.set i (some d))) A1):Ev (oSet i fa Y) A qo:=(h.imp λz z h=>.p h).b
def jfr(h:Ev (fa Y) A λd A1=>qo (.rt d) A1):Ev (oRet fa Y) A qo:=(h.imp λz z h=>.p h).b
def jcl(h:Ev (fa Y) A λz A1=>qo (.nx Y) A1):Ev (jct fa Y) A qo:=(h.imp λz z h=>.p h).b
def jhh(h:qo (.nx Y) A):Ev (oNx Y) A qo:=.p h
def jag(h:Ev (g1 Y) A λo A1=>match o with
  |.nx Y'=>Ev (g2 Y') A1 qo
  |o=>qo o A1):Ev (oSeq g1 g2 Y) A qo:=(h.imp λo A1 h=>by cases o<;>first|exact h|exact .p h).b
def jcm(h:Ev (tc Y) A λc A1=>if c=true then Ev (g1 Y) A1 qo else Ev (g2 Y) A1 qo):Ev (oIf tc g1 g2 Y) A qo:=(h.imp λc A1 h=>by grind).b
def jIt{g:Tg}(h:Ev (fa Y) A λd A1=>∃Y',g d Y A1=some Y'/\qo (.nx Y') A1):Ev (oAsg g fa Y) A qo:=(h.imp λd A1 ⟨Y',e,h⟩=>⟨_,A1,by simp_all,h⟩).b
def jBc(h:Ev (fv Y) A λd A1=>Ev (fo Y) A1 λx A2=>Ev (fa Y) A2 λk A3=>∃A',putI x k d A3=some A'/\qo (.nx Y) A'):Ev (jkb fo fa fv Y) A qo:=by
 obtain⟨a,A1,e,h⟩:=h;obtain⟨x,A2,e2,h⟩:=h;obtain⟨k,A3,e3,A',e4,h⟩:=h;refine⟨_,A',jCh ?_,h⟩
 simp_all [oPut,MS.b]
def jfq{cs:Ab}{f:Str}(h:Ev (fv Y) A λd A1=>Ev (fo Y) A1 λx A2=>∃i c fs,x=.obj i/\A2[i]?=some (.ins c fs)/\(cs.contains c=true/\fs.length<1000)/\qo (.nx Y) (A2.set i (.ins c (putD f d fs)))):Ev (oFld cs f fo fv Y) A qo:=
 (h.imp λd A1 h=>(h.imp λx A2 h=>by obtain⟨i,c,fs,e,hi,hc,h⟩:=h;exact⟨_,_,by simp_all [insO,aD],h⟩).b).b
def ji3{cs:Ab}{f:Str}{c:Str}{fs:List (Str×D)}{d':D}(hi:A[i]?=some (.ins c fs))(hc:cs.contains c=true)(hl:fs.lookup f=some d')(h:q d' A):Ev (jj7 cs f (.obj i)) A q:=
 ⟨d',A,by simp_all [jj7,insO,aD],h⟩
def jI2(hg:OpM gs g)(hW:∀j∈W,j<A.length)(r1:Rp W A a x)(r2:Rp W A b y)(e:g x y=some v)(h:∀d A',A<+:A'->Rp W A' d v->q d A'):Ev (gs a b) A q:=by obtain⟨w,A',e1,l,z⟩:=hg e hW r1 r2;cases z with|ok z=>exact⟨_,A',e1,h _ _ l z⟩
def jIu(hg:CaM gs g)(hW:∀j∈W,j<A.length)(r1:Rps W A a x)(e:g x=some v)(h:∀d A',A<+:A'->Rp W A' d v->q d A'):Ev (gs a) A q:=by obtain⟨w,A',e1,l,z⟩:=hg e hW r1;cases z with|ok z=>exact⟨_,A',e1,h _ _ l z⟩
def jau(hg:SimM gs g)(hW:∀j∈W,j<A.length)(r1:Rps W A a x)(e:g x=some (.ok v))(h:∀d A',A<+:A'->Rp W A' d v->q d A'):Ev (gs a) A q:=by obtain⟨w,A',e1,l,z⟩:=hg hW e r1;cases z with|ok z=>exact⟨_,A',e1,h _ _ l z⟩
def jIw{gs:List D->MS D}{a:List D}(h:Ev (gs a) A λd A'=>A<+:A'/\Rp W A' d x):tQ ReE W (gs a) A (.ok x):=let ⟨_,_,e,l,r⟩:=h;⟨_,_,e,l,.ok r⟩
def jcq:rf A (.int j)=some (.int j):=jhu (W:=[]) .int
def jbe:rf A (.str z)=some (.str z):=jhu (W:=[]) .str
def jdl{g:PD->PD->Option PD}{a b d:D}{x y v:PD}(r1:rf A a=some x)(r2:rf A b=some y)(e:g x y=some v)(e2:un v=some d)(h:q d A):Ev (lO g a b) A q:=⟨d,A,by grind[lO],h⟩
def jDh{g:PD->Option PD}{a d:D}{x v:PD}(r1:rf A a=some x)(e:g x=some v)(e2:un v=some d)(h:q d A):Ev (lU g a) A q:=⟨d,A,by grind[lU],h⟩
def jcg{f:List D->SO}{ds:List D}(hl:ds.length<=sizeLine)(h:q (.obj A.length) (A++[f ds])):Ev (gNew f ds) A q:=⟨_,_,aD hl,h⟩
def jBa(h:Ev a A Q):Ev (alt a b) A Q:=let ⟨d,A',e,h⟩:=h;⟨d,A',jCh e,h⟩
def jdf{n N:Nat}{g:DSt->MS Out}{ds:List D}(hn:ds.length=n)(h:Ev (g (jd5 N ds)) A λo A'=>match o with
  |.rt d=>q d A'
  |.nx _=>q .non A'
  |_=>False):Ev (mirS n N g ds) A q:=by unfold mirS;rw[aD hn];exact(h.imp λo A' h=>by cases o<;>first|exact .p h|exact h.elim).b
def jhg{ms:List Mi}{x c:Str}{fs:List (Str×D)}{mi:Mi}(ho:Ev (fo Y) A λd A1=>∃i,d=.obj i/\A1[i]?=some (.ins c fs)/\(fs.lookup x).isNone=true/\(ms.find? λi=>i.c==c&&i.x==x)=some mi/\Ev (fl Y) A1 λds A2=>Ev (mi.m (d::ds)) A2 q):Ev (je4 ms x fo fl Y) A q:=
 (ho.imp λd A1 h=>by obtain⟨i,rfl,hi,hn,hf,h⟩:=h;obtain⟨ds,A2,e2,d',A3,e3,h⟩:=h;exact⟨d',A3,by unfold insO;dsimp only;rw[hi];dsimp only;rw[aD hn,hf];grind[MS.b],h⟩).b
def jDi{c:Str}{m:List D->MS D}(h:Ev (fl Y) A λds A1=>Ev (m (.obj A1.length::ds)) (A1++[.ins c []]) λd A2=>d=.non/\q (.obj A1.length) A2):Ev (jr8 c m fl Y) A q:=
 (h.imp λds A1 h=>by obtain⟨d,A2,e,rfl,h⟩:=h;exact⟨_,A2,by unfold MS.b;dsimp only;rw[e];rfl,h⟩).b
def jIz{g:Lm}(h:Ev (fo Y) A λx A1=>∃i ds0,x=.obj i/\A1[i]?=some (.lst ds0)/\Ev (fl Y) A1 λvs A2=>∃ds ys d,A2[i]?=some (.lst ds)/\g A2 ds vs=some (ys,d)/\q d (A2.set i (.lst ys))):Ev (sMt g fo fl Y) A q:=
 (h.imp λx A1 ⟨i,ds0,e,hi,h⟩=>by subst e;obtain⟨vs,A2,e2,ds,ys,d,h1,h2,h⟩:=h;exact⟨d,_,by grind[MS.b],h⟩).b
def jI0{g:Lm}(h:Ev (fo Y) A λx A1=>∃i ds ys d,x=.obj i/\A1[i]?=some (.lst ds)/\g A1 ds []=some (ys,d)/\q d (A1.set i (.lst ys))):Ev (sMt0 g fo Y) A q:=
 (h.imp λx A1 h=>by obtain⟨i,ds,ys,d,e,hi,h2,h⟩:=h;exact⟨d,_,by simp_all,h⟩).b
def jk9{fi:DSt->MS Itr}{g:Tg}{body:DSt->MS Out}(h:Ev (fi Y) A λt A1=>∃n,Ev (forS t g body n 0 Y) A1 qo):Ev (jka fi g body Y) A qo:=
 (h.imp λt A1 ⟨n,o,A2,e,h⟩=>⟨o,A2,jkq (λz z=>jg1) e,h⟩).b
def jk7{t:Itr}{g:Tg}{body:DSt->MS Out}{n j:Nat}(e:t j A=some (.ok none,A))(h:qo (.nx Y) A):Ev (forS t g body (n+1) j Y) A qo:=⟨_,A,by unfold forS MS.b;rw[e];rfl,h⟩
def jk8{t:Itr}{g:Tg}{body:DSt->MS Out}{n j:Nat}{d:D}{A1:Sto}{Y1:DSt}(e:t j A=some (.ok (some d),A1))(e2:g d Y A1=some Y1)(h:Ev (body Y1) A1 λo A2=>match o with
  |.nx Y2=>Ev (forS t g body n (j+1) Y2) A2 qo
  |.ct Y2=>Ev (forS t g body n (j+1) Y2) A2 qo
  |.bk Y2=>qo (.nx Y2) A2
  |.rt d=>qo (.rt d) A2):Ev (forS t g body (n+1) j Y) A qo:=by
 obtain⟨o,A2,e3,h⟩:=h;unfold Ev forS MS.b;rw[e];dsimp only;rw[e2];dsimp only;rw[e3]
 cases o with
 |nx _=>exact h
 |ct _=>exact h
 |bk _=>exact⟨_,_,rfl,h⟩
 |rt _=>exact⟨_,_,rfl,h⟩
inductive Sv(W:Aa)(A:Sto):DSt->PSt->Prop
| nil:Sv W A [] []
| no {o Y p} (t:Sv W A Y p):Sv W A (o::Y) (none::p)
| yes {d x Y p} (r:Rp W A d x) (t:Sv W A Y p):Sv W A (some d::Y) (some x::p)
def Sv.len(h:Sv W A Y p):Y.length=p.length:=by induction h<;>simp_all
def Sv.val(h:Sv W A Y p):∀{i:Nat}{x},p[i]?=some (some x)->∃d,Y[i]?=some (some d)/\Rp W A d x:=by induction h<;>grind
def Sv.sr(h:Sv W A Y p)(hW:∀j∈W,j<A.length):Sr W p.length [] Y p A where
 len:=⟨h.len,rfl⟩
 fin:=hW
 val:=λi x e y=>by rw[show ownI W Y []=W from aO W];exact h.val e
 own:=λy z=>absurd z aK
 nd:=λy z=>absurd z aK
section
variable {W:Aa}{A:Sto}{Y:DSt}{p:PSt}{g:DSt->MS D}{f:PSt->PM PD}{v:PD}{q:D->Sto->Prop}{qb:Bool->Sto->Prop}
def jx3(h:SmE p.length [] g f)(s:Sv W A Y p)(hW:∀j∈W,j<A.length)(e:f p=some (.ok v))(k:∀d A',A<+:A'->Rp W A' d v->q d A'):Ev (g Y) A q:=by obtain⟨w,A',e1,l,z⟩:=h (s.sr hW) e;cases z with|ok z=>exact⟨_,A',e1,k _ _ l (by grind[ownI])⟩
def jI3{g:DSt->MS Bool}{f:PSt->PM Bool}{b:Bool}(h:SmT p.length [] g f)(s:Sv W A Y p)(hW:∀j∈W,j<A.length)(e:f p=some (.ok b))(k:∀A',A<+:A'->qb b A'):Ev (g Y) A qb:=by obtain⟨w,A',e1,l,z⟩:=h (s.sr hW) e;cases z with|ok z=>cases z;exact⟨_,A',e1,k _ l⟩
end
def KTu(A A':Sto):Prop:=∀(i:Nat) ds,A[i]?=some (SO.tup ds)->A'[i]?=some (SO.tup ds)
def KTu.pre(l:A<+:A'):KTu A A':=λz z e=>jaf l e
def KTu.trans(a:KTu A A')(b:KTu A' A''):KTu A A'':=λi ds e=>b i ds (a i ds e)
def KTu.set(e:A[i]?=some o)(h:∀ds,o≠.tup ds):KTu A (A.set i o'):=λj ds e'=>by grind
mutual
def tuV:PD->Bool
|.lst _=>false
|.tup xs=>tuVs xs
|_=>true
def tuVs:List PD->Bool
|[]=>true
|x::xs=>tuV x&&tuVs xs
end
def jB4(h:o.bind tuO=some ds):o=some (.tup ds):=by
 cases o with
 |none=>cases h
 |some o=>cases o<;>cases h;rfl
def jB7(h:Paired (λd x=>tuV x=true->Rp W A d x) ds xs)(e:tuVs xs=true):Rps W A ds xs:=by
 induction h with
 |nil=>exact .nil
 |cons a _ b=>unfold tuVs at e;rw[aC]at e;exact .cons (a e.1) (b e.2)
def Rp.tu(k:KTu A A')(e:tuV x=true)(h:Rp W A d x):Rp W A' d x:=
 h.ind (P:=λd x=>tuV x=true->Rp W A' d x) (λy=>.non) (λy=>.bl) (λy=>.int) (λy=>.str) (λy=>.ty) (λy y y y z=>by unfold tuV at z;cases z) (λhi e r z=>.tup hi (by rw[k _ _ (jB4 e)];rfl) (jB7 r (by unfold tuV at z;exact z))) e
def Rps.tu(k:KTu A A')(e:tuVs xs=true)(h:Rps W A ds xs):Rps W A' ds xs:=jB7 (Paired.mapP h.pd λw w z y=>z.tu k y) e
theorem tu_ints:∀{ns:Ae},tuVs (ns.map DL.D.int)=true
|[]=>rfl
|_::_=>by rw[aE];unfold tuVs;rw[aC];exact⟨rfl,tu_ints⟩
def jP1(h:A[n]?=some (.dK kvs)):rf A (.obj n)=none:=by
 cases e:rf A _ with
 |none=>rfl
 |some x=>
  have:=jh7 e
  cases this with
  |lst _ e1 _=>rw[h]at e1;cases e1
  |tup _ e1 _=>rw[h]at e1;cases e1
def dc_K(h:A[n]?=some (.dK kvs))(e:keyK y=some k):dcO A (.obj n) y=some (n,.k kvs k):=by grind[dcO]
def jIx{neg:Bool}(h:A[n]?=some (.dK kvs))(e:keyK y=some k)(hq:q (.bl ((valD kvs k).isSome != neg)) A):Ev (gInA neg y (.obj n)) A q:=by
 refine⟨_,A,?_,hq⟩;unfold gInA alt;have:lO (if neg then DL.gNotIn else DL.gIn) y (.obj n) A=none:=by unfold lO;rw[jP1 h];cases rf A y<;>rfl
 rw[this];unfold gDIn;rw[dc_K h e];rfl
def jDg(h:Ev (fv Y) A λd A1=>Ev (fo Y) A1 λx A2=>Ev (fa Y) A2 λy A3=>∃n kvs k,x=.obj n/\A3[n]?=some (.dK kvs)/\keyK y=some k/\kvs.length<sizeLine/\qo (.nx Y) (A3.set n (.dK (jr5 kvs k d)))):Ev (jkb fo fa fv Y) A qo:=by
 obtain⟨a,A1,e,h⟩:=h;obtain⟨x,A2,e2,h⟩:=h;obtain⟨y,A3,e3,n,kvs,k,rfl,e4,e5,hl,h⟩:=h;refine⟨_,_,?_,h⟩;have p1:oPut fo fa fv Y A=none:=by
  unfold oPut MS.b;rw[e];dsimp only;rw[e2];dsimp only;rw[e3];dsimp only
  have:putI (.obj n) y a A3=none:=by
   cases y with
   |int j=>show(match A3[n]? with
     |some (.lst ds)=>(ixN _ j).map _
     |_=>none)=none;rw[e4]
   |_=>rfl
  rw[this];rfl
 unfold jkb alt;rw[p1];unfold jEr MS.b;rw[e];dsimp only;rw[e2];dsimp only;rw[e3];dsimp only
 rw[dc_K e4 e5,aW];exact aD hl
def jx1(h:Ev (fo Y) A λx A1=>∃n kvs,x=.obj n/\A1[n]?=some (.dK kvs)/\Ev (fa Y) A1 λy A2=>Ev (fb Y) A2 λz A3=>∃k kvs',A3[n]?=some (.dK kvs')/\keyK y=some k/\q ((valD kvs' k).getD z) A3):Ev (jqz fo fa fb Y) A q:=
 (h.imp λx A1 ⟨n,kvs,e,h1,h⟩=>by
  subst e;obtain⟨y,A2,e2,z,A3,e3,k,kvs',h2,h3,h⟩:=h;refine⟨_,A3,?_,h⟩;have:isDO A1 (.obj n)=true:=by unfold isDO;dsimp only;rw[h1]
  dsimp only;rw[aD this];unfold MS.b;rw[e2];dsimp only;rw[e3];dsimp only;rw[dc_K h2 h3];rfl).b
def jDf(h:q (.obj A.length) (A++[.dK []])):Ev (jzp false Y) A q:=⟨_,_,rfl,h⟩
def jIv{own:Nat}{caps:qh}{fi:DSt->MS Itr}{g:Tg}{tc:DSt->MS Bool}{fe:DSt->MS D}(h:Ev (fi Y) A λt A1=>∃n,Ev (jd6 t g tc fe A1.length n 0 (jg3 own caps Y)) (A1++[.lst []]) q):Ev (sCmp own caps fi g tc fe Y) A q:=
 (h.imp λt A1 ⟨n,d,A2,e,h⟩=>⟨d,A2,jkq (λz z=>jmd) e,h⟩).b
def jDd{t:Itr}{g:Tg}{tc:DSt->MS Bool}{fe:DSt->MS D}{i m j:Nat}(e:t j A=some (.ok none,A))(h:q (.obj i) A):Ev (jd6 t g tc fe i (m+1) j Y) A q:=⟨_,A,by unfold jd6 MS.b;rw[e];rfl,h⟩
def jDe{t:Itr}{g:Tg}{fe:DSt->MS D}{i m j:Nat}{d:D}{A1:Sto}{Y1:DSt}(e:t j A=some (.ok (some d),A1))(e2:g d Y A1=some Y1)(h:Ev (fe Y1) A1 λy A2=>∃ys,A2[i]?=some (.lst ys)/\ys.length<sizeLine/\Ev (jd6 t g sYes fe i m (j+1) Y1) (A2.set i (.lst (ys++[y]))) q):Ev (jd6 t g sYes fe i (m+1) j Y) A q:=by
 obtain⟨y,A2,e3,ys,h1,h2,d',A3,e4,h⟩:=h;refine⟨d',A3,?_,h⟩;unfold jd6 MS.b;rw[e];dsimp only;rw[e2];dsimp only
 rw[jjp (rfl)];dsimp only;rw[aD rfl,jjp e3];simp_all
def Er{α:Type}(m:MS α)(A:Sto)(Q:D->Sto->Prop):Prop:=∃y A',m A=some (.error y,A')/\Q y A'
def Er.imp(h:Er m A Q)(k:∀y A',Q y A'->Q' y A'):Er m A Q':=let ⟨y,A',e,h⟩:=h;⟨y,A',e,k y A' h⟩
def Er.b1(h:Er m A Q):Er (m.b f) A Q:=let ⟨y,A',e,h⟩:=h;⟨y,A',by unfold MS.b;rw[e],h⟩
def Er.b2(h:Ev m A λa A1=>Er (f a) A1 Q):Er (m.b f) A Q:=by obtain⟨a,A1,e,y,A2,e2,h⟩:=h;exact⟨y,A2,by unfold MS.b;simp_all,h⟩
def jn0(h:Er (g1 Y) A Q):Er (oSeq g1 g2 Y) A Q:=h.b1
def ji2(h:Ev (g1 Y) A λo A1=>∃Y',o=.nx Y'/\Er (g2 Y') A1 Q):Er (oSeq g1 g2 Y) A Q:=.b2 (h.imp λo A1 ⟨Y',e,h⟩=>by simp_all)
def jnz(h:Er (fa Y) A Q):Er (jct fa Y) A Q:=h.b1
def er_l{g:List D->MS D}(h:Ev (fl Y) A λa A1=>Er (g a) A1 Q):Er (sL g fl Y) A Q:=.b2 h
def jIs(h:Ev (tc Y) A λc A1=>if c=true then Er (g1 Y) A1 Q else Er (g2 Y) A1 Q):Er (oIf tc g1 g2 Y) A Q:=.b2 (h.imp λc A1 h=>by grind)
def jmk{n N:Nat}{g:DSt->MS Out}{ds:List D}(hn:ds.length=n)(h:Er (g (jd5 N ds)) A Q):Er (mirS n N g ds) A Q:=by unfold mirS;rw[aD hn];exact h.b1
def jDc{fi:DSt->MS Itr}{g:Tg}{body:DSt->MS Out}(h:Ev (fi Y) A λt A1=>∃n,Er (forS t g body n 0 Y) A1 Q):Er (jka fi g body Y) A Q:=
 .b2 (h.imp λt A1 ⟨n,o,A2,e,h⟩=>⟨o,A2,jkq (λz z=>jg1) e,h⟩)
def jDa{t:Itr}{g:Tg}{body:DSt->MS Out}{n j:Nat}{d:D}{A1:Sto}{Y1:DSt}(e:t j A=some (.ok (some d),A1))(e2:g d Y A1=some Y1)(h:Er (body Y1) A1 Q):Er (forS t g body (n+1) j Y) A Q:=by
 obtain⟨y,A2,e3,h⟩:=h;refine⟨y,A2,?_,h⟩
 simp_all [forS,MS.b]
def jDb{t:Itr}{g:Tg}{body:DSt->MS Out}{n j:Nat}{d:D}{A1:Sto}{Y1:DSt}(e:t j A=some (.ok (some d),A1))(e2:g d Y A1=some Y1)(h:Ev (body Y1) A1 λo A2=>∃Y2,o=.nx Y2/\Er (forS t g body n (j+1) Y2) A2 Q):Er (forS t g body (n+1) j Y) A Q:=by
 obtain⟨o,A2,e3,Y2,rfl,y,A3,e4,h⟩:=h;refine⟨y,A3,?_,h⟩
 simp_all [forS,MS.b]
def jp0(h:Ev (fa Y) A λd A1=>∃i c j,d=.obj i/\A1[i]?=some (.exc c j true)/\cs.contains c=true/\Q (.obj i) (A1.set i (.exc c j false))):Er (jna cs fa Y) A Q:=
 .b2 (h.imp λd A1 h=>by obtain⟨i,c,j,e,e1,hc,h⟩:=h;exact⟨_,_,by simp_all,h⟩)
def jDl{c:Str}(h:q (.obj A.length) (A++[.exc c none true])):Ev (sXNew c Y) A q:=⟨_,_,rfl,h⟩
def jx4{c:Str}{m:List D->MS D}(h:Ev (fl Y) A λds A1=>Ev (m (.obj A1.length::ds)) (A1++[.exc c none true]) λd A2=>d=.non/\q (.obj A1.length) A2):Ev (jq0 c m fl Y) A q:=
 (h.imp λds A1 h=>by obtain⟨d,A2,e,rfl,h⟩:=h;exact⟨_,A2,by unfold MS.b;dsimp only;rw[e];rfl,h⟩).b
def jDk{fo fv:DSt->MS D}{x:Str}(h:Ev (fv Y) A λd A1=>Ev (fo Y) A1 λo A2=>∃i c r,o=.obj i/\A2[i]?=some (.exc c none r)/\cs.contains c=true/\qo (.nx Y) ((A2++[SO.xd [(x,d)]]).set i (.exc c (some A2.length) r))):Ev (jys cs x fo fv Y) A qo:=
 (h.imp λd A1 h=>(h.imp λo A2 h=>by obtain⟨i,c,r,e,e1,hc,h⟩:=h;exact⟨_,_,by simp_all,h⟩).b).b
def jDj{m:List D->MS D}{i j l:Nat}(h:Ev (fl Y) A λds A1=>Ev (m ds) A1 λd A2=>qo (.nx (Y.set i (some d))) A2):Ev (jor m cs i j l fl Y) A qo:=by
 obtain⟨ds,A1,e,d,A2,e2,h⟩:=h;refine⟨_,A2,?_,h⟩;unfold jor MS.b
 grind[jjp]
def jtu{m:List D->MS D}{i j l:Nat}(h:Ev (fl Y) A λds A1=>Er (m ds) A1 λy A2=>∃k c u,y=.obj k/\A2[k]?=some (.exc c u false)/\cs.contains c=true/\qo (.nx (((Y.set j (some y)).set l (some y)).set j none)) A2):Ev (jor m cs i j l fl Y) A qo:=by obtain⟨ds,A1,e,d,A2,e2,k,c,u,rfl,e3,hc,h⟩:=h;refine⟨_,A2,?_,h⟩;unfold jor MS.b;rw[jjp e];simp_all [jpn,aD]
end SI
namespace MyLaw
open L2
abbrev LL:=List Aa
noncomputable def top(i:Nat):Stmt:=PySem.Challenge.pw_apartbook_k16_whole_books_read_and_check.main.body.getD i (.Pass ⟨0,0,0,0⟩)
noncomputable abbrev bs:Ab:=["abs","all","enumerate","int","isinstance","len","range","set","str","sum","tuple","zip"]
noncomputable abbrev xcs:Ab:=["Broken","NoBook","NoLine","NoName","NoText","NotPlain"]
noncomputable abbrev xfs:Ab:=["place","name","line"]
noncomputable abbrev xcl:Ab:=["OpenSum"]
noncomputable abbrev xat:Ab:=["star","term","term_sign","total"]
def D0:SI.Ds:=⟨(List.append (α:=Str×Stmt) [("_law_mix",top 62),("_law_at",top 61),("_law_counts",top 70),("_law_draw",top 63),("_law_named",top 64),("_law_wide",top 65),("_law_items",top 66),("_law_rules",top 67),("_law_deeds",top 68),("_law_book",top 69),("_law_spare",top 76),("_law_lessened",top 77),("_law_drawn",top 78),("_law_sum",top 71),("_law_rule_line",top 73),("_law_deed_line",top 74),("_law_otherwise",top 75),("refuse_unless",top 52),("is_letter",top 12),("is_name",top 14),("is_figure",top 13),("is_figures",top 15),("is_number",top 16),("number_of_figures",top 18),("number_of",top 17),("read_item",top 54),("end_of_piece",top 26),("may_stand",top 27)] ([("depth_by",top 28),("wanted_behind",top 29),("pieces_of",top 25),("times",top 34),("is_plain",top 36),("product",top 35),("added",top 33),("form_of_word",top 32),("reckoned",top 30),("read_sum",top 23),("read_line_sum",top 58),("read_rule",top 55),("read_changes",top 57),("read_deed",top 56),("read_part",top 53),("names_of",top 48),("take_line",top 51),("are_named",top 45),("are_rules",top 46),("are_deeds",top 47),("is_book",top 44),("value_of",top 24),("spare",top 59),("refuse_broken",top 43),("starts_of",top 49),("check_book",top 42),("read_book",top 50),("law",top 79)])),[("OpenSum","take_factor","OpenSum.take_factor",DL.clsStmt (top 31) 1),("OpenSum","whole","OpenSum.whole",DL.clsStmt (top 31) 3),("OpenSum","take_sign","OpenSum.take_sign",DL.clsStmt (top 31) 2)],[("OpenSum","OpenSum.__init__",DL.clsStmt (top 31) 0)],[("Broken","Broken.__init__",DL.clsStmt (top 6) 0)],⟨[],[],[],[],["NoBook"],bs,[("BEGINNING",.str "beginning"),("BEHIND",.str "behind"),("FACTOR",.str "factor"),("KINDS",.tup ["item","rule","deed"]),("MOST_DEEDS",.int 6),("MOST_ITEMS",.int 4),("MOST_RULES",.int 5),("NAME_LENGTH",.int 10),("PART_FIGURES",.int 18),("PART_SIZE",.int 1000000000000000000)],xcl,xat,xcs,xfs,"BookError"⟩⟩
def p0:=SI.PT.z (D:=D0)
section
open DL
def jhb:=(gSet 0 (f2 gFdiv (vR 0) (fI 2147483648)))
def ji7:=(gSeq (gIf (t2 gGe (vR 0) (f2 gPow (fI 10) (fI 12))) (gSeq (gSet 0 (f2 gSub (f2 gFdiv (vR 0) (f2 gPow (fI 10) (fI 12))) (fI 1)))
  (gSeq (gFor (iArgs rangeArgs (fA1 (f2 gMod (vR 1) (fI 61)))) (DL.gName 2) jhb)
  (gRet (f2 gMod (vR 0) (fI 2147483648))))) gNx)
  (gSeq (gSet 3 (f2 gMod (f2 gMul (f2 gCat (f2 gCat (f2 gMod (vR 0) (fI 2147483629)) (vR 1)) (fI 1)) (f2 gCat (f2 gMul (f2 gMul (fI 8) (vR 1)) (vR 1)) (fI 48271))) (fI 2147483647)))
  (gSeq (gSet 3 (f2 gMod (f2 gMul (vR 3) (vR 3)) (fI 2147483587)))
  (gRet (f2 gMod (f2 gMul (vR 3) (f2 gCat (vR 3) (fI 2))) (fI 2147483579))))))
def jci:=mir 2 4 ji7
def jep:=(D0.e 0 0 [] []).m p0.p
def jo7:SI.SimM jep jci:=SI.Df.sim (d:=(D0.e 0 0 [] [])) (p:=p0.p) (by kernel_rfl)
def p1:=p0.fs 0 0 [] [] ji7 2 4
def jlf:=(gSeq (gIf (t2 gLt (vR 1) (fL kLen (fA1 (vR 0)))) (gRet (f2 gIx (vR 0) (vR 1))) gNx)
  (gRet (f2 gCat (f2 gMul (fI 19) (vR 1)) (fI 8))))
def jcr:=mir 2 2 jlf
def jgz:=(D0.e 1 0 [] []).m p1.p
def jsb:SI.SimM jgz jcr:=SI.Df.sim (d:=(D0.e 1 0 [] [])) (p:=p1.p) (by kernel_rfl)
def p2:=p1.fs 1 0 [] [] jlf 2 2
def jmt:=(gSeq (gSet 1 (fCall jci (fA2 (fCall jcr (fA2 (vR 0) (fI 0))) (fI 1))))
  (gRet (fL gLstD (fA3 (f2 gCat (fI 1) (f2 gMod (vR 1) (fI 4))) (f2 gCat (fI 1) (f2 gMod (f2 gFdiv (vR 1) (fI 4)) (fI 5))) (f2 gCat (fI 1) (f2 gMod (f2 gFdiv (vR 1) (fI 20)) (fI 6)))))))
end
def jeo:=(D0.e 2 1 [] []).m p2.p
section
open SI
def jle:=(oSeq (oSet 1 (sL jep (sA2 (sL jgz (sA2 (sVar 0) (sI 0))) (sI 1))))
  (oRet (sL (gNew .lst) (sA3 (s2 gCatS (sI 1) (s2 (lO DL.gMod) (sVar 1) (sI 4))) (s2 gCatS (sI 1) (s2 (lO DL.gMod) (s2 (lO DL.gFdiv) (sVar 1) (sI 4)) (sI 5))) (s2 gCatS (sI 1) (s2 (lO DL.gMod) (s2 (lO DL.gFdiv) (sVar 1) (sI 20)) (sI 6)))))))
end
def jk5:jeo=SI.mirS 1 2 jle:=SI.Df.m_of (by kernel_rfl)
def p3:=p2.fs 2 1 [] [] jmt 1 2
section
open DL
def jhl:=(gRet (fCall jci (fA2 (fCall jcr (fA2 (vR 0) (f2 gCat (fI 1) (f2 gMod (vR 1) (fI 62))))) (f2 gCat (fI 100) (vR 1)))))
def jas:=mir 2 2 jhl
def p4:=p3.fs 3 1 [] [] jhl 2 2
def jf9:=(gSeq (gSet 2 (fL gLstD (fCons (fS "do") (fCons (fS "give") (fCons (fS "house") (fCons (fS "of") (fCons (fS "base") (fCons (fS "state") (fCons (fS "shares") (fA4 (fS "knows") (fS "item") (fS "rule") (fS "deed")))))))))))
  (gSeq (gIf (t2 gEq (f2 gMod (f2 gFdiv (vR 1) (fI 512)) (fI 8)) (fI 5)) (gRet (f2 gIx (vR 2) (f2 gMod (f2 gCat (f2 gFdiv (vR 1) (fI 4096)) (vR 0)) (fI 11)))) gNx)
  (gSeq (gIf (t2 gEq (f2 gMod (vR 1) (fI 2)) (fI 0)) (gRet (f2 gCat (f2 gMul (f2 gIx (fS "abcdefg") (vR 0)) (f2 gCat (fI 1) (f2 gMod (f2 gFdiv (vR 1) (fI 2)) (fI 9)))) (f2 gIx (fS "xyz") (f2 gMod (f2 gFdiv (vR 1) (fI 18)) (fI 3))))) gNx)
  (gSeq (gSet 3 (f2 gMod (f2 gFdiv (vR 1) (fI 2)) (fI 10)))
  (gRet (f2 gCat (f2 gCat (f2 gMul (fS "m") (vR 3)) (f2 gIx (fS "abcdefg") (vR 0))) (f2 gMul (fS "m") (f2 gSub (fI 9) (vR 3)))))))))
def jc8:=mir 2 4 jf9
def p5:=p4.fs 4 0 [] [] jf9 2 4
def jhm:=(gSeq (gSet 3 (fCall jas (fA2 (vR 0) (vR 1))))
  (gSeq (gIf (t2 gEq (f2 gMod (vR 3) (fI 8)) (fI 0)) (gRet (f2 gCat (f2 gSub (f2 gMod (fCall jcr (fA2 (vR 0) (f2 gCat (fI 1) (f2 gMod (vR 1) (fI 62))))) (f2 gSub (f2 gMul (fI 2) (vR 2)) (fI 1))) (vR 2)) (fI 1))) gNx)
  (gRet (f2 gSub (f2 gMod (f2 gFdiv (vR 3) (fI 8)) (fI 13)) (fI 6)))))
def ja4:=mir 3 4 jhm
def p6:=p5.fs 5 2 [] [] jhm 3 4
def jeh:=(fL gTupD (fA2 (fCall jc8 (fA2 (vR 0) (vR 3))) (fCall ja4 (fA3 (vR 1) (f2 gCat (fI 10) (vR 0)) (vR 2)))))
def jf8:=(gSeq (gSet 3 (fCall jas (fA2 (vR 0) (fI 1))))
  (gRet (fComp 1 [("_law_script",0),("_law_most",2),("_law_number",3)] (iArgs rangeArgs (fA1 (vR 1))) (DL.gName 0) tYes jeh)))
def jgi:=mir 3 4 jf8
def p7:=p6.fs 6 3 [] [] jf8 3 4
def jej:=(fCall ja4 (fA3 (vR 1) (f2 gCat (f2 gCat (fI 20) (f2 gMul (fI 5) (vR 3))) (vR 0)) (vR 2)))
def jed:=(gSet 7 (f2 gSub (vR 7) (f2 gMul (vR 8) (f2 gIx (vR 9) (fI 1)))))
def jee:=(gSeq (gSet 6 (fL kTuple (fA1 (fComp 1 [("_law_script",0),("_law_most",3),("_law_k",5)] (iArgs rangeArgs (fA1 (fL kLen (fA1 (vR 1))))) (DL.gName 0) tYes jej))))
  (gSeq (gSet 7 (f2 gMul (f2 gMod (fCall jas (fA2 (vR 0) (f2 gCat (fI 50) (vR 5)))) (fI 30)) (f2 gMod (fCall jas (fA2 (vR 0) (f2 gCat (fI 60) (vR 5)))) (fI 3))))
  (gSeq (gFor (iArgs zipArgs (fA2 (vR 6) (vR 1))) (gTup2 8 9) jed)
  (gApp 4 (fL gTupD (fA3 (fCall jc8 (fA2 (vR 5) (fCall jas (fA2 (vR 0) (fI 2))))) (vR 6) (vR 7)))))))
def jga:=(gSeq (gSet 4 (fL gLstD fNil))
  (gSeq (gFor (iArgs rangeArgs (fA1 (vR 2))) (DL.gName 5) jee)
  (gRet (vR 4))))
def jgj:=mir 4 10 jga
def p8:=p7.fs 7 3 [4] [] jga 4 10
def jdb:=(gSeq (gSet 8 (f2 gMod (fCall jas (fA2 (vR 0) (f2 gCat (f2 gCat (fI 80) (f2 gMul (fI 5) (vR 4))) (vR 7)))) (fI 3)))
  (gSeq (gSet 9 (f2 gMul (fCall ja4 (fA3 (vR 0) (f2 gCat (f2 gCat (fI 120) (f2 gMul (fI 5) (vR 4))) (vR 7)) (f2 gPow (fI 10) (fI 23)))) (fL kIntT (fA1 (f2 gNe (vR 8) (fI 1))))))
  (gApp 6 (fL gTupD (fA2 (vR 9) (f2 gMul (fCall ja4 (fA3 (vR 0) (f2 gCat (f2 gCat (fI 160) (f2 gMul (fI 5) (vR 4))) (vR 7)) (f2 gPow (fI 10) (fI 23)))) (fL kIntT (fA1 (f2 gEq (vR 8) (fI 2))))))))))
def jeb:=(gSeq (gSet 5 (fCall ja4 (fA3 (vR 0) (f2 gCat (fI 70) (vR 4)) (f2 gPow (fI 10) (fI 23)))))
  (gSeq (gSet 6 (fL gLstD fNil))
  (gSeq (gFor (iArgs rangeArgs (fA1 (fL kLen (fA1 (vR 1))))) (DL.gName 7) jdb)
  (gSeq (gSet 10 (f2 gCat (vR 5) (f2 gMod (fCall jas (fA2 (vR 0) (f2 gCat (fI 200) (vR 4)))) (fI 9))))
  (gApp 3 (fL gTupD (fA4 (fCall jc8 (fA2 (vR 4) (fCall jas (fA2 (vR 0) (fI 3))))) (vR 5) (vR 10) (fL kTuple (fA1 (vR 6))))))))))
def jf7:=(gSeq (gSet 3 (fL gLstD fNil))
  (gSeq (gFor (iArgs rangeArgs (fA1 (vR 2))) (DL.gName 4) jeb)
  (gRet (vR 3))))
def jgh:=mir 3 11 jf7
def p9:=p8.fs 8 3 [3,6] [] jf7 3 11
def jhk:=(gSeq (gSet 2 (f2 gMod (fCall jci (fA2 (fCall jcr (fA2 (vR 0) (fI 0))) (fI 2))) (fI 2)))
  (gSeq (gSet 3 (fCall jgi (fA3 (vR 0) (f2 gIx (vR 1) (fI 0)) (f2 gIx (fL gLstD (fA2 (fI 7) (f2 gPow (fI 10) (fI 23)))) (vR 2)))))
  (gRet (fL gTupD (fA3 (vR 3) (fCall jgj (fA4 (vR 0) (vR 3) (f2 gIx (vR 1) (fI 1)) (f2 gIx (fL gLstD (fA2 (f2 gPow (fI 10) (fI 23)) (fI 7))) (vR 2)))) (fCall jgh (fA3 (vR 0) (vR 3) (f2 gIx (vR 1) (fI 2)))))))))
def jfb:=mir 2 4 jhk
def jke:=(D0.e 9 4 [] []).m p9.p
def jni:SI.SimM jke jfb:=SI.Df.sim (d:=(D0.e 9 4 [] [])) (p:=p9.p) (by kernel_rfl)
def p10:=p9.fs 9 4 [] [] jhk 2 4
def jh1:=(f2 gMul (vR 0) (vR 1))
def jgb:=(gRet (f2 gCat (fL kSum (fA1 (fComp 2 [] (iArgs zipArgs (fA2 (f2 gIx (vR 0) (fI 1)) (vR 1))) (gTup2 0 1) tYes jh1))) (f2 gIx (vR 0) (fI 2))))
def jba:=mir 2 2 jgb
def jfy:=(D0.e 10 0 [] []).m p10.p
def jlq:SI.SimM jfy jba:=SI.Df.sim (d:=(D0.e 10 0 [] [])) (p:=p10.p) (by kernel_rfl)
def p11:=p10.fs 10 0 [] [] jgb 2 2
def jei:=(f2 gIx (vR 0) (fI 1))
def jec:=(gSeq (gSet 6 (f2 gIx (vR 5) (fI 2)))
  (gSeq (gIf (t2 gEq (f2 gMod (f2 gFdiv (vR 1) (f2 gIx (fL gLstD (fCons (fI 1) (fCons (fI 2) (fA4 (fI 4) (fI 8) (fI 16) (fI 32))))) (vR 4))) (fI 2)) (fI 1)) (gSet 6 (f2 gSub (f2 gSub (f2 gSub (vR 6) (fCall jba (fA2 (vR 5) (vR 3)))) (fI 1)) (f2 gMod (f2 gFdiv (vR 1) (fI 64)) (fI 3)))) gNx)
  (gApp 2 (fL gTupD (fA3 (f2 gIx (vR 5) (fI 0)) (f2 gIx (vR 5) (fI 1)) (vR 6))))))
def jdm:=(gSeq (gSet 2 (fL gLstD fNil))
  (gSeq (gSet 3 (fComp 1 [] (iSeqD (f2 gIx (vR 0) (fI 0))) (DL.gName 0) tYes jei))
  (gSeq (gFor (iArgs enumArgs (fA1 (f2 gIx (vR 0) (fI 1)))) (gTup2 4 5) jec)
  (gRet (fL gTupD (fA3 (f2 gIx (vR 0) (fI 0)) (vR 2) (f2 gIx (vR 0) (fI 2))))))))
def jdn:=mir 2 7 jdm
end
def jfo:=(D0.e 11 1 [2] []).m p11.p
def jif:SI.SimM jfo jdn:=SI.Df.sim (d:=(D0.e 11 1 [2] [])) (p:=p11.p) (by kernel_rfl)
def p12:=p11.fs 11 1 [2] [] jdm 2 7
section
open SI
def jn4:=(oSeq (oSet 2 (sL jeo (sA1 (sVar 0))))
  (oSeq (oSet 3 (s2 (lO DL.gMod) (sVar 1) (sI 16)))
  (oSeq (oIf (sT2 (lO DL.gLt) (sVar 3) (sI 3)) (jkb (sVar 2) (sVar 3) (s2 gSub (sL (gNew .lst) (sA3 (sI 5) (sI 6) (sI 7))) (sVar 3))) oNx)
  (oSeq (oSet 4 (sL jke (sA2 (sVar 0) (sVar 2))))
  (oSeq (oIf (sT2 (lO DL.gEq) (s2 (lO DL.gMod) (s2 (lO DL.gFdiv) (sVar 1) (sI 16)) (sI 4)) (sI 0)) (oSet 4 (sL jfo (sA2 (sVar 4) (sL jep (sA2 (sL jgz (sA2 (sVar 0) (sI 0))) (sI 14)))))) oNx)
  (oSeq (oIf (sT2 (lO DL.gEq) (sVar 3) (sI 3)) (oSeq (oSet 5 (s2 (lO DL.gMod) (s2 (lO DL.gFdiv) (sVar 1) (sI 64)) (sL kLen (sA1 (s2 gSub (sVar 4) (sI 2))))))
  (oSeq (oSet 6 (s2 gSub (s2 gSub (sVar 4) (sI 2)) (sVar 5)))
  (jkb (s2 gSub (sVar 4) (sI 2)) (sVar 5) (sL (gNew .tup) (sA4 (s2 gSub (sVar 6) (sI 0)) (s2 gCatS (s2 gSub (sVar 6) (sI 2)) (sI 1)) (s2 gSub (sVar 6) (sI 2)) (s2 gSub (sVar 6) (sI 3))))))) oNx)
  (oSeq (oIf (sT2 (lO DL.gEq) (sVar 3) (sI 4)) (oSet 4 (sL (gNew .tup) (sA3 (s2 gSub (sVar 4) (sI 0)) (s2 gSub (sVar 4) (sI 1)) (sL (gNew .lst) sNil)))) oNx)
  (oSeq (oIf (sT2 (lO DL.gEq) (sVar 3) (sI 5)) (oSet 4 (sL (gNew .tup) (sA3 (s2 gSub (sVar 4) (sI 0)) (sL (gNew .lst) sNil) (s2 gSub (sVar 4) (sI 2))))) oNx)
  (oRet (sL (gNew .tup) (sA2 (sVar 4) (s2 (lO DL.gLt) (sVar 3) (sI 6)))))))))))))
end
def jfx:=(D0.e 12 5 [] []).m p12.p
def jmi:jfx=SI.mirS 2 7 jn4:=SI.Df.m_of (by kernel_rfl)
def p13:=p12.fn 12 5 [] [] none
section
open DL
def je7:=(gSeq (gSet 5 (fL kStr (fA1 (fL kAbs (fA1 (vR 4))))))
  (gSeq (gIf (DL.tAnd (t2 gNe (vR 3) (fS "")) (t2 gEq (fL kAbs (fA1 (vR 4))) (fI 1))) (gSet 5 (vR 3)) (gIf (t2 gNe (vR 3) (fS "")) (gSet 5 (f2 gCat (f2 gCat (vR 5) (fS "*")) (vR 3))) gNx))
  (gIf (DL.tAnd (t2 gNe (vR 4) (fI 0)) (t2 gEq (vR 2) (fL gLstD fNil))) (gApp 2 (f2 gCat (f2 gMul (fS "-") (fL kIntT (fA1 (f2 gLt (vR 4) (fI 0))))) (vR 5))) (gIf (t2 gNe (vR 4) (fI 0)) (gApp 2 (f2 gCat (f2 gIx (fL gLstD (fA2 (fS " + ") (fS " - "))) (fL kIntT (fA1 (f2 gLt (vR 4) (fI 0))))) (vR 5))) gNx))))
def ji8:=(gSeq (gSet 2 (fL gLstD fNil))
  (gSeq (gFor (iArgs zipArgs (fA2 (f2 gCat (vR 0) (fL gLstD (fA1 (fS "")))) (f2 gCatE (f2 gIx (vR 1) (fI 0)) (fL gTupD (fA1 (f2 gIx (vR 1) (fI 1))))))) (gTup2 3 4) je7)
  (gRet (f2 gCat (fSm gJoin (fS "") (vR 2)) (f2 gMul (fS "0") (fL kIntT (fA1 (f2 gEq (vR 2) (fL gLstD fNil)))))))))
def jdq:=mir 2 6 ji8
def p14:=p13.fs 13 0 [2] [309055] ji8 2 6
def jck:=(f2 gSub (f2 gMod (f2 gFdiv (vR 1) (f2 gCat (vR 0) (fI 1))) (fI 5)) (fI 2))
def jd3:=(f2 gCat (vR 0) (vR 1))
def jc2:=(gSeq (gSet 3 (fL kTuple (fA1 (fComp 1 [("_law_number",2)] (iArgs rangeArgs (fA1 (fL kLen (fA1 (vR 0))))) (DL.gName 0) tYes jck))))
  (gSeq (gSet 4 (fL gTupD (fA2 (fL kTuple (fA1 (fComp 2 [] (iArgs zipArgs (fA2 (f2 gIx (vR 1) (fI 1)) (vR 3))) (gTup2 0 1) tYes jd3))) (f2 gCat (f2 gIx (vR 1) (fI 2)) (fI 7)))))
  (gSeq (gSet 5 (f2 gIx (fL gLstD (fA4 (fS ">=") (fS " >= ") (fS "  >=") (fS ">=   "))) (f2 gMod (f2 gFdiv (vR 2) (fI 64)) (fI 4))))
  (gSeq (gSet 6 (f2 gCat (f2 gCat (f2 gCat (fS "rule ") (f2 gIx (vR 1) (fI 0))) (fS ": ")) (f2 gMul (fS " ") (f2 gMod (f2 gFdiv (vR 2) (fI 256)) (fI 3)))))
  (gRet (f2 gCat (f2 gCat (f2 gCat (f2 gCat (f2 gCat (vR 6) (fCall jdq (fA2 (vR 0) (vR 4)))) (vR 5)) (fS "(")) (fCall jdq (fA2 (vR 0) (fL gTupD (fA2 (vR 3) (fI 7)))))) (fS ")")))))))
def jda:=mir 3 7 jc2
def p15:=p14.fs 14 1 [] [] jc2 3 7
def jbh:=(gIf (DL.tOr (t2 gNe (vR 6) (fL gTupD (fA2 (fI 0) (fI 0)))) (t2 gEq (f2 gMod (f2 gFdiv (vR 2) (fI 4)) (fI 2)) (fI 0))) (gApp 4 (f2 gCat (f2 gCat (f2 gCat (vR 5) (fS " ")) (f2 gMul (fS " ") (f2 gMod (f2 gFdiv (vR 2) (fI 8)) (fI 2)))) (fCall jdq (fA2 (fL gLstD (fA1 (vR 3))) (fL gTupD (fA2 (fL gTupD (fA1 (f2 gIx (vR 6) (fI 0)))) (f2 gIx (vR 6) (fI 1)))))))) gNx)
def jbv:=(gSeq (gSet 3 (f2 gIx (fL gLstD (fA4 (fS "n") (fS "k") (fS "abcdefghij") (f2 gIx (vR 0) (fI 0)))) (f2 gMod (vR 2) (fI 4))))
  (gSeq (gSet 4 (fL gLstD fNil))
  (gSeq (gFor (iArgs zipArgs (fA2 (vR 0) (f2 gIx (vR 1) (fI 3)))) (gTup2 5 6) jbh)
  (gSeq (gSet 7 (f2 gMod (f2 gFdiv (vR 2) (fI 16)) (f2 gCat (fL kLen (fA1 (vR 4))) (fI 1))))
  (gSeq (gSet 4 (f2 gCat (fSl (vR 4) (oSome (vR 7)) oNone) (fSl (vR 4) oNone (oSome (vR 7)))))
  (gSeq (gSet 8 (f2 gCat (f2 gCat (f2 gCat (f2 gCat (f2 gCat (f2 gCat (f2 gCat (f2 gCat (fS "deed ") (f2 gIx (vR 1) (fI 0))) (fS " ")) (vR 3)) (fS " ")) (fL kStr (fA1 (f2 gIx (vR 1) (fI 1))))) (fS " ")) (fL kStr (fA1 (f2 gIx (vR 1) (fI 2))))) (fS ": ")))
  (gRet (f2 gCat (f2 gCat (vR 8) (fSm gJoin (f2 gIx (fL gLstD (fA2 (fS ", ") (fS " , "))) (f2 gMod (f2 gFdiv (vR 2) (fI 128)) (fI 2))) (vR 4))) (f2 gMul (fS "-") (fL kIntT (fA1 (f2 gEq (vR 4) (fL gLstD fNil)))))))))))))
def jc7:=mir 3 9 jbv
def p16:=p15.fs 15 1 [4] [] jbv 3 9
def jd1:=(f2 gIx (vR 0) (fI 0))
def jd2:=(f2 gCat (f2 gCat (f2 gCat (fS "item ") (vR 0)) (fS " ")) (fL kStr (fA1 (vR 1))))
def jbi:=(fCall jda (fA3 (vR 3) (vR 1) (fCall jas (fA2 (vR 2) (f2 gCat (fI 230) (vR 0))))))
def jbj:=(fCall jc7 (fA3 (vR 3) (vR 1) (fCall jas (fA2 (vR 2) (f2 gCat (fI 240) (vR 0))))))
def jc1:=(gSeq (gSet 2 (fComp 1 [] (iSeqD (f2 gIx (vR 1) (fI 0))) (DL.gName 0) tYes jd1))
  (gSeq (gSet 3 (fComp 2 [] (iSeqD (f2 gIx (vR 1) (fI 0))) (gTup2 0 1) tYes jd2))
  (gSeq (gExt 3 (fComp 2 [("_law_script",0),("_law_names",2)] (iArgs enumArgs (fA1 (f2 gIx (vR 1) (fI 1)))) (gTup2 0 1) tYes jbi))
  (gSeq (gExt 3 (fComp 2 [("_law_script",0),("_law_names",2)] (iArgs enumArgs (fA1 (f2 gIx (vR 1) (fI 2)))) (gTup2 0 1) tYes jbj))
  (gRet (fSm gJoin (fS "\n") (vR 3)))))))
def jc9:=mir 2 4 jc1
def jeq:=(D0.e 16 2 [3] []).m p16.p
def jhw:SI.SimM jeq jc9:=SI.Df.sim (d:=(D0.e 16 2 [3] [])) (p:=p16.p) (by kernel_rfl)
def p17:=p16.fs 16 2 [3] [] jc1 2 4
def jey:=(gIf (DL.tNot (tTru (vR 0))) gNever gNx)
def jam:=mir 2 2 jey
def ja8:=(D0.e 17 0 [] []).m p17.p
def jbc:SI.SimM ja8 jam:=SI.Df.sim (d:=(D0.e 17 0 [] [])) (p:=p17.p) (by kernel_rfl)
def p18:=p17.fs 17 0 [] [] jey 2 2
def jf6:=(gRet (fChain gLe gLe (fS "a") (vR 0) (fS "z")))
def jaq:=mir 1 1 jf6
def p19:=p18.fs 18 0 [] [] jf6 1 1
def jhc:=(fCall jaq (fA1 (vR 0)))
def jg2:=(gRet (fAnd (fChain gLe gLe (fI 1) (fL kLen (fA1 (vR 0))) (fI 10)) (fL kAll (fA1 (fComp 1 [] (iTxtD (vR 0)) (DL.gName 0) tYes jhc)))))
def jbx:=mir 1 1 jg2
def p20:=p19.fs 19 1 [] [36078] jg2 1 1
def jf5:=(gRet (fChain gLe gLe (fS "0") (vR 0) (fS "9")))
def ja9:=mir 1 1 jf5
def p21:=p20.fs 20 0 [] [] jf5 1 1
def jbt:=(fCall ja9 (fA1 (vR 0)))
def jdg:=(gSeq (gIf (DL.tOr (t2 gEq (vR 0) (fS "")) (DL.tNot (tTru (fL kAll (fA1 (fComp 1 [] (iTxtD (vR 0)) (DL.gName 0) tYes jbt)))))) (gRet (fC (.bl false))) gNx)
  (gRet (fOr (f2 gEq (vR 0) (fS "0")) (f1 gNot (fSm gStarts (vR 0) (fS "0"))))))
def jdh:=mir 1 1 jdg
def p22:=p21.fs 21 1 [] [38058] jdg 1 1
def jdv:=(gSeq (gIf (tTru (fSm gStarts (vR 0) (fS "-"))) (gRet (fAnd (f2 gNe (vR 0) (fS "-0")) (fCall jdh (fA1 (fSl (vR 0) (oSome (fI 1)) oNone))))) gNx)
  (gRet (fCall jdh (fA1 (vR 0)))))
def jb3:=mir 1 1 jdv
def p23:=p22.fs 22 2 [] [] jdv 1 1
def jbf:=(gSet 2 (f2 gCat (f2 gMul (vR 2) (fI 1000000000000000000)) (fL kIntT (fA1 (fSl (vR 0) (oSome (vR 3)) (oSome (f2 gCat (vR 3) (fI 18))))))))
def jaz:=(gSeq (gSet 1 (f2 gMod (fL kLen (fA1 (vR 0))) (fI 18)))
  (gSeq (gSet 2 (fIf (t2 gEq (vR 1) (fI 0)) (fI 0) (fL kIntT (fA1 (fSl (vR 0) oNone (oSome (vR 1)))))))
  (gSeq (gFor (iArgs rangeArgs3 (fA3 (vR 1) (fL kLen (fA1 (vR 0))) (fI 18))) (DL.gName 3) jbf)
  (gRet (vR 2)))))
def jbl:=mir 1 4 jaz
def p24:=p23.fs 23 0 [] [] jaz 1 4
def jb2:=(gSeq (gIf (tTru (fSm gStarts (vR 0) (fS "-"))) (gRet (f1 gNeg (fCall jbl (fA1 (fSl (vR 0) (oSome (fI 1)) oNone))))) gNx)
  (gRet (fCall jbl (fA1 (vR 0)))))
def ja1:=mir 1 1 jb2
def p25:=p24.fs 24 1 [] [] jb2 1 1
def jgc:=(gSeq (gSet 2 (fSm gSplit (vR 0) (fS " ")))
  (gSeq (gDrop (fCall jam (fA2 (fAnd (f2 gEq (fL kLen (fA1 (vR 2))) (fI 2)) (fAnd (fCall jbx (fA1 (f2 gIx (vR 2) (fI 0)))) (fCall jb3 (fA1 (f2 gIx (vR 2) (fI 1)))))) (vR 1))))
  (gRet (fL gTupD (fA2 (f2 gIx (vR 2) (fI 0)) (fCall ja1 (fA1 (f2 gIx (vR 2) (fI 1)))))))))
def jdz:=mir 2 3 jgc
def p26:=p25.fs 25 3 [] [] jgc 2 3
def jan:DSt->M Bool:=(DL.tAnd (t2 gLt (vR 2) (fL kLen (fCons (vR 0) fNil))) (DL.tAnd (tTru (fCall jaq (fCons (f2 gIx (vR 0) (vR 2)) fNil))) (t2 gLt (f2 gSub (vR 2) (vR 1)) (fC (.int 10)))))
def jbr:=(gAug 2 gAdd (fI 1))
def jap:DSt->M Bool:=(DL.tAnd (t2 gLt (vR 2) (fL kLen (fCons (vR 0) fNil))) (tTru (fCall ja9 (fCons (f2 gIx (vR 0) (vR 2)) fNil))))
def jbs:=(gAug 2 gAdd (fI 1))
def jb7:=(gSeq (gSet 2 (f2 gCat (vR 1) (fI 1)))
  (gSeq (gIf (tTru (fCall jaq (fA1 (f2 gIx (vR 0) (vR 1))))) (whileD jan jbr FUEL) (gIf (DL.tAnd (tTru (fCall ja9 (fA1 (f2 gIx (vR 0) (vR 1))))) (t2 gNe (f2 gIx (vR 0) (vR 1)) (fS "0"))) (whileD jap jbs FUEL) gNx))
  (gRet (vR 2))))
def jca:=mir 2 3 jb7
def p27:=p26.fs 26 1 [] [] jb7 2 3
def jc3:=(gSeq (gIf (t2 gEq (vR 1) (fS "behind")) (gRet (fOr (f2 gIn (vR 0) (fL gTupD (fA3 (fS "+") (fS "-") (fS "*")))) (fAnd (f2 gEq (vR 0) (fS ")")) (f2 gGt (vR 2) (fI 0))))) gNx)
  (gSeq (gIf (t2 gEq (vR 0) (fS "-")) (gRet (f2 gEq (vR 1) (fS "beginning"))) gNx)
  (gRet (fOr (f2 gEq (vR 0) (fS "(")) (fOr (fCall jaq (fA1 (vR 0))) (fCall ja9 (fA1 (vR 0))))))))
def jak:=mir 3 3 jc3
def p28:=p27.fs 27 1 [] [] jc3 3 3
def jhi:=(gSeq (gIf (t2 gEq (vR 0) (fS "(")) (gRet (fI 1)) gNx)
  (gRet (fIf (t2 gEq (vR 0) (fS ")")) (f1 gNeg (fI 1)) (fI 0))))
def je9:=mir 1 1 jhi
def p29:=p28.fs 28 0 [] [] jhi 1 1
def jc4:=(gSeq (gIf (t2 gEq (vR 0) (fS "(")) (gRet (fS "beginning")) gNx)
  (gRet (fIf (t2 gIn (vR 0) (fL gTupD (fA3 (fS "+") (fS "-") (fS "*")))) (fS "factor") (fS "behind"))))
def jbz:=mir 1 1 jc4
def p30:=p29.fs 29 0 [] [] jc4 1 1
def jao:DSt->M Bool:=(t2 gLt (vR 4) (fL kLen (fCons (vR 0) fNil)))
def jal:=(gSeq (gSet 5 (fCall jca (fA2 (vR 0) (vR 4))))
  (gSeq (gSet 6 (fSl (vR 0) (oSome (vR 4)) (oSome (vR 5))))
  (gSeq (gIf (t2 gNe (vR 6) (fS " ")) (gSeq (gIf (DL.tNot (tTru (fCall jak (fA3 (f2 gIx (vR 6) (fI 0)) (vR 3) (vR 2))))) gNever gNx)
  (gSeq (gApp 1 (fL gTupD (fA2 (vR 6) (vR 4))))
  (gSeq (gAug 2 gAdd (fCall je9 (fA1 (vR 6))))
  (gSet 3 (fCall jbz (fA1 (vR 6))))))) gNx)
  (gSet 4 (vR 5)))))
def ji9:=(gSeq (gSet 1 (fL gLstD fNil))
  (gSeq (gSet 2 (fI 0))
  (gSeq (gSet 3 (fS "beginning"))
  (gSeq (gSet 4 (fI 0))
  (gSeq (whileD jao jal FUEL)
  (gSeq (gIf (DL.tOr (t2 gNe (vR 3) (fS "behind")) (t2 gGt (vR 2) (fI 0))) gNever gNx)
  (gRet (vR 1))))))))
def jgk:=mir 1 7 ji9
end
def p31:=p30.fs 30 2 [1] [] ji9 1 7
section
open SI
def jid:=(oSeq (oFld xcl "total" (sVar 0) (sL (gNew .tup) (sA2 (sL kTup (sA1 (s2 gMulS (sL (gNew .lst) (sA1 (sI 0))) (sVar 1)))) (sI 0))))
  (oSeq (oFld xcl "term" (sVar 0) (s1 (jj7 xcl "total") (sVar 0)))
  (oSeq (oFld xcl "term_sign" (sVar 0) (sI 1))
  (oFld xcl "star" (sVar 0) (sC .non)))))
end
def ja2:=(SI.Df.mk (SI.Ds.ia D0.i 0).2.2 0 [] []).m p31.p
def jhf:ja2=SI.mirS 2 2 jid:=SI.Df.m_of (by kernel_rfl)
def p32:=p31.ini 0 0 [] []
section
open DL
def jkz:=(f2 gMul (vR 0) (vR 1))
def jn8:=(gRet (fL gTupD (fA2 (fL kTuple (fA1 (fComp 1 [("number",1)] (iSeqD (f2 gIx (vR 0) (fI 0))) (DL.gName 0) tYes jkz))) (f2 gMul (f2 gIx (vR 0) (fI 1)) (vR 1)))))
def jjk:=mir 2 2 jn8
def jto:=(D0.e 31 0 [] []).m p32.p
def jv9:SI.SimM jto jjk:=SI.Df.sim (d:=(D0.e 31 0 [] [])) (p:=p32.p) (by kernel_rfl)
def p33:=p32.fs 31 0 [] [] jn8 2 2
def jis:=(f2 gEq (vR 0) (fI 0))
def jhj:=(gRet (fL kAll (fA1 (fComp 1 [] (iSeqD (f2 gIx (vR 0) (fI 0))) (DL.gName 0) tYes jis))))
def jfa:=mir 1 1 jhj
def p34:=p33.fs 32 0 [] [] jhj 1 1
def jja:=(gSeq (gIf (tTru (fCall jfa (fA1 (vR 1)))) (gRet (fCall jjk (fA2 (vR 0) (f2 gIx (vR 1) (fI 1))))) gNx)
  (gSeq (gIf (tTru (fCall jfa (fA1 (vR 0)))) (gRet (fCall jjk (fA2 (vR 1) (f2 gIx (vR 0) (fI 1))))) gNx)
  gNever))
def jjj:=mir 3 3 jja
end
def jmh:=(D0.e 33 1 [] []).m p34.p
def jo8:SI.SimM jmh jjj:=SI.Df.sim (d:=(D0.e 33 1 [] [])) (p:=p34.p) (by kernel_rfl)
def p35:=p34.fs 33 1 [] [] jja 3 3
section
open SI
def jew:=(oIf (sT2 (gIsS true) (s1 (jj7 xcl "star") (sVar 0)) (sC .non)) (oFld xcl "term" (sVar 0) (sL jto (sA2 (sVar 1) (s1 (jj7 xcl "term_sign") (sVar 0))))) (oFld xcl "term" (sVar 0) (sL jmh (sA3 (s1 (jj7 xcl "term") (sVar 0)) (sVar 1) (s1 (jj7 xcl "star") (sVar 0))))))
end
def jcd:=(SI.Df.mk (D0.ma 0).2.2.2 2 [] []).m p35.p
def jd7:jcd=SI.mirS 2 2 jew:=SI.Df.m_of (by kernel_rfl)
def p36:=p35.mt 0 2 [] []
section
open DL
def jpl:=(f2 gCat (vR 0) (vR 1))
def jn3:=(gRet (fL gTupD (fA2 (fL kTuple (fA1 (fComp 2 [] (iArgs zipArgs (fA2 (f2 gIx (vR 0) (fI 0)) (f2 gIx (vR 1) (fI 0)))) (gTup2 0 1) tYes jpl))) (f2 gCat (f2 gIx (vR 0) (fI 1)) (f2 gIx (vR 1) (fI 1))))))
def jok:=mir 2 2 jn3
end
def jtk:=(D0.e 34 0 [] []).m p36.p
def jv7:SI.SimM jtk jok:=SI.Df.sim (d:=(D0.e 34 0 [] [])) (p:=p36.p) (by kernel_rfl)
def p37:=p36.fs 34 0 [] [] jn3 2 2
section
open SI
def ji6:=(oRet (sL jtk (sA2 (s1 (jj7 xcl "total") (sVar 0)) (s1 (jj7 xcl "term") (sVar 0)))))
def jen:=(SI.Df.mk (D0.ma 1).2.2.2 1 [] []).m p37.p
def jic:jen=SI.mirS 1 1 ji6:=SI.Df.m_of (by kernel_rfl)
def p38:=p37.mt 1 1 [] []
def jf1:=(oIf (sT2 (lO DL.gEq) (sVar 1) (sS "*")) (oFld xcl "star" (sVar 0) (sVar 2)) (oSeq (oFld xcl "total" (sVar 0) (je4 p38.p.ms "whole" (sVar 0) sNil))
  (oSeq (oFld xcl "term_sign" (sVar 0) (sIf (sT2 (lO DL.gEq) (sVar 1) (sS "-")) (s1 (lU DL.gNeg) (sI 1)) (sI 1)))
  (oFld xcl "star" (sVar 0) (sC .non)))))
end
def jcz:=(SI.Df.mk (D0.ma 2).2.2.2 2 [] []).m p38.p
def jfi:jcz=SI.mirS 3 3 jf1:=SI.Df.m_of (by kernel_rfl)
def p39:=p38.mt 2 2 [] []
section
open DL
def jcx:=(fIf (t2 gEq (vR 0) (vR 1)) (fI 1) (fI 0))
def jb8:=(gSeq (gIf (tTru (fCall jaq (fA1 (f2 gIx (vR 1) (fI 0))))) (gRet (fL gTupD (fA2 (fL kTuple (fA1 (fComp 1 [("word",1)] (iSeqD (vR 0)) (DL.gName 0) tYes jcx))) (fI 0)))) gNx)
  (gRet (fL gTupD (fA2 (fL kTuple (fA1 (fRep (fA1 (fI 0)) (fL kLen (fA1 (vR 0)))))) (fCall ja1 (fA1 (vR 1)))))))
def jcb:=mir 2 2 jb8
end
def jfn:=(D0.e 35 2 [] []).m p39.p
def jie:SI.SimM jfn jcb:=SI.Df.sim (d:=(D0.e 35 2 [] [])) (p:=p39.p) (by kernel_rfl)
def p40:=p39.fs 35 2 [] [] jb8 2 2
section
open SI
def jbk:=(oIf (sT2 (lO DL.gEq) (sVar 3) (sS "(")) (jct (sMt mApp (sVar 2) (sA1 (jr8 "OpenSum" ja2 (sA1 (sL kLen (sA1 (sVar 0)))))))) (oIf (sT2 (lO DL.gEq) (sVar 3) (sS ")")) (oSeq (oSet 5 (sMt0 mPop (sVar 2)))
  (jct (je4 p40.p.ms "take_factor" (s2 gSub (sVar 2) (s1 (lU DL.gNeg) (sI 1))) (sA1 (je4 p40.p.ms "whole" (sVar 5) sNil))))) (oIf (sT2 (lO DL.gIn) (sVar 3) (sL (gNew .tup) (sA3 (sS "+") (sS "-") (sS "*")))) (jct (je4 p40.p.ms "take_sign" (s2 gSub (sVar 2) (s1 (lU DL.gNeg) (sI 1))) (sA2 (sVar 3) (sVar 4)))) (jct (je4 p40.p.ms "take_factor" (s2 gSub (sVar 2) (s1 (lU DL.gNeg) (sI 1))) (sA1 (sL jfn (sA2 (sVar 0) (sVar 3)))))))))
def jrq:=(oSeq (oSet 2 (sL (gNew .lst) (sA1 (jr8 "OpenSum" ja2 (sA1 (sL kLen (sA1 (sVar 0))))))))
  (oSeq (jka (iSq (sVar 1)) (tTup [3,4]) jbk)
  (oRet (je4 p40.p.ms "whole" (s2 gSub (sVar 2) (sI 0)) sNil))))
end
def jhe:=(D0.e 36 3 [] []).m p40.p
def jny:jhe=SI.mirS 2 6 jrq:=SI.Df.m_of (by kernel_rfl)
abbrev jfd:=SI.pu jhe
def p41:=p40.fn 36 3 [] [] (some ⟨SI.pu jhe,SI.sim_pu⟩)
section
open DL
def jfw:=(gIf (DL.tAnd (tTru (fCall jaq (fA1 (f2 gIx (vR 3) (fI 0))))) (t2 gNotIn (vR 3) (vR 0))) gNever gNx)
def jki:=(gSeq (gSet 2 (fCall jgk (fA1 (vR 1))))
  (gSeq (gFor (iSeqD (vR 2)) (gTup2 3 4) jfw)
  (gRet (fCall jfd (fA2 (vR 0) (vR 2))))))
def jfc:=mir 2 5 jki
def p42:=p41.fs 37 4 [] [] jki 2 5
def jex:=(SI.gNoE (gRet (fCall jfc (fA2 (vR 0) (vR 1)))))
def jby:=mir 3 3 jex
def jes:=(D0.e 38 5 [] []).m p42.p
def jhx:SI.SimM jes jby:=SI.Df.sim (d:=(D0.e 38 5 [] [])) (p:=p42.p) (by kernel_rfl)
def p43:=p42.fs 38 5 [] [] jex 3 3
def jek:=(f2 gSub (vR 0) (vR 1))
def jdx:=(gSeq (gSet 3 (fSm gPart (vR 1) (fS ": ")))
  (gSeq (gDrop (fCall jam (fA2 (fCall jbx (fA1 (f2 gIx (vR 3) (fI 0)))) (vR 2))))
  (gSeq (gSet 4 (fSm gPart (f2 gIx (vR 3) (fI 2)) (fS ">=")))
  (gSeq (gSet 5 (fCall jby (fA3 (vR 0) (f2 gIx (vR 4) (fI 0)) (vR 2))))
  (gSeq (gSet 6 (fCall jby (fA3 (vR 0) (f2 gIx (vR 4) (fI 2)) (vR 2))))
  (gSeq (gSet 7 (fL kTuple (fA1 (fComp 2 [] (iArgs zipArgs (fA2 (f2 gIx (vR 5) (fI 0)) (f2 gIx (vR 6) (fI 0)))) (gTup2 0 1) tYes jek))))
  (gRet (fL gTupD (fA3 (f2 gIx (vR 3) (fI 0)) (vR 7) (f2 gSub (f2 gIx (vR 5) (fI 1)) (f2 gIx (vR 6) (fI 1))))))))))))
def jgm:=mir 3 8 jdx
end
def p44:=p43.fs 39 6 [] [] jdx 3 8
section
open SI
def jcw:=(oSeq (oSet 7 (sSm gPartS (sVar 6) (sS " ")))
  (oSeq (jct (sL ja8 (sA2 (jo1 (s2 (gInA false) (s2 gSub (sVar 7) (sI 0)) (sVar 0)) (s2 (gInA true) (s2 gSub (sVar 7) (sI 0)) (sVar 4))) (sVar 3))))
  (oSeq (oSet 8 (sL jes (sA3 (sL (gNew .lst) (sA1 (sVar 1))) (s2 gSub (sVar 7) (sI 2)) (sVar 3))))
  (jkb (sVar 4) (s2 gSub (sVar 7) (sI 0)) (sL (gNew .tup) (sA2 (s2 gSub (s2 gSub (sVar 8) (sI 0)) (sI 0)) (s2 gSub (sVar 8) (sI 1))))))))
def jel:=(jqz (sVar 1) (sVar 0) (sL (gNew .tup) (sA2 (sI 0) (sI 0))))
def jj8:=(oSeq (oSet 4 (jzp false))
  (oSeq (oSet 5 (sIf (sT2 (lO DL.gEq) (sVar 2) (sS "-")) (sL (gNew .lst) sNil) (sSm gSplitS (sVar 2) (sS ", "))))
  (oSeq (jka (iSq (sVar 5)) (jhz 6) jcw)
  (oRet (sL kTup (sA1 (sCmp 1 [("found",4)] (iSq (sVar 0)) (jhz 0) sYes jel)))))))
end
def jdk:=(D0.e 40 6 [] []).m p44.p
def ji1:jdk=SI.mirS 4 9 jj8:=SI.Df.m_of (by kernel_rfl)
abbrev jft:=SI.pu jdk
def p45:=p44.fn 40 6 [] [] (some ⟨SI.pu jdk,SI.sim_pu⟩)
section
open DL
def jdw:=(gSeq (gSet 3 (fSm gPart (vR 1) (fS ": ")))
  (gSeq (gSet 4 (fSm gSplit (f2 gIx (vR 3) (fI 0)) (fS " ")))
  (gSeq (gDrop (fCall jam (fA2 (fAnd (f2 gEq (fL kLen (fA1 (vR 4))) (fI 4)) (fAnd (fCall jbx (fA1 (f2 gIx (vR 4) (fI 0)))) (fCall jbx (fA1 (f2 gIx (vR 4) (fI 1)))))) (vR 2))))
  (gSeq (gDrop (fCall jam (fA2 (fAnd (fCall jb3 (fA1 (f2 gIx (vR 4) (fI 2)))) (fCall jb3 (fA1 (f2 gIx (vR 4) (fI 3))))) (vR 2))))
  (gSeq (gSet 5 (fCall jft (fA4 (vR 0) (f2 gIx (vR 4) (fI 1)) (f2 gIx (vR 3) (fI 2)) (vR 2))))
  (gRet (fL gTupD (fA4 (f2 gIx (vR 4) (fI 0)) (fCall ja1 (fA1 (f2 gIx (vR 4) (fI 2)))) (fCall ja1 (fA1 (f2 gIx (vR 4) (fI 3)))) (vR 5)))))))))
def jgl:=mir 3 6 jdw
def p46:=p45.fs 41 7 [] [] jdw 3 6
def jjb:=(gSeq (gIf (t2 gEq (vR 1) (fI 0)) (gRet (fCall jdz (fA2 (vR 2) (vR 3)))) gNx)
  (gSeq (gIf (t2 gEq (vR 1) (fI 1)) (gRet (fCall jgm (fA3 (vR 0) (vR 2) (vR 3)))) gNx)
  (gRet (fCall jgl (fA3 (vR 0) (vR 2) (vR 3))))))
def jb4:=mir 4 4 jjb
def jiz:=(D0.e 42 8 [] []).m p46.p
def jlr:SI.SimM jiz jb4:=SI.Df.sim (d:=(D0.e 42 8 [] [])) (p:=p46.p) (by kernel_rfl)
def p47:=p46.fs 42 8 [] [] jjb 4 4
def jds:=(f2 gIx (vR 0) (fI 0))
def je8:=(gRet (fComp 1 [] (iSeqD (vR 0)) (DL.gName 0) tYes jds))
def jcu:=mir 1 1 je8
end
def jhd:=(D0.e 43 0 [] []).m p47.p
def jh8:SI.SimM jhd jcu:=SI.Df.sim (d:=(D0.e 43 0 [] [])) (p:=p47.p) (by kernel_rfl)
def p48:=p47.fs 43 0 [] [] je8 1 1
section
open SI
def jh3:=(s2 (lO DL.gEq) (sVar 0) (sL (gNew .lst) sNil))
def jn7:=(oSeq (oSet 3 (sSm gPartS (sVar 1) (sS " ")))
  (oSeq (jct (sL ja8 (sA2 (s1 (lU λy=>DL.gIn y (.tup ((["item","rule","deed"]:Ab).map .str))) (s2 gSub (sVar 3) (sI 0))) (sVar 2))))
  (oSeq (oSet 4 (s1 (jDu ["item","rule","deed"]) (s2 gSub (sVar 3) (sI 0))))
  (oSeq (jct (sL ja8 (sA2 (sL (lC DL.kAll) (sA1 (sCmp 1 [] (iSq (sSl (sVar 0) (sPa (s2 gCatS (sVar 4) (sI 1))) sNo)) (jhz 0) sYes jh3))) (sVar 2))))
  (oSeq (oSet 5 (sL jiz (sA4 (sL jhd (sA1 (s2 gSub (sVar 0) (sI 0)))) (sVar 4) (s2 gSub (sVar 3) (sI 2)) (sVar 2))))
  (oSeq (jct (sL ja8 (sA2 (s2 (gInA true) (s2 gSub (sVar 5) (sI 0)) (sL jhd (sA1 (s2 gSub (sVar 0) (sVar 4))))) (sVar 2))))
  (jct (sMt mApp (s2 gSub (sVar 0) (sVar 4)) (sA1 (sVar 5))))))))))
end
def jfz:=(D0.e 44 9 [] []).m p48.p
def jmj:jfz=SI.mirS 3 6 jn7:=SI.Df.m_of (by kernel_rfl)
def p49:=p48.fn 44 9 [] [] none
section
open DL
def jdc:=(fCall jbx (fA1 (vR 0)))
def jf3:=(gSeq (gSet 2 (fCall jcu (fA1 (vR 0))))
  (gRet (fAnd (fChain gLe gLe (fI 1) (fL kLen (fA1 (vR 2))) (vR 1)) (fAnd (fL kAll (fA1 (fComp 1 [] (iSeqD (vR 2)) (DL.gName 0) tYes jdc))) (f2 gEq (f1 gLenS (vR 2)) (fL kLen (fA1 (vR 2))))))))
def jc6:=mir 2 3 jf3
def p50:=p49.fs 45 2 [] [] jf3 2 3
def jdd:=(f2 gEq (fL kLen (fA1 (f2 gIx (vR 0) (fI 1)))) (vR 1))
def jf4:=(gSeq (gSet 1 (fL kLen (fA1 (f2 gIx (vR 0) (fI 0)))))
  (gRet (fAnd (fCall jc6 (fA2 (f2 gIx (vR 0) (fI 1)) (fI 5))) (fL kAll (fA1 (fComp 1 [("width",1)] (iSeqD (f2 gIx (vR 0) (fI 1))) (DL.gName 0) tYes jdd))))))
def jgg:=mir 1 2 jf4
def p51:=p50.fs 46 3 [] [] jf4 1 2
def jeg:=(fAnd (f2 gEq (fL kLen (fA1 (f2 gIx (vR 0) (fI 3)))) (vR 1)) (f2 gLe (f2 gIx (vR 0) (fI 1)) (f2 gIx (vR 0) (fI 2))))
def jf2:=(gSeq (gSet 1 (fL kLen (fA1 (f2 gIx (vR 0) (fI 0)))))
  (gRet (fAnd (fCall jc6 (fA2 (f2 gIx (vR 0) (fI 2)) (fI 6))) (fL kAll (fA1 (fComp 1 [("width",1)] (iSeqD (f2 gIx (vR 0) (fI 2))) (DL.gName 0) tYes jeg))))))
def jgf:=mir 1 2 jf2
def p52:=p51.fs 47 3 [] [] jf2 1 2
def jms:=(gRet (fAnd (fCall jc6 (fA2 (f2 gIx (vR 0) (fI 0)) (fI 4))) (fAnd (fCall jgg (fA1 (vR 0))) (fCall jgf (fA1 (vR 0))))))
def jch:=mir 1 1 jms
def jiy:=(D0.e 48 4 [] []).m p52.p
def jo6:SI.SimM jiy jch:=SI.Df.sim (d:=(D0.e 48 4 [] [])) (p:=p52.p) (by kernel_rfl)
def p53:=p52.fs 48 4 [] [] jms 1 1
def jit:=(f2 gMul (vR 0) (vR 1))
def jhn:=(gRet (f2 gCat (fL kSum (fA1 (fComp 2 [] (iArgs zipArgs (fA2 (f2 gIx (vR 0) (fI 0)) (vR 1))) (gTup2 0 1) tYes jit))) (f2 gIx (vR 0) (fI 1))))
def jhq:=mir 2 2 jhn
def p54:=p53.fs 49 0 [] [] jhn 2 2
def jn6:=(gRet (fCall jhq (fA2 (fL gTupD (fA2 (f2 gIx (f2 gIx (f2 gIx (vR 0) (fI 1)) (vR 1)) (fI 1)) (f2 gIx (f2 gIx (f2 gIx (vR 0) (fI 1)) (vR 1)) (fI 2)))) (vR 2))))
def jol:=mir 3 3 jn6
end
def jnw:=(D0.e 50 1 [] []).m p54.p
def jv8:SI.SimM jnw jol:=SI.Df.sim (d:=(D0.e 50 1 [] [])) (p:=p54.p) (by kernel_rfl)
def p55:=p54.fs 50 1 [] [] jn6 3 3
section
open SI
def ji5:=(jys xcs "name" (sVar 0) (sVar 1))
def jcy:=(SI.Df.mk (SI.Ds.ia D0.x 0).2.2 0 [] []).m p55.p
def jib:jcy=SI.mirS 2 2 ji5:=SI.Df.m_of (by kernel_rfl)
def p56:=p55.xini 0 0 [] []
def jcj:=(oIf (sT2 (lO DL.gLt) (sL jnw (sA3 (sVar 0) (sVar 2) (sVar 1))) (sI 0)) (jna xcs (jq0 "Broken" jcy (sA1 (s2 gSub (sVar 3) (sI 0))))) oNx)
def jjc:=(jka (iEnS true (sA1 (s2 gSub (sVar 0) (sI 1)))) (tTup [2,3]) jcj)
end
def jet:=(D0.e 51 2 [] []).m p56.p
def jd4:jet=SI.mirS 2 4 jjc:=SI.Df.m_of (by kernel_rfl)
def p57:=p56.fn 51 2 [] [] none
section
open DL
def jh2:=(f2 gIx (vR 0) (fI 1))
def jgd:=(gRet (fL kTuple (fA1 (fComp 1 [] (iSeqD (f2 gIx (vR 0) (fI 0))) (DL.gName 0) tYes jh2))))
def jgn:=mir 1 1 jgd
end
def ji0:=(D0.e 52 0 [] []).m p57.p
def jg7:SI.SimM ji0 jgn:=SI.Df.sim (d:=(D0.e 52 0 [] [])) (p:=p57.p) (by kernel_rfl)
def p58:=p57.fs 52 0 [] [] jgd 1 1
section
open SI
def jmr:=(oSeq (oIf (sNot (sTru (sL jiy (sA1 (sVar 0))))) (jna xcs (sXNew "NoBook")) oNx)
  (jct (sL jet (sA2 (sVar 0) (sL ji0 (sA1 (sVar 0)))))))
def jce:=(D0.e 53 5 [] []).m p58.p
def jdt:jce=SI.mirS 1 1 jmr:=SI.Df.m_of (by kernel_rfl)
def p59:=p58.fn 53 5 [] [] none
def jcc:=(jct (sL jfz (sA3 (sVar 1) (sVar 3) (sVar 2))))
def jn5:=(oSeq (oSet 1 (sL (gNew .tup) (sA3 (sL (gNew .lst) sNil) (sL (gNew .lst) sNil) (sL (gNew .lst) sNil))))
  (oSeq (jka (iEnS true (sA1 (sSm gSplitS (sVar 0) (sS "\n")))) (tTup [2,3]) jcc)
  (oSeq (jct (sL jce (sA1 (sVar 1))))
  (oRet (sVar 1)))))
def jc0:=(D0.e 54 10 [] []).m p59.p
def jeu:jc0=SI.mirS 1 4 jn5:=SI.Df.m_of (by kernel_rfl)
def p60:=p59.fn 54 10 [] [] none
def jA0:=(s2 gSub (sVar 0) (sI 1))
def jA1:=(s2 gSub (sVar 0) (sI 0))
def jOu:=(oSeq (oSet 1 (sL jep (sA2 (sL jgz (sA2 (sVar 0) (sI 0))) (sI 13))))
  (oSeq (oAsg (tTup [2,3]) (sL jfx (sA2 (sVar 0) (sVar 1))))
  (oSeq (oSet 4 (sL jeq (sA2 (sVar 0) (sVar 2))))
  (oSeq (oIf (sT2 (lO DL.gEq) (s2 (lO DL.gMod) (sVar 1) (sI 32)) (sI 31)) (oSeq (oSet 4 (sS "rule a: 0 >= 0\ndeed a n 0 1: -"))
  (oSet 3 (sC (.bl true)))) oNx)
  (oSeq (oIf (sT2 (lO DL.gGt) (sL kLen (sA1 (sVar 4))) (sI 4000)) (oRet (sC (.bl true))) oNx)
  (oSeq (oSet 5 (sC .non))
  (oSeq (oSet 6 (sC .non))
  (oSeq (jor jc0 xcs 6 7 5 (sA1 (sVar 4)))
  (oSeq (oIf (sTru (sVar 3)) (oRet (s1 (gIsX xcs λc=>c == "NoBook") (sVar 5))) oNx)
  (oSeq (oSet 8 (sCmp 1 [] (iSq (s2 gSub (sVar 2) (sI 0))) (jhz 0) sYes jA0))
  (oSeq (oSet 9 (sCmp 1 [("_law_starts",8)] (iSq (s2 gSub (sVar 2) (sI 1))) (jhz 0) (sT2 (lO DL.gLt) (sL jfy (sA2 (sVar 0) (sVar 1))) (sI 0)) jA1))
  (oSeq (oIf (sT2 (lO DL.gGt) (sL kLen (sA1 (sVar 9))) (sI 0)) (oRet (jo1 (s1 (gIsX xcs λc=>c == "Broken") (sVar 5)) (s2 (lO DL.gEq) (s1 (jDs xcs "name") (sVar 5)) (s2 gSub (sVar 9) (sI 0))))) oNx)
  (oRet (jo1 (s2 (gIsS true) (sVar 5) (sC .non)) (s2 (lO DL.gEq) (sVar 6) (sVar 2))))))))))))))))
end
def jxx:=(D0.e 55 11 [] []).m p60.p
def jIq:jxx=SI.mirS 1 10 jOu:=SI.Df.m_of (by kernel_rfl)
section
open DL
def jAr{q:Program}{am:Ab}{XP:(qc)->Heap->Prop}{K:Params->Af}{as:Ak}{n t:Nat}{r:W.RowW}{d:DefRec}{c6:List (Str×Expr)}{run:Value->Ac->Sem Value}
  (he:∀P,as=(K P).map (·.1)) (h:W.WalkO q am XP (λw h=>(K w.params).In h) r d c6 run):W.WalkX q am XP (W.X.obsZ as) (W.X.valZ K n t) r d c6 run:=by intro w s₀ s₁ mg mb G y a o pm cd doc dV kV ho hd hcd hD hmg hg args vals as' L;refine h w s₀ s₁ mg mb G ?_ a o pm cd doc dV kV ho hd hcd hD hmg hg args vals as';have e:(K w.params).In s₀.heap:=(W.X.z_facts he y).2.1;exactλb o' q=>L.keeps b o' (e b o' q)
def tup_mk{K:Af}{h:Heap}{mg:qc}{aT nT:Nat}{sT:qg}{uT vT wT:Tok}(X:K.In h)(G:h.Ns mainGlobals mg)(y:W.nsIn K mainGlobals "KINDS"=some (some (.ref aT)))(z:K.lookup aT=some ⟨.type "tuple",none,.seq #[.str "item" uT,.str "rule" vT,.str "deed" wT] nT,sT⟩):∀q∈D0.p.g,∀ks,q.2=.tup ks->DL.TupAt K mg q.1 ks:=by
 repeat refine SI.l1 (λks e=>by cases e;try exact DL.tupAt3 X G y z) ?_
 exact SI.l0
def walkZ{l:W.OpenLaw}{q:Program}{am:Ab}{XP:(qc)->Heap->Prop}{d:DefRec}{K:Params->Af}{as:Ak}{n t:Nat}(he:∀P,as=(K P).map (·.1))(hn:l.most=some 63)(hdf:d.params.defaults=[])
  (F:∀(w:World)(mg:qc)(fa:Addr)(h:Heap),(K w.params).In h->h.Ns mainGlobals mg->mg d.name=some (.ref fa)->SI.TX D0 (K w.params) mg/\mg "law"=some (.ref fa))
  (hm:∀ns:Ae,ns.length<=63->∃A,jxx [.obj 0] [.fro (ns.map .int)]=some (.ok (.bl true),A)):
  W.WalkX q am XP (W.X.obsZ as) (W.X.valZ K n t) l.row.toRowW d [] (λf vs=>PySem.call f vs):=
 jAr he (SI.walkS (i:=55) (k:=11) (ws:=[]) (qs:=[]) (zt:=p60) (x:="_law_script") hn hdf (by decide) rfl rfl (by decide) (by kernel_rfl) (λz z y=>y) F (λz z z z z z z z=>.of_eq rfl) hm)
end
open L2 DL
noncomputable abbrev oI(i:Int):Option D:=some (.int i)
noncomputable abbrev oS(i:Str):Option D:=some (.str i)
abbrev cI(i:Int):DSt->M D:=fC (.int i)
abbrev cS(i:Str):DSt->M D:=fC (.str i)
noncomputable abbrev nX(d:DSt):M Out:=some (.ok (.nx d))
noncomputable abbrev oK{α:Type}(a:α):M α:=some (.ok a)
noncomputable abbrev oL(a:List D):Option D:=some (.lst a)
abbrev Fm:=List Int×Int
noncomputable def fm(f:Fm):D:=.tup [.tup (f.1.map .int),.int f.2]
abbrev of(a:Fm):Option D:=some (fm a)
noncomputable def addF(a b:Fm):Fm:=((a.1.zip b.1).map λp=>p.1+p.2,a.2+b.2)
noncomputable def mulF(a:Fm)(n:Int):Fm:=(a.1.map (·*n),a.2*n)
def BF(k:Nat)(f:Fm):Prop:=(∀c∈f.1,Bt k c)/\Bt k f.2
noncomputable def jbb(f:Fm):Bool:=f.1.all (· == 0)
def mT(h:Bt a i)(k:Bt b j)(ha:autoParam (a<=100000) zau0._auto_1)(hb:autoParam (b<=100000) zau0._auto_1):gMul (.int i) (.int j)=some (.int (i*j)):=jut h k ha hb
def jC4(own:Nat)(bw:qh)(Y:DSt):innerD own bw Y=List.replicate own none++bw.map λp=>(Y[p.2]?).join:=rfl
def zip_tt(xs ys:List D):zipArgs [.tup xs,.tup ys]=some (zipD xs ys):=rfl
def stpA:=And.intro stp (And.intro (@jC4) True.intro)
def ja3(h:ds.length<=1000):gLstD ds=oL ds:=jEf (zdz h (by decide))
def jxd(a b:Fm)(h:a.1.length<=1000):jok [fm a,fm b]=oK (fm (addF a b)):=by
 unfold jok;rw[jde];unfold jn3 fm addF;dsimp;simp only[stpA,(jem (c:=[]) (fe:=jpl) (K:=λp=>(D.int p.1,D.int p.2)) (a.1.zip b.1) _ _ (λp hp=>by rfl)),ja3 (ds:=List.map _ (a.1.zip b.1)) (by grind)]
 rw[aP];rfl
def jlx(ha:BF k a)(hn:Bt l n)(hk:k<=100000)(hl:l<=100000)(h:a.1.length<=1000):jjk [fm a,.int n]=oK (fm (mulF a n)):=by
 unfold jjk;rw[jde];unfold jn8 fm mulF;dsimp;simp only[stpA,(ja7 (c:=[oI n]) (fe:=jkz) (K:=D.int) a.1 _ (λc hc=>by unfold jkz;simp[jut (ha.1 c hc) hn hk hl];rfl)),jut ha.2 hn hk hl,ja3 (ds:=List.map _ a.1) (by grind)]
 rw[aP];rfl
def jqq(a:Fm)(h:a.1.length<=1000):jfa [fm a]=oK (.bl (jbb a)):=by
 have e:=ja7 (c:=[]) (fe:=jis) (K:=D.int) (F:=λc=>.bl (c==0)) a.1 none (λc hc=>by rfl);unfold jfa;rw[jer];unfold jhj fm jbb;have e2:(a.1.map λc=>D.bl (c==0))=(a.1.map λc=>(c==0)).map .bl:=by rw[aP];rfl
 rw[e2]at e;dsimp;simp only[stpA,e,jso,ja3 (ds:=List.map _ (List.map _ a.1)) (by grind)]
 simp[M.p]
def jfk(a b:Fm):Fm:=if jbb b=true then mulF a b.2 else mulF b a.2
def jr4(ha:BF k a)(hb:BF k b)(hk:k<=100000)(h1:a.1.length<=1000)(h2:b.1.length<=1000)(hp:jbb a=true\/jbb b=true):
  jjj [fm a,fm b,p]=oK (fm (jfk a b)):=by
 have tb:=jqq b h2;have ta:=jqq a h1;unfold jjj;rw[jfp];unfold jja jfk;have e1:∀f,gIx (fm f) (.int 1)=oI f.2:=λf=>by unfold fm;rfl
 by_cases q:jbb b=true
 .simp[tb,e1,(jlx ha hb.2 hk hk h1),q];rfl
 .rw[f8]at q;have q2:jbb a=true:=by rcases hp with hp|hp;exact hp;rw[q]at hp;cases hp
  rw[q2]at ta;simp[tb,ta,e1,(jlx hb ha.2 hk hk h2),q];rfl
structure OS where
 total:Fm
 term:Fm
 sign:Int
 star:Option Int
def wholeF(o:OS):Fm:=addF o.total o.term
def takeF(o:OS)(f:Fm):OS:={ o with term:=match o.star with
 |none=>mulF f o.sign
 |some _=>jfk o.term f }
def signF(o:OS)(c:Str)(p:Int):OS:=if c="*" then { o with star:=some p }else { total:=wholeF o,term:=o.term,sign:=if c="-" then -1 else 1,star:=none }
def jcp(x y:Str):gEq (.str x) (.str y)=some (.bl (x==y)):=rfl
noncomputable def fresh(n:Nat):OS:=⟨(List.replicate n 0,0),(List.replicate n 0,0),1,none⟩
noncomputable def KB:Nat:=90000
structure OkT(n:Nat)(b:OS)(f:Fm):Prop where
 lf:f.1.length=n
 bf:BF KB f
 bs:Bt KB b.sign
 pl:b.star≠none->BF KB b.term/\b.term.1.length=n/\(jbb b.term=true\/jbb f=true)
def jbw(w:Str):Bool:=inD (.str w) [.str "+",.str "-",.str "*"]
def jh4(h:jbw w=true):w="+"\/w="-"\/w="*":=by
 have:(("+")==w || (("-")==w || (("*")==w || false)))=true:=h;grind
def jp8(w:Str):gIn (.str w) (.tup [.str "+",.str "-",.str "*"])=some (.bl (jbw w)):=rfl
inductive Run(n:Nat)(af:Str->Fm)(wd:Str->Prop):List (Str×Int)->List OS->List OS->Prop
| nil (os:List OS):Run n af wd [] os os
| opn {ts:List (Str×Int)}{os ak:List OS}{p:Int}:Run n af wd ts (fresh n::os) ak->Run n af wd (("(",p)::ts) os ak
| cls {ts:List (Str×Int)}{a b:OS}{r ak:List OS}{p:Int}:a.total.1.length=n->OkT n b (wholeF a)->Run n af wd ts (takeF b (wholeF a)::r) ak->Run n af wd ((")",p)::ts) (a::b::r) ak
| sgn {ts:List (Str×Int)}{a:OS}{r ak:List OS}{c:Str}{p:Int}:jbw c=true->a.total.1.length=n->Run n af wd ts (signF a c p::r) ak->Run n af wd ((c,p)::ts) (a::r) ak
| wrd {ts:List (Str×Int)}{a:OS}{r ak:List OS}{w:Str}{p:Int}:wd w->OkT n a (af w)->Run n af wd ts (takeF a (af w)::r) ak->Run n af wd ((w,p)::ts) (a::r) ak
def Run.append{t1 t2:List (Str×Int)}{os bc cw:List OS}(h1:Run n af wd t1 os bc)(h2:Run n af wd t2 bc cw):Run n af wd (t1++t2) os cw:=by
 induction h1 with
 |nil _=>exact h2
 |opn _ ih=>exact .opn (ih h2)
 |cls x y _ ih=>exact .cls x y (ih h2)
 |sgn x y _ ih=>exact .sgn x y (ih h2)
 |wrd x y _ ih=>exact .wrd x y (ih h2)
theorem jCl(xs:List α)(x:α):atI (xs++[x]) (-1)=some x:=by
 unfold atI ixN;rw[aJ nofun,aD (by simp;lia)];have:(-1+(((xs++[x]).length):Int)).toNat=xs.length:=by simp;lia
 simp_all
noncomputable def pcD(q:Str×Int):D:=.tup [.str q.1,.int q.2]
structure Wd(nm:D)(af:Str->Fm)(w:Str):Prop where
 p1:(w==Str.ofString "(")=false
 p2:(w==Str.ofString ")")=false
 p3:jbw w=false
 fw:jcb [nm,.str w]=oK (fm (af w))
end MyLaw
namespace MyLaw
open L2 SI
def lt4(h:a=k)(hk:autoParam (k<1000) zau0._auto_1):a<1000:=h ▸ hk
def jkc(f:Fm):tuV (fm f)=true:=by grind[fm,tuV,tuVs,tu_ints]
noncomputable def sD:Option Int->D
|none=>.non
|some i=>.int i
inductive OA(W:Aa)(A:Sto)(i:Nat)(o:OS):Prop
| mk (dt dm:D) (h:A[i]?=some (.ins "OpenSum" [("total",dt),("term",dm),("term_sign",.int o.sign),("star",sD o.star)])) (r1:Rp W A dt (fm o.total)) (r2:Rp W A dm (fm o.term))
structure St1(i:Nat)(A A':Sto):Prop where
 le:A.length<=A'.length
 at':∀k,k<A.length->k≠i->A'[k]?=A[k]?
 tu:KTu A A'
section
variable {W:Aa}{A A' A'':Sto}{i j:Nat}{o:OS}
def St1.pre(l:A<+:A'):St1 i A A':=⟨l.length_le,λk h z=>(Nf.pre (F:=[k]) (W:=[]) l (by simpa using h)).f k zaa,.pre l⟩
def St1.trans(a:St1 i A A')(b:St1 i A' A''):St1 i A A'':=⟨zdz a.le b.le,λk h n=>(b.at' k (zcx h a.le) n).trans (a.at' k h n),a.tu.trans b.tu⟩
def St1.set(e:A[i]?=some (.ins c fs)):St1 i A (A.set i x):=⟨by simp,λk y n=>zbw (cE n),.set e λy z=>nomatch z⟩
def OA.lt(h:OA W A i o):i<A.length:=by obtain⟨_,_,h,_⟩:=h;grind
def OA.to(h:OA W A i o)(k:KTu A A')(e:A'[i]?=A[i]?):OA W A' i o:=by obtain⟨dt,dm,h,r1,r2⟩:=h;exact⟨dt,dm,e.trans h,r1.tu k (jkc _),r2.tu k (jkc _)⟩
def OA.grow(h:OA W A i o)(l:A<+:A'):OA W A' i o:=h.to (.pre l) ((St1.pre l).at' i h.lt (zcw (cM i)))
abbrev LtW(W:Aa)(A:Sto):Prop:=∀j∈W,j<A.length
def LtW.le(h:LtW W A)(l:A.length<=A'.length):LtW W A':=λj hj=>zcx (h j hj) l
def jl1(h:OA W A i o)(hW:LtW W A)(w:o.total.1.length<=1000):Ev (jen [.obj i]) A λd A'=>A<+:A'/\Rp W A' d (fm (wholeF o)):=by obtain⟨dt,dm,h,r1,r2⟩:=h;rw[jic];exact jdf rfl (jfr (ev_l (jaa (ev_1 (jab rfl (ji3 h rfl rfl (jaa (ev_1 (jab rfl (ji3 h rfl rfl (jac (jau jv7 hW (.cons r1 (.cons r2 .nil)) (jxd _ _ w) λd A' l r=>⟨l,r⟩))))))))))))
def jmm(h:OA W A i o)(hW:LtW W A)(rf:Rp W A df (fm f))(hf:BF k f)(dv:f.1.length<=1000)(hk:k<=100000)(hs:DL.Bt k o.sign)(ht:o.star≠none->BF k o.term/\o.term.1.length<=1000/\(jbb o.term=true\/jbb f=true)):
  Ev (jcd [.obj i,df]) A λd A'=>d=.non/\OA W A' i (takeF o f)/\St1 i A A':=by
 obtain⟨dt,dm,h,r1,r2⟩:=h;rw[jd7];have fin:∀{A':Sto}{d:D}{g:Fm},A<+:A'->Rp W A' d (fm g)->takeF o f={ o with term:=g }->∃i' c fs,D.obj i=.obj i'/\A'[i']?=some (.ins c fs)/\(xcl.contains c=true/\fs.length<1000)/\(OA W (A'.set i' (.ins c (putD _ d fs))) i (takeF o f)/\St1 i A (A'.set i' (.ins c (putD "term" d fs)))):=λ{A' d g} l r e=>by
  have h':=jaf l h;have kt:KTu A' (A'.set i (.ins "OpenSum" (putD "term" d [("total",dt),("term",dm),("term_sign",.int o.sign),("star",sD o.star)]))):=.set h' λy z=>nomatch z
  refine⟨i,_,_,rfl,h',⟨rfl,lt4 (k:=4) rfl⟩,?_,(St1.pre l).trans (.set h')⟩;rw[e];exact⟨dt,d,zcz (zbb.mp h').1,(r1.grow l).tu kt (jkc _),r.tu kt (jkc _)⟩
 refine jdf rfl (jcm (jdu (ev_1 (jab rfl (ji3 h rfl rfl (ev_c ?_))))));refine .p ⟨_,rfl,?_⟩
 cases e:o.star with
|none=>refine jfq (ev_l (jaa (jab rfl (jaa (ev_1 (jab rfl (ji3 h rfl rfl (jac (jau jv9 hW (.cons rf (.cons .int .nil)) (jlx hf hs hk hk dv) λd A' l r=>jab rfl ?_)))))))));obtain⟨a,b,c,h1,h2,h3,h4,h5⟩:=fin l r (by unfold takeF;rw[e]);exact⟨a,b,c,h1,h2,h3,rfl,h4,h5⟩
|some p=>obtain⟨t1,t2,t3⟩:=ht (by grind);rw[e]at h;refine jfq (ev_l (jaa (ev_1 (jab rfl (ji3 h rfl rfl (jaa (jab rfl (jaa (ev_1 (jab rfl (ji3 h rfl rfl (jac (jau jo8 hW (.cons r2 (.cons rf (.cons .int .nil))) (jr4 t1 hf hk t2 dv t3) λd A' l r=>jab rfl ?_)))))))))))));obtain⟨a,b,c,h1,h2,h3,h4,h5⟩:=fin l r (by unfold takeF;rw[e]);exact⟨a,b,c,h1,h2,h3,rfl,h4,h5⟩
def jGe(h:OA W A i o)(hW:LtW W A)(w:o.total.1.length<=1000):Ev (jcz [.obj i,.str c,.int p]) A λd A'=>d=.non/\OA W A' i (signF o c p)/\St1 i A A':=by
 obtain⟨dt,dm,h,r1,r2⟩:=h;rw[jfi];refine jdf rfl (jcm (jdu (jab rfl (ev_c (jdl jbe jbe (jcp _ _) rfl ⟨_,rfl,?_⟩)))));have put:∀{A':Sto}{f:Str}{d:D}{fs:List _},A'[i]?=some (.ins "OpenSum" fs)->(A'.set i (.ins "OpenSum" (putD f d fs)))[i]?=some _:=λe=>zcz (zbb.mp e).1
 by_cases q:c="*"
 .subst q;refine jfq (jab rfl (jab rfl ⟨i,_,_,rfl,h,⟨rfl,lt4 (k:=4) rfl⟩,rfl,?_,.set h⟩));have kt:KTu A (A.set i (.ins "OpenSum" (putD "star" (.int p) [("total",dt),("term",dm),("term_sign",.int o.sign),("star",sD o.star)]))):=.set h λy z=>nomatch z
  exact⟨dt,dm,put h,r1.tu kt (jkc _),r2.tu kt (jkc _)⟩
 .rw[aH.mpr q];refine jag (jfq ((jhg (jab rfl ⟨i,rfl,h,rfl,rfl,jac (jl1 ⟨dt,dm,h,r1,r2⟩ hW w)⟩)).imp λd A1 ⟨l1,rd⟩=>jab rfl ?_));have h1:=jaf l1 h;refine⟨i,_,_,rfl,h1,⟨rfl,lt4 (k:=4) rfl⟩,?_⟩;have h2:=put (f:="total") (d:=d) h1;have sg:Ev (sIf (sT2 (lO DL.gEq) (sVar 1) (sC (.str "-"))) (s1 (lU DL.gNeg) (sC (.int 1))) (sC (.int 1)) (jd5 3 [.obj i,.str c,.int p])) (A1.set i (.ins "OpenSum" (putD "total" d [("total",dt),("term",dm),("term_sign",.int o.sign),("star",sD o.star)]))) λd' A'=>d'=.int (if c="-" then -1 else 1)/\A'=A1.set i (.ins "OpenSum" (putD "total" d [("total",dt),("term",dm),("term_sign",.int o.sign),("star",sD o.star)])):=by
   refine jBb (jdu (jab rfl (ev_c (jdl jbe jbe (jcp _ _) rfl ⟨_,rfl,?_⟩))))
   by_cases q2:c="-"
   .subst q2;exact ev_1 (ev_c (jDh jcq rfl rfl ⟨rfl,rfl⟩))
   .rw[aH.mpr q2,aJ q2];exact ev_c ⟨rfl,rfl⟩
  refine jag (jfq (sg.imp λd' A2 hzz=>?_));obtain⟨e1,e2⟩:=hzz;subst e1 e2;refine jab rfl ⟨i,_,_,rfl,h2,⟨rfl,lt4 (k:=4) rfl⟩,?_⟩;have h3:=put (f:="term_sign") (d:=.int (if c="-" then -1 else 1)) h2;refine jfq (ev_c (jab rfl ⟨i,_,_,rfl,h3,⟨rfl,lt4 (k:=4) rfl⟩,rfl,?_,(St1.pre l1).trans ((St1.set h1).trans ((St1.set h2).trans (.set h3)))⟩));unfold signF;rw[aJ q];exact⟨d,dm,put h3,rd.tu ((St1.set h1).trans ((St1.set h2).trans (.set h3))).tu (jkc _),(r2.grow l1).tu ((St1.set h1).trans ((St1.set h2).trans (.set h3))).tu (jkc _)⟩
def jD0{n:Nat}(h:A[i]?=some (.ins "OpenSum" []))(hW:LtW W A)(hn:n<=1000):Ev (ja2 [.obj i,.int n]) A λd A'=>d=.non/\OA W A' i (fresh n)/\St1 i A A':=by
 rw[jhf];have put:∀{A':Sto}{f:Str}{d:D}{fs:List _},A'[i]?=some (.ins "OpenSum" fs)->(A'.set i _)[i]?=some (.ins "OpenSum" (putD f d fs)):=λe=>zcz (zbb.mp e).1
 have z0:=jx3 (q:=λd A'=>A<+:A'/\Rp W A' d (fm (List.replicate n 0,0))) (sm_l jnt (jb6 (sm_l jiu (jb6 (SmF.e (jo9 (jb6 (sm_c (d:=.int 0) λz z=>.int) jfu) (jdi (i:=1) rfl))) jfu)) (jb6 (sm_c λz z=>.int) jfu))) (.no (o:=some (.obj i)) (.yes (d:=.int n) .int .nil)) hW
  (by simp[(DL.e_rep (Y:=[none,oI n]) (fl:=DL.fCons (cI 0) DL.fNil) (fb:=DL.vR 1) _ n rfl rfl hn)];unfold fm;rw[List.map_replicate];rfl) λd A' l r=>⟨l,r⟩
 refine jdf rfl (jag (jfq (z0.imp λd A1 ⟨l1,rd⟩=>jab rfl ?_)));have h1:=jaf l1 h;refine⟨i,_,_,rfl,h1,⟨rfl,by decide⟩,?_⟩;have h2:=put (f:="total") (d:=d) h1;refine jag (jfq (ev_1 (jab rfl (ji3 h2 rfl rfl (jab rfl ⟨i,_,_,rfl,h2,⟨rfl,lt4 (k:=1) rfl⟩,?_⟩)))));have h3:=put (f:="term") (d:=d) h2;refine jag (jfq (ev_c (jab rfl ⟨i,_,_,rfl,h3,⟨rfl,lt4 (k:=2) rfl⟩,?_⟩)));have h4:=put (f:="term_sign") (d:=.int 1) h3;exact jfq (ev_c (jab rfl ⟨i,_,_,rfl,h4,⟨rfl,lt4 (k:=3) rfl⟩,rfl,(⟨d,d,(put h4),rd.tu ((St1.set h1).trans ((St1.set h2).trans ((St1.set h3).trans (.set h4)))).tu (jkc _),rd.tu ((St1.set h1).trans ((St1.set h2).trans ((St1.set h3).trans (.set h4)))).tu (jkc _)⟩),(St1.pre l1).trans ((St1.set h1).trans ((St1.set h2).trans ((St1.set h3).trans (.set h4))))⟩))
end
inductive Stk(W:Aa)(A:Sto):Aa->List OS->Prop
| nil:Stk W A [] []
| cons {i r o os} (h:OA W A i o) (n:i∉r) (t:Stk W A r os):Stk W A (i::r) (o::os)
section
variable {W:Aa}{A A':Sto}{i j N:Nat}{o:OS}{r:Aa}{os:List OS}
theorem Stk.to(h:Stk W A r os)(k:KTu A A')(e:∀i∈r,A'[i]?=A[i]?):Stk W A' r os:=by
 induction h with
 |nil=>exact .nil
 |cons h n t ih=>exact .cons (h.to k (e _ zaa)) n (ih λi hi=>e i (zaw _ hi))
theorem Stk.lt(h:Stk W A r os):∀i∈r,i<A.length:=by
 induction h with
 |nil=>simp_all
 |cons h n t ih=>exactλi hi=>(aM.mp hi).elim (λe=>e ▸ h.lt) (ih i)
structure Kept(N:Nat)(A A':Sto):Prop where
 at':∀i,i<N->A'[i]?=A[i]?
 le:A.length<=A'.length
def Kept.trans(a:Kept N A A1)(b:Kept N A1 A2):Kept N A A2:=⟨λi h=>(b.at' i h).trans (a.at' i h),zdz a.le b.le⟩
def St1.kept(h:St1 i A A')(hi:N<=i)(hN:N<=A.length):Kept N A A':=⟨λk hk=>h.at' k (by lia) (by lia),h.le⟩
structure RSt(W:Aa)(N j:Nat)(A:Sto)(r:Aa)(os:List OS):Prop where
 hW:LtW W A
 ls:A[j]?=some (.lst (r.reverse.map .obj))
 nj:j∉r
 st:Stk W A r os
 jN:N<=j
 rN:∀i∈r,N<=i
 le:N<=A.length
def RSt.next(h:RSt W N j A (i::r) (o::os))(s:St1 i A A')(a:OA W A' i o'):RSt W N j A' (i::r) (o'::os)/\Kept N A A':=by refine⟨⟨h.hW.le s.le,(s.at' j ((zbb.mp h.ls).1) λz=>h.nj (z ▸ zaa)).trans h.ls,h.nj,?_,h.jN,h.rN,zdz h.le s.le⟩,s.kept (h.rN i zaa) h.le⟩;cases h.st with|cons h1 n t=>exact .cons a n (t.to s.tu λk hk=>s.at' k (t.lt k hk) λz=>n (z ▸ hk))
def RSt.grow(h:RSt W N j A r os)(l:A<+:A'):RSt W N j A' r os:=
 ⟨h.hW.le l.length_le,jaf l h.ls,h.nj,h.st.to (.pre l) λk hk=>(St1.pre (i:=k+1) l).at' k (h.st.lt k hk) (by simp_all),h.jN,h.rN,zdz h.le l.length_le⟩
theorem jp7(i:Nat)(r:Aa):(i::r).reverse.map D.obj=r.reverse.map D.obj++[.obj i]:=by simp
def jDy(hr:r.length<=1000000):(r.reverse.map D.obj).length<sizeLine:=by
 rw[zav,List.length_reverse,bG];lia
def jog{Y:DSt}{q:D->Sto->Prop}(h:RSt W N j A (i::r) os)(hd:Y[2]?=some (some (.obj j)))(k:q (.obj i) A):Ev (s2 gSub (sVar 2) (s1 (lU DL.gNeg) (sC (.int 1))) Y) A q:=by
 refine ev_2 (jab hd (ev_1 (ev_c (jDh jcq rfl rfl ⟨_,A,?_,k⟩))));have e:sqD A (.obj j)=some (true,(i::r).reverse.map D.obj):=by show A[j]?.bind sqO=_;rw[h.ls];rfl
 grind[gIx,jp7,jCl]
def jun{n:Nat}{Y:DSt}{L:List PD}{dn:D}{q:D->Sto->Prop}(hW:LtW W A)(hd:Y[0]?=some (some dn))(rn:Rp W A dn (.lst L))(hl:L.length=n)(hn:n<=1000)(k:∀A',OA W A' A.length (fresh n)->Kept A.length A A'->KTu A A'->A.length<A'.length->q (.obj A.length) A'):Ev (jr8 "OpenSum" ja2 (jar (sL kLen (jar (sVar 0) sNil)) sNil) Y) A q:=by
 obtain⟨z,ds,f1,f2,_⟩:=rn.sq rfl;refine jDi (jaa (ev_l (jaa (jab hd (jac ?_)))));refine⟨_,A,jqe f1,jac ?_⟩;rw[<- f2.length,hl];have l:=aA A [SO.ins "OpenSum" []];refine(jD0 (by simp) (hW.le l.length_le) hn).imp λd A' z=>?_
 obtain⟨e,a,s⟩:=z;exact⟨e,k A' a ⟨λi hi=>(s.at' i (by simp;lia) (by lia)).trans (aS hi),zdz l.length_le s.le⟩ ((KTu.pre l).trans s.tu) (zcx (by simp) s.le)⟩
end
section
variable {W:Aa}{A A':Sto}{i j N n:Nat}{o b:OS}{r:Aa}{os:List OS}{nm pc:D}{z:Option D}{p:Int}{L:List PD}{w c:Str}{f:Fm}
def Po(nm pc:D)(W:Aa)(N j:Nat)(A:Sto)(os:List OS)(o:Out)(A':Sto):Prop:=∃x y z r,o=.nx [some nm,some pc,some (.obj j),x,y,z]/\RSt W N j A' r os/\Kept N A A'
def RSt.len(h:RSt W N j A r os):r.length=os.length:=by
 have:=h.st
 clear h
 induction this<;>simp_all
def jD2{β:Prop}(h:α):if true=true then α else β:=h
def jrt{β:Prop}(h:β):if false=true then α else β:=h
def jAe(h:RSt W N j A r os)(hn:n<=1000)(hl:L.length=n)(rn:Rp W A nm (.lst L))(hr:r.length<=1000000):Ev (jbk [some nm,some pc,some (.obj j),some (.str "("),some (.int p),z]) A (Po nm pc W N j A (fresh n::os)):=by
 refine jcm (jdu (jab rfl (ev_c (jdl jbe jbe (jcp _ _) rfl ⟨_,rfl,?_⟩))));refine jD2 (jcl (jIz (jab rfl ⟨j,_,rfl,h.ls,jaa (jun h.hW rfl rn hl hn λA' a kp kt lt=>jac ?_)⟩)));have hj:=(zbb.mp h.ls).1;have e1:=(kp.at' j hj).trans h.ls;refine⟨_,_,_,e1,aD (jDy hr),_,_,_,_,rfl,⟨(h.hW.le kp.le).le (by simp),?_,(λz=>(aM.mp z).elim (λe=>bH _ (e ▸ hj)) h.nj),?_,h.jN,λi hi=>(aM.mp hi).elim (λe=>e ▸ h.le) (h.rN i),zdz (zdz h.le kp.le) (by simp)⟩,(⟨λk hk=>(zbw (cQ (zcx hk h.jN))).trans (kp.at' k (zcx hk h.le)),zdz kp.le (by simp)⟩)⟩
 .grind
 .have k2:KTu A' (A'.set j (.lst (r.reverse.map D.obj++[.obj A.length]))):=.set e1 λy z=>nomatch z
  exact .cons (a.to k2 (zbw (zcw hj))) (λz=>bH _ (h.st.lt _ z)) (h.st.to (kt.trans k2) λk hk=>(zbw (show j≠k fromλz=>h.nj (z ▸ hk))).trans (kp.at' k (h.st.lt k hk)))
def isig{Y:DSt}{qb:Bool->Sto->Prop}(hW:LtW W A)(hd:Y=[some nm,some pc,some (.obj j),some (.str w),some (.int p),z])(k:∀A',A<+:A'->qb (jbw w) A'):Ev (sT2 (lO DL.gIn) (sVar 3) (sL (gNew .tup) (jar (sC (.str "+")) (jar (sC (.str "-")) (jar (sC (.str "*")) sNil)))) Y) A qb:=by subst hd;exact jI3 (jGt (jd9 λy y y e=>jDz e) (jdi rfl) (sm_l jnt (jb6 (sm_c λy y=>.str) (jb6 (sm_c λy y=>.str) (jb6 (sm_c λy y=>.str) jfu))))) (.no (.no (.no (.yes .str (.no (.no .nil)))))) hW (by rfl) k
def jAf(h:RSt W N j A (i::r) (o::os))(hc:jbw c=true)(hn:n<=1000)(ht:o.total.1.length=n):Ev (jbk [some nm,some pc,some (.obj j),some (.str c),some (.int p),z]) A (Po nm pc W N j A (signF o c p::os)):=by
 refine jcm (jdu (jab rfl (ev_c (jdl jbe jbe (jcp _ _) rfl ⟨_,rfl,?_⟩))));rw[show(c==Str.ofString "(")=false from by rcases jh4 hc with rfl|rfl|rfl<;>rfl];refine jrt (jcm (jdu (jab rfl (ev_c (jdl jbe jbe (jcp _ _) rfl ⟨_,rfl,?_⟩)))));rw[show(c==Str.ofString ")")=false from by rcases jh4 hc with rfl|rfl|rfl<;>decide +kernel];refine jrt (jcm (isig h.hW rfl λA1 l=>?_));rw[hc];have h1:=h.grow l;have oa:OA W A1 i o:=by cases h1.st;assumption
 have bg:=oa;obtain⟨dt,dm,e,_⟩:=oa;refine jD2 (jcl (jhg (jog h1 rfl ⟨i,rfl,e,rfl,rfl,jaa (jab rfl (jaa (jab rfl (jac ?_))))⟩)));refine(jGe bg h1.hW (ht ▸ hn)).imp λd A2 z=>?_
 obtain⟨_,a,s⟩:=z;obtain⟨g1,g2⟩:=h1.next s a;exact⟨_,_,_,_,rfl,g1,((St1.pre l).kept (h.rN i zaa) h.le).trans g2⟩
def jAh(h:RSt W N j A (i::r) (o::os))(h1:(w==Str.ofString "(")=false)(h2:(w==Str.ofString ")")=false)(h3:jbw w=false)(rn:Rp W A nm (.lst L))(hf:jcb [.lst L,.str w]=oK (fm f))(hn:n<=1000)(T:OkT n o f):Ev (jbk [some nm,some pc,some (.obj j),some (.str w),some (.int p),z]) A (Po nm pc W N j A (takeF o f::os)):=by
 refine jcm (jdu (jab rfl (ev_c (jdl jbe jbe (jcp _ _) rfl ⟨_,rfl,?_⟩))));rw[h1];refine jrt (jcm (jdu (jab rfl (ev_c (jdl jbe jbe (jcp _ _) rfl ⟨_,rfl,?_⟩)))));rw[h2];refine jrt (jcm (isig h.hW rfl λA1 l=>?_));rw[h3];have g:=h.grow l;have oa:OA W A1 i o:=by cases g.st;assumption
 have bg:=oa;obtain⟨dt,dm,e,_⟩:=oa;refine jrt (jcl (jhg (jog g rfl ⟨i,rfl,e,rfl,rfl,jaa (ev_l (jaa (jab rfl (jaa (jab rfl (jac (jau jie g.hW (.cons (rn.grow l) (.cons .str .nil)) hf λdf A2 l2 rf=>jac ?_)))))))⟩)));refine(jmm (bg.grow l2) (g.hW.le l2.length_le) rf T.bf (by rw[T.lf];exact hn) (by decide) T.bs λz=>let ⟨a,b,c⟩:=T.pl z;⟨a,by simp_all,c⟩).imp λd A3 z=>?_
 obtain⟨_,a,s⟩:=z;obtain⟨g1,g2⟩:=(g.grow l2).next s a;exact⟨_,_,_,_,rfl,g1,((St1.pre (l.trans l2)).kept (h.rN i zaa) h.le).trans g2⟩
def jAd(h:RSt W N j A (i::i2::r) (o::b::os))(hn:n<=1000)(ht:o.total.1.length=n)(T:OkT n b (wholeF o)):Ev (jbk [some nm,some pc,some (.obj j),some (.str ")"),some (.int p),z]) A (Po nm pc W N j A (takeF b (wholeF o)::os)):=by
 refine jcm (jdu (jab rfl (ev_c (jdl jbe jbe (jcp _ _) rfl ⟨_,rfl,?_⟩))));refine jrt (jcm (jdu (jab rfl (ev_c (jdl jbe jbe (jcp _ _) rfl ⟨_,rfl,?_⟩)))));have e0:mPop A ((i::i2::r).reverse.map D.obj) []=some ((i2::r).reverse.map D.obj,.obj i):=by unfold mPop;rw[jp7,List.dropLast_concat,zcb,f7,Nat.add_sub_cancel,aL (zac _),cF];rfl
 refine jD2 (jag (jax (jI0 (jab rfl ⟨j,_,_,_,rfl,h.ls,e0,?_⟩))));have k2:KTu A (A.set j (.lst ((i2::r).reverse.map D.obj))):=.set h.ls λy z=>nomatch z
 have nk:∀k,k≠j->(A.set j (.lst ((i2::r).reverse.map D.obj)))[k]?=A[k]?:=λk hk=>zbw (cE hk)
 have kp0:Kept N A _:=⟨λk hk=>nk k (zcw (zcx hk h.jN)),by simp⟩
 cases h.st with|cons oi n1 t =>
 have g:RSt W N j _ _ _:=⟨h.hW.le (by simp),zcz ((zbb.mp h.ls).1),λz=>h.nj (zaw _ z),t.to k2 λk hk=>nk k λz=>h.nj (zaw _ (z ▸ hk)),h.jN,λk hk=>h.rN k (zaw _ hk),by simp;exact h.le⟩
 have cz:=oi.to k2 (nk i (cE (λz=>h.nj (z ▸ zaa))));have ob:OA W (A.set j (.lst ((i2::r).reverse.map D.obj))) i2 b:=by cases g.st;assumption
 have ob':=ob;obtain⟨dt,dm,e,_⟩:=ob;have oi2:=cz;obtain⟨dt2,dm2,e2,_⟩:=cz;refine jcl (jhg (jog g rfl ⟨i2,rfl,e,rfl,rfl,jaa (jhg (jab rfl ⟨i,rfl,e2,rfl,rfl,jac ?_⟩))⟩));refine(jl1 oi2 g.hW (ht ▸ hn)).imp λdf A2 z=>?_
 obtain⟨l2,rf⟩:=z;refine jac ((jmm (ob'.grow l2) (g.hW.le l2.length_le) rf T.bf (by rw[T.lf];exact hn) (by decide) T.bs λz=>let ⟨a,b,c⟩:=T.pl z;⟨a,by simp_all,c⟩).imp λd A3 z=>?_);obtain⟨_,a,s⟩:=z;obtain⟨g1,g2⟩:=(g.grow l2).next s a;exact⟨_,_,_,_,rfl,g1,kp0.trans (((St1.pre l2).kept (g.rN i2 zaa) g.le).trans g2)⟩
end
section
variable {W:Aa}{A A0:Sto}{i j k n:Nat}{o b:OS}{r:Aa}{os ak:List OS}{nm pc d:D}{z:Option D}{L:List PD}{x:PD}
def Kept.kp(h:Kept A0.length A0 A):Kp W A0 A:=λi o z e=>(h.at' i (zbb.mp e).1).trans e
def Kept.pref(h:Kept A0.length A0 A):A0<+:A:=by
 refine⟨A.drop A0.length,fA λi=>?_⟩
 by_cases hi:i<A0.length
 .rw[aS hi,h.at' i hi]
 grind
def Kept.rp(h:Kept A0.length A0 A)(r:Rp W A0 d x):Rp W A d x:=r.grow h.pref
def jKo{x y z:Option D}(rd:Rp W A d (pcD q)):tTup [3,4] d [some nm,some pc,some (.obj j),x,y,z] A=some [some nm,some pc,some (.obj j),some (.str q.1),some (.int q.2),z]:=by
 cases rd with|tup hi e rs =>
 cases rs with|cons r1 rs =>
 cases rs with|cons r2 rs =>
 cases rs;cases r1;cases r2
 simp_all [SI.tTup]
def jEe(hn:n<=1000)(hl:L.length=n)(rn:Rp W A0 nm (.lst L))(hk:A0[k]?.bind lsO=some ds)(rk:Rps W A0 ds items)(R:Run n af (Wd (.lst L) af) ts os ak):
  ∀(t:Nat)(r:Aa)(A:Sto)(x y z:Option D),items.drop t=ts.map pcD->t<=items.length->RSt W A0.length j A r os->Kept A0.length A0 A->r.length+ts.length<=1000000->Ev (forS (wkS true k) (tTup [3,4]) jbk (ts.length+1) t [some nm,some pc,some (.obj j),x,y,z]) A (Po nm pc W A0.length j A0 ak):=by
 have au:∀{A},Kept _ A0 A->side true k A=some ds:=λ{A} h=>(h.kp).bd aK hk
 have step:∀{q:Str×Int}{ts:List _}{t:Nat}{A:Sto}{x y z:Option D}{bc:List OS}{Q:Out->Sto->Prop},items.drop t=pcD q::ts.map pcD->Kept _ A0 A->Ev _ A (Po nm pc W _ j A bc)->(∀{A2 x y z r2},RSt W _ j A2 r2 bc->Kept _ A0 A2->r2.length=bc.length->Ev (forS _ _ _ _ _ [some nm,some pc,some (.obj j),x,y,z]) A2 Q)->Ev (forS (wkS _ k) _ jbk (ts.length+1+1) t [some nm,some pc,some (.obj j),x,y,z]) A Q:=λ{q ts t A x y z bc Q} hd kp hb hc=>by obtain⟨d,e1,r1⟩:=rk.get (by rw[<- dQ,hd];rfl);refine jk8 (by unfold wkS;rw[au kp,bJ,e1]) (jKo (kp.rp r1)) (hb.imp λo A2 h=>?_);obtain⟨x2,y2,z2,r2,rfl,g1,g2⟩:=h;exact hc g1 (kp.trans g2) g1.len
 induction R with
|nil os=>intro t r A x y z hd ht h kp _;exact jk7 (by unfold wkS;rw[au kp,bJ,bK (by rw[(Nat.le_antisymm ht (eL.mp hd)),rk.length];omega)]) ⟨x,y,z,r,rfl,h,kp⟩
|opn _ ih=>
  intro t r A x y z hd ht h kp hz;simp only[aI]at hz;refine step hd kp (jAe h hn hl (kp.rp rn) (by lia)) λ{A2 x y z r2} g1 g2 g3=>ih _ r2 A2 x y z (by rw[<- cJ,hd];rfl) ?_ g1 g2 (by rw[g3,aI,<- h.len];lia)
  have:(items.drop t).length≠0:=by rw[hd];simp
  rw[cU]at this;lia
|cls aw T hR ih=>
  intro t r A x y z hd ht h kp hz;have ai:=h.len;cases h.st with|cons o1 n1 t1 =>
  cases t1 with|cons o2 n2 t2 =>
  refine step hd kp (jAd h hn aw T) λ{A2 x y z r2} g1 g2 g3=>ih _ r2 A2 x y z (by rw[<- cJ,hd];rfl) ?_ g1 g2 (by simp only[aI]at ai g3 hz;lia)
  have:(items.drop t).length≠0:=by rw[hd];simp
  rw[cU]at this;lia
|sgn hc aw hR ih=>
  intro t r A x y z hd ht h kp hz;have ai:=h.len;cases h.st with|cons o1 n1 t1 =>
  refine step hd kp (jAf h hc hn aw) λ{A2 x y z r2} g1 g2 g3=>ih _ r2 A2 x y z (by rw[<- cJ,hd];rfl) ?_ g1 g2 (by simp only[aI]at ai g3 hz;lia)
  have:(items.drop t).length≠0:=by rw[hd];simp
  rw[cU]at this;lia
|wrd hw T hR ih=>
  intro t r A x y z hd ht h kp hz;have ai:=h.len;cases h.st with|cons o1 n1 t1 =>
  refine step hd kp (jAh h hw.p1 hw.p2 hw.p3 (kp.rp rn) hw.fw hn T) λ{A2 x y z r2} g1 g2 g3=>ih _ r2 A2 x y z (by rw[<- cJ,hd];rfl) ?_ g1 g2 (by simp only[aI]at ai g3 hz;lia)
  have:(items.drop t).length≠0:=by rw[hd];simp
  rw[cU]at this;lia
theorem ju4:∀{ts:List (Str×Int)},okVs (ts.map pcD)=true
|[]=>rfl
|q::ts=>by rw[aE];unfold okVs;rw[aC];exact⟨rfl,ju4⟩
set_option tactic.hygienic true in
def jow(hn:n<=1000)(hl:L.length=n)(hL:okVs L=true)(R:Run n af (Wd (.lst L) af) ts [fresh n] [a])(ha:a.total.1.length=n)(hz:ts.length<=100000):jfd [.lst L,.lst (ts.map pcD)]=oK (fm (wholeF a)):=by
 refine jLb (by show(okVs L&&(okVs _&&true))=true;rw[hL,ju4];rfl) λ{W A ds} hW rs=>?_
 cases rs with|cons rn rs =>
 cases rs with|cons rp rs =>
 cases rs;cases rp with|lst hk ek rk fk =>
 rename_i k ds;refine jIw ?_;rw[jny];refine jdf rfl (jag (jax (ev_l (jaa (jun hW rfl rn hl hn λA1 a1 kp kt lt=>jac (jcg (by grind[sizeLine]) ?_))))));have l1:=aA A1 [SO.lst [D.obj A.length]];have b0:=kp.trans ⟨λi hi=>aS (by clear fk l1 hk;lia),l1.length_le⟩;refine jag (jk9 (Ev.b (jab rfl ⟨wkS true k,A1++[.lst [.obj A.length]],?_,ts.length+1,?_⟩)))
 .have e:sdO _ (.obj k)=some _:=aD (by unfold side;rw[aD rfl,(b0.kp).bd aK ek];rfl)
  simp_all
 .refine (jEe hn hl rn ek rk R 0 _ _ _ _ _ rfl (aY _) (⟨(LtW.le hW kp.le).le l1.length_le,by simp,λz=>by simp_all,.cons (a1.grow l1) aK .nil,kp.le,λi hi=>by simp_all,zdz kp.le l1.length_le⟩) b0 (by simp;grind)).imp λo A2 h=>?_
  obtain⟨x,y,z,r,rfl,g,kp2⟩:=h;cases g.st with|cons oa n1 t1 =>
  cases t1;rename_i i;have bg:=oa;obtain⟨dt,dm,e,_⟩:=oa;refine jfr (jhg (ev_2 (jab rfl (ev_c ⟨_,A2,?_,i,rfl,e,rfl,rfl,jac ((jl1 bg g.hW (ha ▸ hn)).imp λd A3 z=>⟨kp2.pref.trans z.1,z.2⟩)⟩))))
  .have e:sqD A2 (.obj A1.length)=some (true,[D.obj i]):=by show A2[A1.length]?.bind sqO=_;rw[g.ls];rfl
   simp_all [gIx]
end
end MyLaw
namespace MyLaw
open L2 DL
theorem jcs(f:Fm)(n:Int):(mulF f n).1.length=f.1.length:=by unfold mulF;simp
def jkv(h:f.1.length=g.1.length):(addF f g).1.length=f.1.length:=by grind[addF]
def jff(f:Fm):mulF f 1=f:=by unfold mulF;simp
theorem jqg(f:Fm)(a b:Int):mulF (mulF f a) b=mulF f (a*b):=by unfold mulF;simp[Int.mul_assoc]
def jus(f:Fm)(a b:Int):mulF (mulF f a) b=mulF (mulF f b) a:=by grind[jqg,Int.mul_comm]
def jvf(h:jbb f=true)(n:Int):jbb (mulF f n)=true:=by grind[jbb,mulF]
def jqp(h:jbb f=true):f=(List.replicate f.1.length 0,f.2):=by unfold jbb at h;simp only[aQ,bB]at h;have:=List.eq_replicate_iff.mpr ⟨rfl,h⟩;rw[<- this]
def jgv:addF (List.replicate f.1.length 0,0) f=f:=by
 obtain⟨cs,k⟩:=f;unfold addF
 induction cs<;>simp_all [eS]
def jvi(h:jbb f=true)(hl:f.1.length=g.1.length):jfk f g=mulF g f.2:=by
 unfold jfk
 split
 .rename_i hg;rw[jqp h,jqp hg,hl];unfold mulF;simp[Int.mul_comm]
 .rfl
def BF.mono(h:BF j f)(hk:j<=k):BF k f:=⟨λc hc=>(h.1 c hc).mono hk,h.2.mono hk⟩
def BF.mul(h:BF j f)(hn:Bt k n):BF (j+k) (mulF f n):=by refine⟨λc hc=>?_,h.2.mul hn⟩;obtain⟨d,hd,rfl⟩:=zcv.mp hc;exact(h.1 d hd).mul hn
def BF.neg(h:BF j f):BF j (mulF f (-1)):=by
 refine⟨λc hc=>?_,?_⟩
 .obtain⟨d,hd,rfl⟩:=zcv.mp hc;have:=(h.1 d hd).neg;simpa[Int.mul_neg]using this
 .have:=h.2.neg;show Bt j (f.2*-1);simpa[Int.mul_neg]using this
def BF.add(h:BF j f)(k:BF j g):BF (j+1) (addF f g):=by refine⟨λc hc=>?_,h.2.add k.2⟩;obtain⟨⟨a,b⟩,hd,rfl⟩:=zcv.mp hc;have:=zca hd;exact(h.1 _ this.1).add (k.1 _ this.2)
def BF.sgn(h:BF j f)(hs:s=1\/s=-1):BF j (mulF f s):=by
 rcases hs with rfl|rfl
 .rw[jff];exact h
 .exact h.neg
structure FO(n:Nat)(f:Fm):Prop where
 len:f.1.length=n
 bf:BF KB f
variable (n af wd) in
def jsm(ts:Ab)(f:Fm):Prop:=∀ps:List (Str×Int),ps.map (·.1)=ts->∀o r,OkT n o f->Run n af wd ps (o::r) (takeF o f::r)
variable (n af wd) in
def jgu(ts:Ab)(f:Fm):Prop:=∀ps:List (Str×Int),ps.map (·.1)=ts->∀(o:OS)(r:List OS),o.star=none->(o.sign=1\/o.sign=-1)->o.total.1.length=n->∃o',Run n af wd ps (o::r) (o'::r)/\o'.total=o.total/\o'.term=mulF f o.sign/\(o'.sign=o.sign)
variable (n af wd) in
def jip(ts:Ab)(f:Fm):Prop:=∀ps:List (Str×Int),ps.map (·.1)=ts->∀r:List OS,∃o',Run n af wd ps (fresh n::r) (o'::r)/\wholeF o'=f/\o'.total.1.length=n/\o'.term.1.length=n
theorem jBv(h:s=1\/s=-1):Bt KB s:=by
 have:Bt 1 s:=by unfold Bt;rcases h with rfl|rfl<;>decide
 exact this.mono (by decide)
def jx5{w:Str}(hw:wd w):jsm n af wd [w] (af w):=by
 intro ps hp o r T;obtain⟨q,ps',rfl⟩:∃q ps',ps=q::ps':=by cases ps<;>grind
 simp only[aE,List.cons.injEq,dY]at hp;obtain⟨rfl,rfl⟩:=hp;exact .wrd hw T (.nil _)
def jom{ps:List (Str×Int)}(h:ps.map (·.1)=a++b):∃p1 p2,ps=p1++p2/\p1.map (·.1)=a/\p2.map (·.1)=b:=by
 obtain⟨p1,p2,e,h1,h2⟩:=List.map_eq_append_iff.mp h;grind
def jjl{ps:List (Str×Int)}(h:ps.map (·.1)=a::b):∃p p2,ps=(a,p)::p2/\p2.map (·.1)=b:=by cases ps<;>grind
def jtv(hs:jip n af wd ts f):jsm n af wd ((("(":Str)::ts)++[(")":Str)]) f:=by intro ps hp o r T;obtain⟨p1,p2,rfl,h1,h2⟩:=jom hp;obtain⟨p,q1,rfl,h4⟩:=jjl h1;obtain⟨p',q2,rfl,h3⟩:=jjl h2;have h2':=dY.mp h3;subst h2';obtain⟨o',R,w,l1,l2⟩:=hs q1 h4 _;refine .opn (R.append (.cls l1 (by simp_all) ?_));rw[w];exact .nil _
def jAk(h:jsm n af wd ts f)(hf:FO n f):jgu n af wd ts f:=by
 intro ps hp o r hs hg _;refine⟨_,h ps hp o r ⟨hf.len,hf.bf,jBv hg,λz=>absurd hs z⟩,rfl,?_,rfl⟩
 grind[takeF]
def jt6:jbw "*"=true:=by decide +kernel
def jt5:jbw "+"=true:=by decide +kernel
def jlg:jbw "-"=true:=by decide +kernel
def jsa(o:OS)(p:Int):signF o "+" p=⟨wholeF o,o.term,1,none⟩:=by unfold signF;rw[aJ (by decide +kernel),aJ (by decide +kernel)]
def jo4(o:OS)(p:Int):signF o "-" p=⟨wholeF o,o.term,-1,none⟩:=by unfold signF;rw[aJ (by decide +kernel),aD rfl]
def jy9(f g:Fm)(t:Int):jfk (mulF f t) g=mulF (jfk f g) t:=by
 unfold jfk
 split
 .exact jus _ _ _
 .show mulF g (f.2*t)=_;rw[jqg]
def jAl(h1:jgu n af wd ts f)(h2:jsm n af wd us g)(hf:FO n f)(hg:FO n g)(hp:jbb f=true\/jbb g=true):jgu n af wd (ts++("*":Str)::us) (jfk f g):=by
 intro ps hps o r hs hsg ht;obtain⟨p1,p2,rfl,e1,e2⟩:=jom hps;obtain⟨p,q2,rfl,e3⟩:=jjl e2;obtain⟨o1,R,t1,t2,t3⟩:=h1 p1 e1 o r hs hsg ht;have T:OkT n { o1 with star:=some p } g:=⟨hg.len,hg.bf,by grind[jBv],λy=>by rw[t2];exact⟨hf.bf.sgn hsg,by rw[jcs];exact hf.len,hp.imp (λz=>jvf z _) id⟩⟩
 refine⟨takeF { o1 with star:=some p } g,R.append (.sgn jt6 (by grind) (h2 q2 e3 _ _ T)),t1,?_,t3⟩
 .show jfk _ g=_;rw[t2,jy9]
def jAj(h:jgu n af wd ts f)(hf:FO n f):jip n af wd ts f:=by
 intro ps hp r;obtain⟨o',R,t1,t2,t3⟩:=h ps hp (fresh n) r rfl (.inl rfl) (by simp[fresh]);have e2:o'.term=f:=by rw[t2];exact jff f
 refine⟨o',R,?_,by grind[fresh],by rw[e2];exact hf.len⟩;unfold wholeF;rw[t1,e2,show(fresh n).total=(List.replicate f.1.length 0,0) by rw[hf.len];rfl];exact jgv
def jG6(h:jgu n af wd ts f)(hf:FO n f):jip n af wd (("-":Str)::ts) (mulF f (-1)):=by
 intro ps hp r;obtain⟨p,q,rfl,e⟩:=jjl hp;have hw:wholeF (fresh n)=(List.replicate n 0,0):=by have:=jgv (f:=(List.replicate n 0,0));rw[dB]at this;exact this
 obtain⟨o',R,t1,t2,t3⟩:=h q e ⟨wholeF _,_,-1,_⟩ r rfl (.inr rfl) (by rw[hw];simp);refine⟨o',.sgn jlg (by simp[fresh]) (R),?_,by simp_all,by rw[t2,jcs];exact hf.len⟩;unfold wholeF;rw[t1,t2,hw];have:=jgv (f:=mulF f (-1));rw[jcs,hf.len]at this;exact this
def jrd(h1:jip n af wd ts f)(h2:jgu n af wd us g)(hg:FO n g)(hc:jbw c=true)(ht:t=1\/t=-1)(hs:∀o p,signF o c p=⟨wholeF o,o.term,t,none⟩):jip n af wd (ts++c::us) (addF f (mulF g t)):=by
 intro ps hps r;obtain⟨p1,p2,rfl,e1,e2⟩:=jom hps;obtain⟨p,q2,rfl,e3⟩:=jjl e2;obtain⟨o1,R,w,l1,l2⟩:=h1 p1 e1 r;have hl:(wholeF o1).1.length=n:=by unfold wholeF;rw[jkv (by simp_all)];exact l1
 obtain⟨o',R2,t1,t2,t3⟩:=h2 q2 e3 ⟨wholeF o1,_,t,_⟩ r rfl ht hl;refine⟨o',R.append (.sgn hc l1 (by rw[hs];exact R2)),?_,by clear e2;grind,by rw[t2,jcs];exact hg.len⟩;show addF _ _=_;simp_all
def jG5(h1:jip n af wd ts f)(h2:jgu n af wd us g)(hg:FO n g):jip n af wd (ts++("+":Str)::us) (addF f g):=by
 have:=jrd h1 h2 hg jt5 (.inl rfl) jsa
 rwa [jff]at this
def jG7(h1:jip n af wd ts f)(h2:jgu n af wd us g)(hg:FO n g):jip n af wd (ts++("-":Str)::us) (addF f (mulF g (-1))):=
 jrd h1 h2 hg jlg (.inr rfl) jo4
noncomputable def S1(c:Nat):Str:=⟨#[c]⟩
noncomputable def isL(c:Nat):Bool:=decide (97<=c)&&decide (c<=122)
noncomputable def isG(c:Nat):Bool:=decide (48<=c)&&decide (c<=57)
def jqd(a b:Nat):gLe (.str (S1 a)) (.str (S1 b))=some (.bl (decide (a<=b))):=by
 show some (D.bl (!decide ([b]<[a])))=_;have:([b]<[a])↔b<a:=by
  constructor
  .intro h;cases h<;>simp_all
  .exact λh=>.rel h
 grind
def jpp{g g':D->D->Option D}{fa fb fc:DSt->M D}{Y:DSt}{x y z:D}{p q:Bool}(ha:fa Y=M.p x)(hb:fb Y=M.p y)(hc:fc Y=M.p z)(h1:g x y=some (.bl p))(h2:g' y z=some (.bl q)):fChain g g' fa fb fc Y=M.p (.bl (p&&q)):=by
 unfold fChain;rw[ha,hb,M.b_p,M.b_p,h1]
 cases p with
 |true=>rw[hc,M.b_p,h2];rfl
 |false=>rfl
def jc5(c:Nat):jaq [.str (S1 c)]=oK (.bl (isL c)):=by unfold jaq;rw[jer];unfold jf6;rw[jtm,jpp (by rfl) rfl (by rfl) (jqd _ _) (jqd _ _)];rfl
def jg0(c:Nat):ja9 [.str (S1 c)]=oK (.bl (isG c)):=by unfold ja9;rw[jer];unfold jf5;rw[jtm,jpp (by rfl) rfl (by rfl) (jqd _ _) (jqd _ _)];rfl
def len_str(h:x.length<=50000):kLen [.str x]=oI x.length:=aD (zdz (by assumption) (by decide))
structure At(x:Str)(pre rest:Aa):Prop where
 eq:x.cps.toList=pre++rest
 small:x.length<=50000
def At.len{pre rest:Aa}(h:At x pre rest):x.length=pre.length+rest.length:=by
 have:x.length=x.cps.toList.length:=by simp[Str.length]
 rw[this,h.eq,zcb]
def At.ix{pre rest:Aa}(h:At x pre (c::rest)):gIx (.str x) (.int (pre.length:Nat))=oS (S1 c):=by show(if x.length<=sizeLine then(atI _ _).map _ else none)=_;rw[aD (by have:=h.small;exact zdz (by assumption) (by decide)),h.eq,DL.atI_get (v:=c) (by simp)];rfl
def At.step{pre a rest:Aa}(h:At x pre (a++rest)):At x (pre++a) rest:=⟨by rw[h.eq,aU],h.small⟩
def At.slice{pre a rest:Aa}(h:At x pre (a++rest)):Txt.slice x (some (pre.length:Nat)) (some ((pre.length+a.length:Nat):Int))=⟨a.toArray⟩:=by
 rw[eq_of_beq (PyProof.Rows.slice_closes ⟨Int.natCast_nonneg _,by grind,by rw[h.eq];simp;lia⟩),h.eq];have:((pre.length):Int).toNat=pre.length:=fX _;have:(((pre.length+a.length):Int)-(pre.length)).toNat=a.length:=by lia
 simp_all
def At.cut{pre a rest:Aa}(h:At x pre (a++rest)):cutD (.str x) (some (pre.length:Nat)) (some ((pre.length+a.length:Nat):Int))=oS ⟨a.toArray⟩:=by show(if x.length<=sizeLine then some _ else none)=_;rw[aD (by have:=h.small;exact zdz (by assumption) (by decide)),h.slice]
def jio{t:DSt->M Bool}{g:DSt->M Out}{k:Nat}{Y Y':DSt}(h1:t Y=some (.ok true))(h2:g Y=some (.ok (.nx Y'))):whileD t g (k+1) Y=whileD t g k Y':=by
 conv=>lhs;unfold whileD
 simp_all
def je6{t:DSt->M Bool}{g:DSt->M Out}{k:Nat}{Y:DSt}(h1:t Y=some (.ok false)):whileD t g (k+1) Y=nX Y:=by
 conv=>lhs;unfold whileD
 rw[h1,M.b_ok,aJ nofun];rfl
def ed(x:Str)(p e:Nat):DSt:=[oS x,oI p,oI e]
def jOc(x:Str)(p e:Nat):jbr (ed x p e)=nX (ed x p (e+1)):=by rfl
def jOd(x:Str)(p e:Nat):jbs (ed x p e)=nX (ed x p (e+1)):=by rfl
def jM8{pre rest:Aa}(h:At x pre (c::rest)):jan (ed x p pre.length)=oK (isL c&&decide (pre.length<p+10)):=by
 unfold jan ed;have hl:=h.len;rw[aI]at hl;have e1:decide (((pre.length):Int)<(x.length))=true:=aX (by lia);dsimp;simp only[stpA,len_str h.small,e1,h.ix,jc5]
 cases isL c with
 |false=>rfl
 |true=>
  have:decide (((pre.length):Int)-(p)<10)=decide (pre.length<p+10):=by
   by_cases q:pre.length<p+10
   .grind
   .grind
  simp only[this];rfl
def jM9(h:At x pre []):jan (ed x p pre.length)=oK false:=by
 unfold jan ed;have hl:=h.len;rw[bZ]at hl;have e1:decide (((pre.length):Int)<(x.length))=false:=aN (by simp_all);dsimp;simp only[stpA,len_str h.small,e1];rfl
def jNa{pre rest:Aa}(h:At x pre (c::rest)):jap (ed x p pre.length)=oK (isG c):=by
 unfold jap ed;have hl:=h.len;rw[aI]at hl;have e1:decide (((pre.length):Int)<(x.length))=true:=aX (by lia);dsimp;simp only[stpA,len_str h.small,e1,h.ix,jg0];rfl
def jNb(h:At x pre []):jap (ed x p pre.length)=oK false:=by
 unfold jap ed;have hl:=h.len;rw[bZ]at hl;have e1:decide (((pre.length):Int)<(x.length))=false:=aN (by simp_all);dsimp;simp only[stpA,len_str h.small,e1];rfl
def Stop(q:Nat->Bool):Aa->Prop
|[]=>True
|c::_=>q c=false
theorem jkp{rest:Aa}(hr:Stop isL rest):∀(a pre:Aa)(k:Nat),At x pre (a++rest)->(∀c∈a,isL c=true)->pre.length+a.length<=p+10->a.length<k ->
  whileD jan jbr k (ed x p pre.length)=nX (ed x p (pre.length+a.length))
|[],pre,k,h,ha,hb,hk=>by
  obtain⟨k,rfl⟩:∃j,k=j+1:=⟨k-1,by lia⟩
  cases rest with
  |nil=>exact je6 (jM9 h)
  |cons c rest=>have:=hr;exact je6 (by rw[jM8 h,this];rfl)
|c::a,pre,k,h,ha,hb,hk=>by
  obtain⟨k,rfl⟩:∃j,k=j+1:=⟨k-1,by lia⟩
  rw[aI]at hb hk;have e:jan (ed x p pre.length)=oK true:=by rw[jM8 h,ha c zaa,aX (show pre.length<p+10 by lia)];rfl
  rw[jio e (jOc x p _)];have:=jkp (p:=p) hr a _ k (At.step (a:=[c]) h) (λd hd=>ha d (zaw _ hd)) (by simp;lia) (Nat.le_of_succ_le_succ (by assumption));rw[zcb,f7]at this;rw[this,aI,eJ,eA 1]
theorem jkg{rest:Aa}(hr:Stop isG rest):∀(a pre:Aa)(k:Nat),At x pre (a++rest)->(∀c∈a,isG c=true)->a.length<k ->
  whileD jap jbs k (ed x p pre.length)=nX (ed x p (pre.length+a.length))
|[],pre,k,h,ha,hk=>by
  obtain⟨k,rfl⟩:∃j,k=j+1:=⟨k-1,by lia⟩
  cases rest with
  |nil=>exact je6 (jNb h)
  |cons c rest=>have:=hr;exact je6 (by rw[jNa h,this])
|c::a,pre,k,h,ha,hk=>by
  obtain⟨k,rfl⟩:∃j,k=j+1:=⟨k-1,by lia⟩
  have e:jap (ed x p pre.length)=oK true:=by rw[jNa h,ha c zaa]
  rw[jio e (jOd x p _)];have:=jkg (p:=p) hr a _ k (At.step (a:=[c]) h) (λd hd=>ha d (zaw _ hd)) (Nat.le_of_succ_le_succ (by assumption));rw[zcb,f7]at this;rw[this,aI,eJ,eA 1]
inductive Piece:Aa->Aa->Prop
| sign {c:Nat}{rest:Aa}:isL c=false->isG c=false->Piece [c] rest
| zero {rest:Aa}:Piece [48] rest
| name {a rest:Aa}:a≠[]->(∀c∈a,isL c=true)->a.length<=10->Stop isL rest->Piece a rest
| num {a rest:Aa}:a≠[]->(∀c∈a,isG c=true)->a.head?≠some 48->Stop isG rest->Piece a rest
def jqa(h:isG c=true):isL c=false:=by
 unfold isG isL at *;grind
def jEo(c:Nat):gNe (.str (S1 c)) (.str "0")=some (.bl !(c==48)):=by
 show some (D.bl !(S1 c==S1 48))=_;have:(S1 c==S1 48)=(c==48):=by
  by_cases q:c=48
  .subst q;rfl
  .rw[aH.mpr q,aH.mpr (λz=>q (by grind[S1]))]
 rw[this]
def jbg{g1 g2:DSt->M Out}{Y Y':DSt}(h:g1 Y=some (.ok (.nx Y'))):gSeq g1 g2 Y=g2 Y':=by simp_all
def jj9{t:DSt->M Bool}{g1 g2:DSt->M Out}{Y:DSt}{b:Bool}(h:t Y=some (.ok b)):gIf t g1 g2 Y=if b=true then g1 Y else g2 Y:=by simp_all
def jIn{pre a rest:Aa}(h:At x pre (a++rest))(P:Piece a rest)(hf:x.length<FUEL):jca [.str x,.int (pre.length:Nat)]=oK (.int ((pre.length+a.length:Nat):Int)):=by
 obtain⟨c,a',rfl⟩:∃c a',a=c::a':=by cases a with|nil=>exact absurd rfl (by cases P<;>first|assumption|simp)|cons c a'=>exact⟨c,a',rfl⟩
 have ix:=At.ix h;have h':=At.step (a:=[c]) h;have hl:=h.len;rw[zcb,aI]at hl;have hp:(pre++[c]).length=pre.length+1:=by simp
 have s0:gSet 2 (f2 gCat (vR 1) (cI 1)) [oS x,oI (pre.length),none]=nX (ed x pre.length (pre++[c]).length):=by simp only[hp];rfl
 have t1:tTru (fCall jaq (fCons (f2 gIx (vR 0) (vR 1)) fNil)) (ed x pre.length (pre++[c]).length)=oK (isL c):=by
  unfold ed;dsimp;simp only[stpA,ix,jc5];rfl
 have t2:DL.tAnd (tTru (fCall ja9 (fCons (f2 gIx (vR 0) (vR 1)) fNil))) (t2 gNe (f2 gIx (vR 0) (vR 1)) (cS "0")) (ed x pre.length (pre++[c]).length)=oK (isG c&&!(c==48)):=by unfold ed;simp[ix,jg0,jEo];cases isG c<;>rfl
 have body:gIf (tTru (fCall jaq (fCons (f2 gIx (vR 0) (vR 1)) fNil))) (whileD jan jbr FUEL) (gIf (DL.tAnd (tTru (fCall ja9 (fCons (f2 gIx (vR 0) (vR 1)) fNil))) (DL.t2 gNe (f2 gIx (vR 0) (vR 1)) (cS "0"))) (whileD jap jbs FUEL) gNx) (ed x pre.length (pre++[c]).length)=nX (ed x pre.length ((pre++[c]).length+a'.length)):=by
  rw[jj9 t1,jj9 t2]
  cases P with
  |sign q1 q2=>rw[q1,q2];rfl
  |zero=>rfl
  |name _ q1 q2 q3=>rw[q1 c zaa,aD rfl];exact jkp q3 a' _ _ h' (λd hd=>q1 d (zaw _ hd)) (by simp at q2;clear hl ix;lia) (by lia)
  |num _ q1 q2 q3=>have hg:=q1 c zaa;rw[jqa hg,hg,(aH.mpr (λz=>q2 (by rw[z];rfl))),aJ nofun,aD (by decide)];exact jkg q3 a' _ _ h' (λd hd=>q1 d (zaw _ hd)) (by lia)
 show(jb7 [oS x,oI _,none]).b _=_;unfold jb7;rw[jbg s0,jbg body,hp,aI,show pre.length+1+a'.length=pre.length+(a'.length+1) by lia];rfl
noncomputable def St(a:Aa):Str:=⟨a.toArray⟩
abbrev sT(a:Aa):D:=.str (St a)
theorem jay(a:Aa):(St a).length=a.length:=by simp[St,Str.length]
def st_one(c:Nat):St [c]=S1 c:=rfl
def jku(h:St a=St b):a=b:=by grind[St]
theorem je5(a b:Aa):(St a==St b)=(a==b):=by
 by_cases q:a=b
 .subst q;simp
 .rw[aH.mpr q,aH.mpr (λz=>q (jku z))]
def jul:(Str.ofString "(")=St [40]:=by rfl
def jEg:(Str.ofString ")")=St [41]:=by rfl
def joi:(Str.ofString "-")=St [45]:=by rfl
def jPb:(Str.ofString "*")=St [42]:=by decide +kernel
def joj:(Str.ofString " ")=St [32]:=by rfl
theorem jo5(a:Aa):jbw (St a)=([43]==a || ([45]==a || ([42]==a || false))):=by
 show(St [43]==St a || (St [45]==St a || (St [42]==St a || false)))=_
 grind[je5]
def jse(h:jbw (St [c])=true):jak [.str (S1 c),.str "behind",.int d]=oK (.bl true):=by
 unfold jak;rw[jfp];unfold jc3;have e:gIn (.str (S1 c)) (.tup [.str "+",.str "-",.str "*"])=some (.bl true):=by rw[jp8,<- st_one,h]
 simp[e];rfl
def jwh(h:0<d):jak [.str (S1 41),.str "behind",.int d]=oK (.bl true):=by unfold jak;rw[jfp];unfold jc3;simp[aX h];rfl
def jwi:jak [.str (S1 45),.str "beginning",.int d]=oK (.bl true):=by rfl
def jnl(hw:(wt==Str.ofString "behind")=false)(hc:c≠45)(h:c=40\/isL c=true\/isG c=true):jak [.str (S1 c),.str wt,.int d]=oK (.bl true):=by
 unfold jak;rw[jfp];unfold jc3;have q:(S1 c==Str.ofString "-")=false:=by rw[joi,<- st_one,je5];exact aH.mpr (by simp_all)
 rw[jbg (by rw[jj9 (by simp[jcp,hw];rfl),aJ nofun];rfl),jbg (by rw[jj9 (by simp[jcp,q];rfl),aJ nofun];rfl)];have q2:(S1 c==Str.ofString "(")=(c==40):=by rw[jul,<- st_one,je5];simp
 simp[jcp,q2,jc5,jg0]
 by_cases h1:c=40
 .subst h1;rfl
 .rw[aH.mpr h1,jPo];rcases h with h|h|h
  .trivial
  .rw[h];rfl
  .rw[h];cases isL c<;>rfl
noncomputable def dby(a:Aa):Int:=if a=[40]then 1 else if a=[41]then -1 else 0
def wby(a:Aa):Str:=if a=[40]then "beginning" else if jbw (St a)=true then "factor" else "behind"
def jxt(a:Aa):je9 [sT a]=oK (.int (dby a)):=by
 unfold je9;rw[jer];unfold jhi dby;have q1:(St a==Str.ofString "(")=(a==[40]):=by rw[jul,je5]
 have q2:(St a==Str.ofString ")")=(a==[41]):=by rw[jEg,je5]
 simp only[stpA,jcp,q1]
 by_cases h:a=[40]
 .rw[bB.mpr h,aD h];rfl
 .rw[aH.mpr h,aJ h];dsimp;simp only[stpA,jcp,q2]
  by_cases h2:a=[41]
  .rw[bB.mpr h2,aD h2];rfl
  .rw[aH.mpr h2,aJ h2];rfl
def jw5(a:Aa):jbz [sT a]=oK (.str (wby a)):=by
 unfold jbz;rw[jer];unfold jc4 wby;have q1:(St a==Str.ofString "(")=(a==[40]):=by rw[jul,je5]
 dsimp;simp only[stpA,jcp,q1]
 by_cases h:a=[40]
 .rw[bB.mpr h,aD h];rfl
 .rw[aH.mpr h,aJ h];simp[jp8];cases jbw _<;>rfl
def pd(x:Str)(ps:List (Str×Int))(d:Int)(wt:Str)(pl:Nat)(e w:Option D):DSt:=[oS x,oL (ps.map pcD),oI d,oS wt,oI pl,e,w]
def jsc{fa:DSt->M D}{fl fh:DSt->M (Option Int)}{Y:DSt}{x d:D}{lo hi:Option Int}(ha:fa Y=M.p x)(hl:fl Y=M.p lo)(hh:fh Y=M.p hi)(h:cutD x lo hi=some d):fSl fa fl fh Y=M.p d:=by unfold fSl;rw[ha,hl,hh];show M.o _=_;rw[h];rfl
def jCk{i:Nat}{fa:DSt->M D}{Y:DSt}{ds:List D}{d:D}(h:fa Y=M.p d)(hi:(Y[i]?).join=oL ds)(hl:ds.length<sizeLine):gApp i fa Y=nX (Y.set i (oL (ds++[d]))):=by rw[jC3,h,M.b_p,hi,jpi hl];rfl
def jkk{pre a rest:Aa}(h:At x pre (a++rest))(P:Piece a rest)(hf:x.length<FUEL):
  gSeq (gSet 5 (fCall jca (fCons (vR 0) (fCons (vR 4) fNil)))) (gSeq (gSet 6 (fSl (vR 0) (oSome (vR 4)) (oSome (vR 5)))) G) (pd x ps d wt pre.length e w)=G (pd x ps d wt pre.length (oI ((pre.length+a.length:Nat):Int)) (some (sT a))):=by
 have e1:gSet 5 (fCall jca (fCons (vR 0) (fCons (vR 4) fNil))) (pd x ps d wt pre.length e w)=nX (pd x ps d wt pre.length (oI ((pre.length+a.length))) w):=by
  have:=jIn h P hf;unfold pd;dsimp;simp only[stpA,this];rfl
 have e2:gSet 6 (fSl (vR 0) (oSome (vR 4)) (oSome (vR 5))) (pd x ps d wt pre.length (oI ((pre.length+a.length:Nat))) w)=nX (pd x ps d wt pre.length (oI ((pre.length+a.length))) (some (sT a))):=by have:=jsc (fa:=vR 0) (fl:=oSome (vR 4)) (fh:=oSome (vR 5)) (Y:=pd x ps d wt _ (oI _) w) rfl rfl rfl h.cut;rw[jxz,this];rfl
 simp_all
def jPl(a:Aa):gNe (sT a) (.str " ")=some (.bl !(a==[32])):=by show some (D.bl !(St a==St [32]))=_;rw[je5]
def jsg{pre rest:Aa}(h:At x pre (32::rest))(hf:x.length<FUEL):
  ∃e' w',jal (pd x ps d wt pre.length e w)=nX (pd x ps d wt (pre++[32]).length e' w'):=by
 refine⟨oI ((pre.length+[32].length)),some (sT [32]),?_⟩
 .unfold jal;rw[jkk h (.sign rfl rfl) hf];simp only[zcb];rfl
def jAg{pre a rest:Aa}(h:At x pre ((c::a)++rest))(P:Piece (c::a) rest)(hf:x.length<FUEL)(hs:(c::a)≠[32])(hm:jak [.str (S1 c),.str wt,.int d]=oK (.bl true))(hz:ps.length<=100000):
  ∃e' w',jal (pd x ps d wt pre.length e w)=nX (pd x (ps++[(St (c::a),(pre.length:Int))]) (d+dby (c::a)) (wby (c::a)) (pre++(c::a)).length e' w'):=by
 refine⟨oI ((pre.length+(c::a).length)),some (sT (c::a)),?_⟩
 .unfold jal;rw[jkk h P hf];have hx:(St (c::a)).length<=50000:=by
   have:=h.len;rw[jay];have hsm:=h.small;simp at this |-
   clear hm h hf;lia
  have ix:gIx (sT (c::a)) (.int 0)=oS (S1 c):=by show(if(St _).length<=sizeLine then(atI _ 0).map _ else none)=_;rw[aD (by rw[bG];lia)];unfold St;simp;rfl
  let Y1:=pd x ps d wt pre.length (oI ((pre.length+(c::a).length:Nat))) (some (sT (c::a)))
  have t:DL.t2 gNe (vR 6) (fC (.str " ")) Y1=oK true:=by
   show DL.t2 gNe _ _ (pd _ _ _ _ _ _ _)=_;unfold pd;dsimp;simp only[stpA,jPl]
   rw[aH.mpr hs];rfl
  have t0:DL.tNot (tTru (fCall jak (fCons (f2 gIx (vR 6) (cI 0)) (fCons (vR 3) (fCons (vR 2) fNil))))) Y1=oK false:=by
   show DL.tNot _ (pd _ _ _ _ _ _ _)=_;unfold pd;dsimp;simp only[stpA,ix,hm];rfl
  have t1:gIf (DL.tNot (tTru (fCall jak (fCons (f2 gIx (vR 6) (cI 0)) (fCons (vR 3) (fCons (vR 2) fNil)))))) gNever gNx Y1=nX Y1:=by rw[jj9 t0,aJ nofun];rfl
  let Y2:=pd x (ps++[(St (c::a),(pre.length:Int))]) d wt pre.length (oI ((pre.length+(c::a).length))) (some (sT (c::a)))
  have aq:gApp 1 (fL gTupD (fCons (vR 6) (fCons (vR 4) fNil))) Y1=nX Y2:=by have:=jCk (i:=1) (fa:=fL gTupD (fCons (vR 6) (fCons (vR 4) fNil))) (Y:=Y1) rfl rfl (by rw[zav,bG];lia);rw[this];show some _=nX (pd _ _ _ _ _ _ _);unfold pd;rw[bA];rfl
  let Y3:=pd x (ps++[(St (c::a),(pre.length:Int))]) (d+dby (c::a)) wt pre.length (oI ((pre.length+(c::a).length:Nat))) (some (sT (c::a)))
  have t3:gAug 2 gAdd (fCall je9 (fCons (vR 6) fNil)) Y2=nX Y3:=by
   show gAug _ _ _ (pd _ _ _ _ _ _ _)=nX _;unfold pd;dsimp;simp only[stpA,jxt];rfl
  let Y4:=pd x (ps++[(St (c::a),(pre.length:Int))]) (d+dby (c::a)) (wby (c::a)) pre.length (oI ((pre.length+(c::a).length:Nat))) (some (sT (c::a)))
  have t4:gSet 3 (fCall jbz (fCons (vR 6) fNil)) Y3=nX Y4:=by
   show gSet _ _ (pd _ _ _ _ _ _ _)=nX _;unfold pd;dsimp;simp only[stpA,jw5];rfl
  rw[jbg (by rw[jj9 t,aD rfl,jbg t1,jbg aq,jbg t3,t4]),zcb];rfl
inductive Word:Aa->Prop
| zero:Word [48]
| name {a:Aa}:a≠[]->(∀c∈a,isL c=true)->a.length<=10->Word a
| num {a:Aa}:a≠[]->(∀c∈a,isG c=true)->a.head?≠some 48->Word a
inductive Acc:LL->Str->Nat->Prop
| done:Acc [] "behind" 0
| word {a:Aa}{ts:LL}{wt:Str}{d:Nat}:Word a->(wt==Str.ofString "behind")=false->Acc ts "behind" d->Acc (a::ts) wt d
| opn {ts:LL}{wt:Str}{d:Nat}:(wt==Str.ofString "behind")=false->Acc ts "beginning" (d+1)->Acc ([40]::ts) wt d
| cls {ts:LL}{d:Nat}:Acc ts "behind" d->Acc ([41]::ts) "behind" (d+1)
| neg {ts:LL}{d:Nat}:Acc ts "factor" d->Acc ([45]::ts) "beginning" d
| bin {a:Nat}{ts:LL}{d:Nat}:jbw (St [a])=true->Acc ts "factor" d->Acc ([a]::ts) "behind" d
noncomputable def jaj:List (Nat×Aa)->Nat->Aa
|[],p=>List.replicate p 32
|(k,a)::s,p=>List.replicate k 32++(a++jaj s p)
def jhv(h:jbw (St [a])=true):a=43\/a=45\/a=42:=by grind[jo5]
def jwm{q:Nat->Bool}(fg:q 32=false)(h41:q 41=false)(hs:q 43=false/\q 45=false/\q 42=false):∀(ac:List (Nat×Aa)) (p d:Nat),Acc (ac.map (·.2)) "behind" d->Stop q (jaj ac p)
|[],0,_,_=>trivial
|[],p+1,_,_=>fg
| (k+1,a)::s,p,_,_=>fg
|(0,a)::s,p,d,h=>by
  generalize hw:(Str.ofString _)=wt at h
  cases h with
  |word _ hb _=>rw[<- hw]at hb;exact absurd hb (by decide +kernel)
  |opn hb _=>rw[<- hw]at hb;exact absurd hb (by decide +kernel)
  |cls _=>exact h41
  |neg _=>exact absurd hw (by decide +kernel)
  |bin hc _=>
   rcases jhv hc with rfl|rfl|rfl
   .exact hs.1
   .exact hs.2.1
   .exact hs.2.2
def jM7{pre rest:Aa}(h:At x pre (c::rest)):jao (pd x ps d wt pre.length e w)=oK true:=by
 unfold jao pd;have hl:=h.len;rw[aI]at hl;dsimp;simp only[stpA,len_str h.small,aX (show((pre.length):Int)<(x.length) by grind)];rfl
def jM6(h:At x pre []):jao (pd x ps d wt pre.length e w)=oK false:=by
 unfold jao pd;have hl:=h.len;rw[bZ]at hl;dsimp;simp only[stpA,len_str h.small,aN (show¬((pre.length):Int)<(x.length) by simp_all)];rfl
theorem jjz{rest:Aa}(hf:x.length<FUEL):∀(k:Nat)(pre:Aa)(m:Nat)(e w:Option D),At x pre (List.replicate k 32++rest) ->
  ∃e' w',whileD jao jal (m+k) (pd x ps d wt pre.length e w)=whileD jao jal m (pd x ps d wt (pre++List.replicate k 32).length e' w')/\At x (pre++List.replicate k 32) rest
|0,pre,m,e,w,h=>⟨e,w,by simp,by simpa using h⟩
|k+1,pre,m,e,w,h=>by
  obtain⟨e1,w1,q⟩:=jsg h hf;obtain⟨e2,w2,q2,h2⟩:=jjz hf k _ m e1 w1 (At.step (a:=[32]) h);refine⟨e2,w2,?_,?_⟩
  .rw[<- eJ,jio (jM7 h) q,q2];simp
  grind
def jNh{pre a rest:Aa}(h:At x pre ((c::a)++rest))(P:Piece (c::a) rest)(hf:x.length<FUEL)(hs:(c::a)≠[32])(hm:jak [.str (S1 c),.str wt,.int d]=oK (.bl true))(hz:ps.length<=100000):
  ∃e' w',whileD jao jal (m+1) (pd x ps d wt pre.length e w)=whileD jao jal m (pd x (ps++[(St (c::a),(pre.length:Int))]) (d+dby (c::a)) (wby (c::a)) (pre++(c::a)).length e' w')/\At x (pre++(c::a)) rest:=by obtain⟨e',w',q⟩:=jAg h P hf hs hm hz;exact⟨e',w',jio (jM7 h) q,h.step⟩
def jcv(h:Word a):dby a=0/\wby a="behind"/\a≠[32]/\∃c a',a=c::a'/\c≠45/\(isL c=true\/isG c=true):=by
 have cg:∃c a',a=c::a'/\(isL c=true\/isG c=true):=by
  cases h with
  |zero=>exact⟨48,[],rfl,.inr rfl⟩
  |name h1 h2 _=>cases a<;>grind
  |num h1 h2 _=>cases a<;>grind
 obtain⟨c,a',rfl,hc⟩:=cg;have ne:∀k,isL k=false->isG k=false->c≠k:=λk h1 h2 z=>by grind
 have n1:=ne 40 rfl rfl;have n4:=ne 45 rfl rfl;have s:jbw (St (c::a'))=false:=by rw[jo5];simp;refine⟨λz=>absurd z.symm (ne 43 rfl rfl),λz=>absurd z.symm n4,λz=>absurd z.symm (ne 42 rfl rfl)⟩
 refine⟨?_,?_,by simp[(ne 32 rfl rfl)],c,a',rfl,n4,hc⟩
 .unfold dby;rw[aJ (by simp[n1]),aJ (by simp[(ne 41 rfl rfl)])]
 .unfold wby;rw[aJ (by simp[n1]),s,aJ nofun]
def jsi{a rest:Aa}(h:Word a)(h1:Stop isL rest)(h2:Stop isG rest):Piece a rest:=by
 cases h with
 |zero=>exact .zero
 |name q1 q2 q3=>exact .name q1 q2 q3 h1
 |num q1 q2 q3=>exact .num q1 q2 q3 h2
def d41:dby [41]=-1:=rfl
def w40:wby [40]="beginning":=rfl
def w41:wby [41]="behind":=by rfl
def dsg(h:jbw (St [a])=true):dby [a]=0/\wby [a]="factor":=by rcases jhv h with rfl|rfl|rfl<;>exact⟨rfl,rfl⟩
def pcs:List (Nat×Aa)->Nat->List (Str×Int)
|[],_=>[]
|(k,a)::s,o=>(St a,((o+k:Nat):Int))::pcs s (o+k+a.length)
theorem jva:∀(ac:List (Nat×Aa)) (o:Nat),(pcs ac o).map (·.1)=ac.map λq=>St q.2
|[],_=>rfl
|(k,a)::s,o=>by show St a::(pcs s _).map _=_;rw[jva s];rfl
set_option tactic.hygienic true in
def joh(hf:x.length<FUEL):∀(ac:List (Nat×Aa)) (pre:Aa) (ps:List (Str×Int)) (d:Nat) (wt:Str) (e w:Option D) (m:Nat),At x pre (jaj ac p)->Acc (ac.map (·.2)) wt d->(jaj ac p).length<m->ps.length+ac.length<=100000 ->
  ∃ps' e' w' pl,whileD jao jal m (pd x ps d wt pre.length e w)=nX (pd x ps' (0:Nat) "behind" pl e' w')/\ps'=ps++pcs ac pre.length:=by
 intro ac
 induction ac with
|nil=>
  intro pre ps d wt e w m h A hm hz;have ci:∃j,m=j+1+p:=⟨m-1-p,by grind[jaj]⟩
  obtain⟨j,rfl⟩:=ci;obtain⟨e',w',q,h2⟩:=jjz hf p pre _ e w (by rw[aO];exact h)
  cases A with
  |done=>refine⟨ps,e',w',(pre++List.replicate p 32).length,?_,by simp[pcs]⟩;rw[q,je6 (jM6 h2)]
|cons sg ac ih=>
  intro pre ps d wt e w m h A hm hz;obtain⟨k,a⟩:=sg;have hr:(jaj ((k,a)::ac) p).length=k+(a.length+(jaj ac p).length):=by rw[show jaj _ p=List.replicate k 32++(a++jaj _ p)from rfl];simp
  have ha:a≠[]:=by
   intro z;subst z
   cases A with
   |word hw _ _=>obtain⟨_,_,_,c,a',z,_⟩:=jcv hw;cases z
  have hal:1<=a.length:=by cases a with|nil=>trivial|cons _ _=>simp
  obtain⟨j,rfl⟩:∃j,m=j+1+k:=⟨m-1-k,by clear hz;lia⟩
  obtain⟨e1,w1,q1,h1⟩:=jjz hf k pre _ e w h;rw[q1];have fin:∀(c:Nat)(a':Aa)(d':Nat)(bz:Str),a=c::a'->Piece (c::a') (jaj ac p)->(c::a')≠[32]->jak [.str (S1 c),.str wt,.int d]=oK (.bl true)->(d)+dby (c::a')=(d')->wby (c::a')=bz->Acc (ac.map (·.2)) bz d' ->
    ∃ps' e' w' pl,whileD jao jal (j+1) (pd x ps d wt (pre++List.replicate k 32).length e1 w1)=nX (pd x ps' (0) "behind" pl e' w')/\ps'=ps++pcs ((k,a)::ac) pre.length:=by rintro c a' d' bz rfl P hs hm' hd hw A';obtain⟨e2,w2,q2,h2⟩:=jNh (ps:=ps) h1 P hf hs hm' (by clear hr;lia);rw[q2,hd,hw];obtain⟨ps',e',w',pl,q3,q4⟩:=ih _ (ps++[(St _,((pre++List.replicate k 32).length:Int))]) d' bz e2 w2 j h2 A' (by lia) (by grind);refine⟨ps',e',w',pl,q3,?_⟩;rw[q4];simp[pcs,eJ]
  cases A with
  |word hw hb A'=>obtain⟨f1,f2,f3,c,a',rfl,f4,f5⟩:=jcv hw;exact fin c a' d _ rfl (jsi hw (jwm rfl rfl ⟨rfl,rfl,rfl⟩ _ p d A') (jwm rfl rfl ⟨rfl,rfl,rfl⟩ _ p d A')) f3 (jnl hb f4 (.inr f5)) (by simp_all) f2 A'
  |opn hb A'=>exact fin 40 [] _ _ rfl (.sign rfl rfl) nofun (jnl hb nofun (.inl rfl)) (by rfl) w40 A'
  |cls A'=>rename_i d';exact fin 41 [] d' _ rfl (.sign rfl rfl) nofun (jwh (by simp_all)) (by rw[d41];lia) w41 A'
  |neg A'=>exact fin 45 [] d _ rfl (.sign rfl rfl) nofun jwi (by rw[(dsg (by rfl)).1,Int.add_zero]) (dsg (by rfl)).2 A'
  |bin hc A'=>
   rename_i c;have hl:isL c=false/\isG c=false/\c≠32:=by rcases jhv hc with rfl|rfl|rfl<;>exact⟨rfl,rfl,by decide⟩
   exact fin c [] d _ rfl (.sign hl.1 hl.2.1) (by simp[hl.2.2]) (jse hc) (by rw[(dsg hc).1,Int.add_zero]) (dsg hc).2 A'
def jvd(hx:x.cps.toList=jaj ac p)(hs:x.length<=50000)(A:Acc (ac.map (·.2)) "beginning" 0)(hz:ac.length<=100000):
  jgk [.str x]=oK (.lst ((pcs ac 0).map pcD)):=by
 have hf:x.length<FUEL:=by rw[jCf];exact eC (by assumption) (by decide)
 have hl:(jaj ac p).length=x.length:=by rw[<- hx];simp[Str.length]
 obtain⟨ps,e,w,pl,q,hp⟩:=joh hf _ [] [] 0 _ _ _ FUEL ⟨hx,hs⟩ A (by simp_all) (by simp_all);have hp':=by simpa using hp
 rw[<- hp'];have e1:gSet 1 (fL gLstD fNil) [oS x,none,none,none,none,none,none]=nX [oS x,oL [],none,none,none,none,none]:=rfl;have e2:gSet 2 (cI 0) [oS x,oL [],none,none,none,none,none]=nX [oS x,oL [],oI 0,none,none,none,none]:=rfl;have e3:gSet 3 (cS _) [oS x,oL [],oI 0,none,none,none,none]=nX [oS x,oL [],oI 0,oS "beginning",none,none,none]:=rfl;have e4:gSet 4 (cI 0) [oS x,oL [],oI 0,oS _,none,none,none]=nX (pd x [] (0:Nat) "beginning" ([]:Aa).length _ _):=rfl;have e5:gIf (DL.tOr (DL.t2 gNe (vR 3) (cS "behind")) (DL.t2 gGt (vR 2) (cI 0))) gNever gNx (pd x ps (0:Nat) "behind" pl e w)=nX (pd x ps (0) "behind" pl e w):=by rfl
 show(gSeq _ _ [oS x,none,none,none,none,none,none]).b _=_;rw[jbg e1,jbg e2,jbg e3,jbg e4,jbg q,jbg e5];rfl
end MyLaw
namespace MyLaw
open L2 DL PySem.NumText
def jsd(x:Str)(u:Option Int):Txt.slice x none u=Txt.slice x (some 0) u:=by
 unfold Txt.slice;have:Builtin.Str.strSliceIndices none u 1 x.length=Builtin.Str.strSliceIndices (some 0) u 1 x.length:=by
  unfold Builtin.Str.strSliceIndices sliceRange;have z:max 0 (min 0 (x.length:Int))=0:=by rfl
  cases u<;>rfl
 rw[this]
def jC2(b:Aa):∀(m:Nat),b.foldl (λacc c=>acc*10+(c-48)) m=m*10 ^ b.length+b.foldl (λacc c=>acc*10+(c-48)) 0:=by
 induction b with
 |nil=>simp
 |cons c b ih=>
  intro m;rw[bQ,bQ,ih,ih (0*10+(c-48)),aI,Nat.pow_succ,Nat.add_mul,Nat.zero_mul,dG,Nat.mul_assoc,Nat.mul_comm 10 _]
  lia
def jtj(a b:Aa):digitsVal (a++b)=digitsVal a*10 ^ b.length+digitsVal b:=by unfold digitsVal;rw[cB,jC2]
theorem jA7:∀(b:Aa)(m:Nat),AllDigits b->b.foldl (λacc c=>acc*10+(c-48)) m<(m+1)*10 ^ b.length
|[],m,_=>by simp
|c::b,m,h=>by have h2:=h.head;have:=jA7 b (m*10+(c-48)) h.tail;rw[bQ,aI,Nat.pow_succ];refine zcx this ?_;rw[Nat.mul_comm (10 ^ b.length) 10,<- Nat.mul_assoc];exact cX _ (by lia)
def jOi(h:AllDigits a):digitsVal a<10 ^ a.length:=by
 have:=jA7 a 0 h
 rwa [dG,Nat.one_mul]at this
theorem jHx(h:∀c∈a,isG c=true):AllDigits a:=λc hc=>by grind[isG]
def jBf(h:AllDigits a)(h1:a≠[])(h2:a.length<=640):kIntT [sT a]=oI (digitsVal a:Nat):=by
 have hl:=jay a;have e:(St a).cps.toList=a:=by simp[St]
 show(if(St a).length<=640 then(intText? _).map _ else none)=_;rw[aD (by assumption),intText_digits (h) (h1) (by clear e;lia),e];rfl
def jH5(h:AllDigits a)(hl:a.length<=60):Bt 200 ((digitsVal a:Nat):Int):=by
 unfold Bt;have h1:=jOi h;have h2:10 ^ a.length<=10^60:=dX (by decide) hl;lia
def jN8(a b:Aa)(h:(a++b).length<=50000):At (St (a++b)) a b:=⟨by simp[St],h⟩
def jkh(h:AllDigits a)(h1:a≠[])(hl:a.length<=40):jbl [sT a]=oK (.int (digitsVal a:Nat)):=by
 let f:=a.length % 18
 let k:=a.length / 18
 have b9:f+18*k=a.length:=Nat.mod_add_div _ _;have hz:(St a).length<=50000:=zdz hl (by decide);have ai:kLen [sT a]=oI (a.length):=by rw[len_str hz,jay]
 have cut:∀(i n:Nat),i+n<=a.length->cutD _ _ _=some (sT _):=λi n hin=>by
  have e:a=a.take i++((a.drop i).take n++(a.drop i).drop n):=by rw[List.take_append_drop,List.take_append_drop]
  have A:At _ _ _:=⟨by rw[<- e];simp[St],hz⟩
  have:=A.cut;rw[(eB (zdz (eP i n) hin)),(eB (by rw[cU];exact Nat.le_sub_of_add_le (by rw[eA];exact hin)))]at this;exact this
 have dig:∀(i n:Nat),AllDigits ((a.drop i).take n):=λi n c hc=>h c (List.mem_of_mem_drop (gd hc))
 let Y0 (n:Nat) (z:Option D):=[some (sT a),oI (f),oI (n),z]
 have e1:gSet 1 (f2 gMod (fL kLen (fCons (vR 0) fNil)) (cI 18)) [some (sT a),none,none,none]=nX [some (sT a),oI (f),none,none]:=by simp[ai];rfl
 have e2:gSet 2 (fIf (DL.t2 gEq (vR 1) (cI 0)) (cI 0) (fL kIntT (fCons (fSl (vR 0) oNone (oSome (vR 1))) fNil))) [some (sT a),oI (f),none,none]=nX (Y0 (digitsVal (a.take f)) none):=by
  by_cases q:f=0
  .have q':(((f):Int)==0)=true:=by rw[q];rfl
   have z:digitsVal (a.take f)=0:=by rw[q];rfl
   simp[q',z];rfl
  .have q':(((f):Int)==0)=false:=aH.mpr λz=>q (Int.ofNat.inj z)
   have c:cutD (sT a) none (some (f))=some (sT (a.take f)):=by have:=cut 0 f (by rw[dG];exact Nat.mod_le _ _);rw[dG,List.drop_zero]at this;rw[<- this];show(if _ then some _ else none)=(if _ then some (D.str (Txt.slice _ (some 0) _))else none);rw[jsd]
   have s:fSl (vR 0) oNone (oSome (vR 1)) [some _,oI _,none,none]=M.p _:=jsc rfl rfl rfl c;simp[q',s,(jBf (a:=a.take f) (λc hc=>h c (gd hc)) (λz=>by have:=congrArg List.length z;rw[eB (Nat.mod_le _ _)]at this;exact q this) (zdz (List.length_take_le _ _) (zdz (cY (Nat.mod_lt _ (by decide))) (by decide))))];rfl
 have rg:rangeArgs3 [.int (f),.int (a.length),.int 18]=some (jb0 (f) 18 k):=by
  show(if(0)<18/\(18)<2^60 then some _ else none)=_;rw[aD (by decide)];have:(Builtin.Range.rangeSize ((f)) (a.length) 18).toNat=k:=by
   unfold Builtin.Range.rangeSize
   by_cases q:f<a.length
   .clear cut b9 hz;grind
   .clear b9;grind
  rw[this]
 obtain⟨Y',e3,hd⟩:=jld (g:=jbf) (tg:=DL.gName 3) (jb0 (f) 18 k) (λj Y=>∃z,Y=Y0 (digitsVal (a.take (f+18*j))) z) (λj hj Y hzz=>by
  obtain⟨z,hz⟩:=hzz;subst hz;have hjk:=by simpa[jb0]using hj
  have hg:(jb0 _ 18 k)[j]=.int ((f+18*j:Nat)):=by simp[jb0];lia
  refine⟨_,by rw[hg];rfl,Y0 _ (oI ((f+18*j:Nat))),.inl ?_,_,rfl⟩;have bo:f+18*j+18<=a.length:=by rw[<- b9,eJ];exact fJ (Nat.mul_le_mul_left 18 hjk) f
  have c:=cut _ 18 bo;have l2:=eB (by rw[cU];exact Nat.le_sub_of_add_le (by rw[eA];exact bo));have v:digitsVal (a.take (f+18*(j+1)))=digitsVal (a.take (f+18*j))*1000000000000000000+digitsVal ((a.drop (f+18*j)).take 18):=by
   have:a.take (f+18*(j+1))=a.take (f+18*j)++(a.drop (f+18*j)).take 18:=by rw[show f+18*(j+1)=(f+18*j)+18 from rfl,List.take_add]
   rw[this,jtj,l2]
  rw[v];show gSet 2 _ _=_;dsimp only [fA1];rw[jxz,e_2,e_2,e_L,jcf,(jsc rfl rfl rfl c)]
  show((M.o _).b λx=>((M.o _).b _)).b _=_;rw[(mT (b:=60) (jH5 (λc hc=>h c (gd hc)) (zdz (List.length_take_le' _ _) (zdz hl (by decide)))) (by unfold Bt;decide)),(jBf (dig _ 18) (λz=>by rw[z]at l2;cases l2) (by rw[l2];decide))];show some (Except.ok (Out.nx [_,_,some _,_]))=some (Except.ok (Out.nx [_,_,some _,_]));rw[show((digitsVal _*1000000000000000000+digitsVal _:Nat))=((digitsVal (a.take (f+18*j))):Int)*1000000000000000000+((digitsVal ((a.drop (f+18*j)).take 18))) by rfl]) _ ⟨_,rfl⟩
 obtain⟨z,rfl⟩:=hd;have hk:(jb0 (f) 18 k).length=k:=by simp[jb0]
 have all:a.take (f+18*(jb0 (f) 18 k).length)=a:=by rw[hk,b9,List.take_length]
 rw[all]at e3;have e4:gFor (iArgs rangeArgs3 (fCons (vR 1) (fCons (fL kLen (fCons (vR 0) fNil)) (fCons (cI 18) fNil)))) (DL.gName 3) jbf (Y0 (digitsVal (a.take f)) none)=nX (Y0 (digitsVal a) z):=by show gFor _ _ _ [some _,oI _,oI _,none]=_;simp[ai,rg];exact e3
 show(jaz [some _,none,none,none]).b outD=_;unfold jaz;rw[jbg e1,jbg e2,jbg e4];rfl
def jwj(h:c≠45):Txt.startswith (St (c::a)) (Str.ofString "-")=false:=by rw[joi];unfold Txt.startswith Builtin.Str.subAt St;simp;intro _;show¬List.take 1 _=[45];simp;exact h
def jm9(h:AllDigits a)(h1:a≠[])(hl:a.length<=40):ja1 [sT a]=oK (.int (digitsVal a:Nat)):=by
 obtain⟨c,a',rfl⟩:∃c a',a=c::a':=by cases a<;>grind
 have hc:=h.head;have t:tTru (fSm gStarts (vR 0) (cS "-")) [some (sT (c::a'))]=oK false:=by have:fSm gStarts (vR 0) (cS "-") [some (sT (c::a'))]=M.p _:=rfl;rw[jtp,this,(jwj (by lia))];rfl
 show(jb2 [some _]).b _=_;unfold jb2;rw[jbg (by rw[jj9 t,aJ nofun];rfl)];simp[jkh h h1 hl];rfl
def nmD(aa:LL):List D:=aa.map λa=>sT a
abbrev oN(l:LL):Option D:=some (.lst (nmD l))
def juw(a b:LL):nmD a++nmD b=nmD (a++b):=by unfold nmD;simp_all
def frmW(aa:LL)(a:Aa):Fm:=match a with
 |[]=>([],0)
 |c::r=>if isL c=true then(aa.map λb=>if b=c::r then 1 else 0,0)else(List.replicate aa.length 0,(digitsVal (c::r):Nat))
def ix0(h:a.length<=40000):gIx (sT (c::a)) (.int 0)=oS (S1 c):=by show(if(St _).length<=sizeLine then(atI _ 0).map _ else none)=_;rw[aD (by rw[bG,jay,aI];lia)];unfold St;simp;rfl
def jDq(hn:aa.length<=1000)(h:Word a)(hl:a.length<=40):jcb [.lst (nmD aa),sT a]=oK (fm (frmW aa a)):=by
 obtain⟨_,_,_,c,a',rfl,_,hc⟩:=jcv h;have t:tTru (fCall jaq (fCons (f2 gIx (vR 1) (cI 0)) fNil)) [oN aa,some (sT (c::a'))]=oK (isL c):=by simp[ix0 (a:=a') (by grind),jc5];rfl
 show(jb8 [oN _,some _]).b _=_;unfold jb8 frmW
 by_cases q:isL c=true
 .rw[q]at t;rw[jC5,jj9 t,aD rfl];have e:=ja7 (c:=[some (sT _)]) (fe:=jcx) (K:=λb=>D.str (St b)) (F:=λb=>.int (if b=c::a' then 1 else 0)) aa none (λb hb=>by
   unfold jcx;simp[jcp,je5]
   by_cases z:b=c::a'
   .rw[bB.mpr z,aD z];rfl
   .rw[aH.mpr z,aJ z];rfl)
  have e':compD _ _ _ (nmD _) _=some _:=e;dsimp;simp only[stpA,e',ja3 (ds:=aa.map _) (by grind),aD q]
  unfold fm;rw[aP];rfl
 .have q':=by simpa using q
  rw[q']at t;have hg:AllDigits (c::a')/\(c::a')≠[]:=by
   cases h with
   |zero=>exact⟨λd hd=>by simp_all,by simp⟩
   |name _ h2 _=>simp_all
   |num _ h2 _=>grind[jHx]
  rw[jbg (by rw[jj9 t,aJ nofun];rfl)];have ln:(nmD aa).length=aa.length:=by simp[nmD]
  simp[(e_rep (Y:=[oN aa,some _]) (fl:=fCons (cI 0) fNil) (fb:=fL kLen (fCons (vR 0) fNil)) _ _ rfl (by simp[ln]) hn),jm9 hg.1 hg.2 hl,aJ q];unfold fm;rw[List.map_replicate];rfl
noncomputable def occS(s sub:Str)(hi ae:Nat)(r:Array Nat×Nat)(i:Nat):Array Nat×Nat:=
 if((r.1.size<ae/\r.2<=i)/\i+sub.length<=hi)/\Builtin.Str.subAt s sub i=true then(r.1.push i,i+sub.length)else r
def jqn(s sub:Str)(lo hi ae:Nat):Builtin.Str.occurrences s sub lo hi ae=((List.range' lo (hi+1-lo)).foldl (occS s sub hi ae) (#[],lo)).1.toList:=by
 unfold Builtin.Str.occurrences;simp[Id.run];have go:∀(l:Aa)(a:Array Nat×Nat),(forIn (m:=Id) l a λi r =>
    if((r.fst.size<ae/\r.snd<=i)/\i+sub.length<=hi)/\Builtin.Str.subAt s sub i=true then
     pure (ForInStep.yield (r.fst.push i,i+sub.length))
    else pure (ForInStep.yield (r.fst,r.snd)))=l.foldl (occS s sub hi ae) a:=by
  intro l
  induction l with
  |nil=>exactλz=>rfl
  |cons i l ih=>grind[occS]
 rw[go];rfl
theorem jev:∀(l:Aa),(∀i∈l,ae<=r.1.size\/i<r.2\/hi<i+sub.length\/Builtin.Str.subAt s sub i=false)->l.foldl (occS s sub hi ae) r=r
|[],_=>rfl
|i::l,h=>by
  rw[bQ];have:occS s sub hi ae r i=r:=by
   unfold occS;rcases h i (zaa ..)with z|z|z|z
   .lia
   .clear h;lia
   .lia
   .simp_all
  rw[this];exact jev l λj hj=>h j (zaw _ hj)
theorem jB0(t u:Aa)(i:Nat):Builtin.Str.subAt (St t) (St u) i=decide ((t.drop i).take u.length=u):=by
 unfold Builtin.Str.subAt;rw[jay];unfold St;grind
def jKb(h:t[i]?≠some c):Builtin.Str.subAt (St t) (St (c::u)) i=false:=by
 rw[jB0];refine aN λz=>h ?_
 cases e:t.drop i with
 |nil=>grind
 |cons d r=>
  have:=congrArg (λl=>l[0]?) e;grind
def jHq:Builtin.Str.subAt (St (a++(u++r))) (St u) a.length=true:=by grind[jB0,decide_eq_true,List.drop_left,List.take_left]
def jlv(t:Aa)(i j:Nat):Builtin.Str.strSub (St t) i j=St ((t.drop i).take (j-i)):=by
 unfold Builtin.Str.strSub St;simp_all
def ji4(h:c∉p):(List.range' b.length p.length).foldl (occS (St (b++(p++r))) (St (c::u)) hi ae) st=st:=by
 refine jev _ λi hi=>.inr (.inr (.inr (jKb λz=>h ?_)));grind
def je0(a m k:Nat):List.range' a (m+k)=List.range' a m++List.range' (a+m) k:=by simp_all
def jp6(h1:st.1.size<ae)(h2:st.2<=b.length)(ht:t=b++((c::u)++r)):
  (List.range' b.length (u.length+1)).foldl (occS (St t) (St (c::u)) t.length ae) st=(st.1.push b.length,b.length+(u.length+1)):=by
 subst ht;rw[List.range'_succ,bQ];have e:occS (St (b++((c::u)++r))) (St (c::u)) (b++((c::u)++r)).length ae st b.length=(st.1.push b.length,b.length+(u.length+1)):=by unfold occS;rw[aD ⟨⟨⟨h1,h2⟩,by rw[jay];simp⟩,jHq⟩,jay,aI]
 rw[e];refine jev _ λi hi=>.inr (.inl ?_)
 rw[List.mem_range'_1]at hi;lia
def jjr(h:c∉p)(hl:(p++((c::u)++r)).length<=50000):gPart (St (p++((c::u)++r))) (sT (c::u))=some (.tup [sT p,sT (c::u),sT r]):=by
 have ax:Builtin.Str.occurrences (St (p++((c::u)++r))) (St (c::u)) 0 (St (p++((c::u)++r))).length 1=[p.length]:=by
  rw[jqn,jay,Nat.sub_zero];have e:(p++((c::u)++r)).length+1=p.length+((u.length+1)+(r.length+1)):=by simp;lia
  rw[e,je0,je0,cB,cB,dG];have f1:=ji4 (b:=[]) (r:=(c::u)++r) (u:=u) (hi:=p.length+(u.length+1+(r.length+1))-1) (ae:=1) (st:=(#[],0)) h;have e2:(p++((c::u)++r)).length=p.length+(u.length+1+(r.length+1))-1:=by lia
  rw[dP,bZ]at f1;rw[e2,f1];have f2:=jp6 (b:=p) (u:=u) (r:=r) (c:=c) (ae:=1) (st:=(#[],0)) (by decide) (aY _) rfl;rw[e2]at f2;rw[f2,jev _ λi hi=>.inl (by simp)];simp
 unfold gPart;dsimp only;rw[aD ⟨by rfl,by rw[jay,bG];lia⟩];unfold partS;rw[ax];dsimp only;rw[jlv,jlv,jay,jay];grind
noncomputable def jai(ag:Aa):LL->Aa
|[]=>[]
|[p]=>p
|p::q::ps=>p++(ag++jai ag (q::ps))
noncomputable def jj4(k:Nat):Nat->LL->Aa
|_,[]=>[]
|_,[_]=>[]
|a,p::q::ps=>(a+p.length)::jj4 k (a+p.length+k) (q::ps)
theorem jmo:∀(ps:LL)(b:Aa)(st:Array Nat×Nat)(t:Aa)(ae:Nat),(∀p∈ps,c∉p)->t=b++jai (c::u) ps->st.2<=b.length->st.1.size<=b.length->ae=t.length+1->ps≠[] ->
  ((List.range' b.length (t.length+1-b.length)).foldl (occS (St t) (St (c::u)) t.length ae) st).1.toList=st.1.toList++jj4 (u.length+1) b.length ps
|[],_,_,_,_,_,_,_,_,_,h=>absurd rfl h
|[p],b,st,t,ae,hp,ht,h1,h2,hl,_=>by
  have aw:t=b++(p++[]):=by rw[ht,aO];rfl
  have e:t.length+1-b.length=p.length+1:=by rw[aw];simp;lia
  rw[e,je0,cB];have f1:=ji4 (b:=b) (r:=[]) (u:=u) (hi:=t.length) (ae:=ae) (st:=st) (hp p (zaa ..));rw[<- aw]at f1;rw[f1,jev]
  .unfold jj4;simp
  .intro i hi;rw[List.mem_range'_1]at hi;rw[jay,aI]
   lia
|p::q::ps,b,st,t,ae,hp,ht,h1,h2,hl,_=>by
  have aw:t=b++(p++((c::u)++jai _ _)):=ht;have bj:t=(b++p)++((c::u)++jai (c::u) (q::ps)):=by rw[aw,aU]
  have b7:t=(b++p++(c::u))++jai (c::u) (q::ps):=by rw[bj,aU (b++p)]
  have lt:t.length=b.length+p.length+(u.length+1)+(jai (c::u) (q::ps)).length:=by rw[b7];simp;lia
  have e:t.length+1-b.length=p.length+((u.length+1)+(t.length+1-(b++p++(c::u)).length)):=by rw[zcb,zcb,aI];lia
  rw[e,je0,cB];have f1:=ji4 (b:=b) (r:=(c::u)++jai (c::u) (q::ps)) (u:=u) (hi:=t.length) (ae:=ae) (st:=st) (hp p (zaa ..));rw[<- aw]at f1;rw[f1,je0,cB,<- zcb,jp6 (by lia) (by grind) bj];have ih:=jmo _ _ (st.1.push (b++p).length,(b++p).length+(u.length+1)) t _ (λx hx=>hp x (zaw _ hx)) b7 (by simp;lia)
   (by grind) hl (by simp)
  have e4:(b++p++(c::u)).length=(b++p).length+(u.length+1):=by rw[zcb,aI]
  rw[e4]at ih;rw[e4,ih,Array.toList_push,aU,zcb];rfl
theorem jme:∀(ps:LL)(b t:Aa),t=b++jai ag ps->ps≠[] ->
  ((b.length::(jj4 ag.length b.length ps).map λx=>x+ag.length).zip (jj4 ag.length b.length ps++[t.length])).map (λx=>Builtin.Str.strSub (St t) x.1 x.2)=ps.map St
|[],_,_,_,h=>absurd rfl h
|[p],b,t,ht,_=>by
  unfold jj4;simp only[dP,fK,aE];rw[jlv,ht];show [St (((b++p).drop _).take ((b++p).length-b.length))]=[St p];grind
|p::q::ps,b,t,ht,_=>by
  have bj:t=b++(p++(ag++jai ag _)):=ht;have b7:t=(b++p++ag)++jai ag (q::ps):=by rw[bj];simp
  have ih:=jme _ _ t b7 (by simp);have e4:(b++p++ag).length=b.length+p.length+ag.length:=by simp;lia
  rw[e4]at ih;show((b.length::((b.length+p.length)::jj4 _ _ _).map _).zip (((b.length+p.length)::jj4 _ _ _)++[t.length])).map _=_;rw[aE,cV,fK,aE,aE,ih,jlv,bj,List.drop_left,gF,List.take_left]
def jyi(h:u.all (λx=>decide (x<256))=true):Builtin.Str.strKind (St u)=1:=by simp_all [Builtin.Str.strKind,St]
def jz5(hu:(c::u).all (λx=>decide (x<256))=true)(hp:∀p∈ps,c∉p)(h0:ps≠[]):Txt.split (St (jai (c::u) ps)) (St (c::u))=ps.map St:=by
 have ax:Builtin.Str.occurrences (St (jai (c::u) ps)) (St (c::u)) 0 (St (jai (c::u) ps)).length ((St (jai (c::u) ps)).length+1)=jj4 (u.length+1) 0 ps:=by rw[jqn,jay];have:=jmo (u:=u) ps [] (#[],0) _ _ hp rfl (aY _) (aY _) rfl h0;simpa using this
 have one:∀p,ps=[p]->Txt.split (St (jai (c::u) ps)) (St (c::u))=ps.map St:=λp e=>by
  subst e;have e2:(Builtin.Str.occurrences (St (jai (c::u) [p])) (St (c::u)) 0 (St (jai (c::u) [p])).length ((St (jai (c::u) [p])).length+1)).isEmpty=true:=by rw[ax];rfl
  unfold Txt.split
  split<;>rfl
 cases ps with
 |nil=>trivial
 |cons p ps=>
  cases ps with
  |nil=>grind
  |cons q ps=>
   unfold Txt.split;rw[aJ,aJ,ax]
   .have:=jme (ag:=c::u) (p::q::ps) [] _ rfl (by simp);exact this
   .grind[jj4]
   .rw[jyi hu,Bool.or_eq_true,aV,aV,jay,jay];rintro (z|z)
    .have:(jai (c::u) (p::q::ps)).length=p.length+((c::u).length+(jai (c::u) (q::ps)).length):=by show(p++(c::u++jai _ _)).length=_;rw[zcb,zcb]
     lia
    .have:1<=Builtin.Str.strKind (St (jai (c::u) (p::q::ps))):=by
      unfold Builtin.Str.strKind
      split
      .lia
      .lia
     simp_all
def jin(hu:(c::u).all (λx=>decide (x<256))=true)(hp:∀p∈ps,c∉p)(h0:ps≠[])(hl:(jai (c::u) ps).length<=50000)(hn:ps.length<=1000):
  gSplit (St (jai (c::u) ps)) (sT (c::u))=oN ps:=by unfold gSplit;dsimp only;rw[jz5 hu hp h0,aD ⟨by rfl,by rw[jay,bG];lia,by rw[zav,bG];lia⟩,aP];rfl
def frmS(aa:LL)(w:Str):Fm:=frmW aa w.cps.toList
def jDr(aa:LL)(a:Aa):frmS aa (St a)=frmW aa a:=by unfold frmS St;simp
abbrev WdN(aa:LL):Str->Prop:=Wd (.lst (nmD aa)) (frmS aa)
def jQx(hn:aa.length<=1000)(h:Word a)(hl:a.length<=40):WdN aa (St a):=by
 obtain⟨f1,f2,f3,c,a',rfl,f4,f5⟩:=jcv h;have ne:∀k,isL k=false->isG k=false->c≠k:=λk h1 h2 z=>by simp_all
 refine⟨?_,?_,?_,(jDq hn h hl)⟩
 .rw[jul,je5];exact aH.mpr (by simp[(ne 40 rfl rfl)])
 .rw[jEg,je5];exact aH.mpr (by simp[(ne 41 rfl rfl)])
 .rw[jo5];simp;exact⟨λz=>absurd z.symm (ne 43 rfl rfl),λz=>absurd z.symm f4,λz=>absurd z.symm (ne 42 rfl rfl)⟩
theorem jt0(x:Str):∀(aa:LL)(a:Aa),x=St a->a∈aa->inD (.str x) (nmD aa)=true
|[],_,_,h=>(nomatch h)
|b::aa,a,e,h=>by
  have:inD (.str x) (nmD (b::aa))=((St b==x) || inD _ (nmD _)):=rfl;rw[this];rcases aM.mp h with rfl|h
  .rw[e];simp
  .rw[jt0 x _ a e h];simp
def jrp(aa:LL):(nmD aa).all jj5=true:=by unfold nmD;rw[List.all_map];exact aQ.mpr λz z=>rfl
def jxn(hl:a.length<=40000)(h:isL c=true->(c::a)∈aa):jfw [oN aa,x,pc,some (sT (c::a)),p]=nX [oN aa,x,pc,some (sT (c::a)),p]:=by
 unfold jfw;have t:DL.tAnd (tTru (fCall jaq (fCons (f2 gIx (vR 3) (cI 0)) fNil))) (DL.t2 gNotIn (vR 3) (vR 0)) [oN aa,x,pc,some (sT (c::a)),p]=oK false:=by
  cases q:isL c with
  |false=>simp[ix0 hl,jc5,q];rfl
  |true=>
   have g:gNotIn (sT (c::a)) (.lst (nmD aa))=some (.bl false):=by show(if(true&&(nmD _).all _)=true then some _ else none)=_;rw[jrp,aD (by decide),jt0 _ _ _ rfl (h q)];rfl
   simp[ix0 hl,jc5,q,g];rfl
 rw[jj9 t,aJ nofun];rfl
def jyt(aa:LL):SI.okVs (nmD aa)=true:=by
 induction aa with
 |nil=>rfl
 |cons a l ih=>exact(aC _ _).mpr ⟨rfl,ih⟩
set_option tactic.hygienic true in
def jFr(hn:aa.length<=1000)(hx:x.cps.toList=jaj ac p)(hs:x.length<=50000)(A:Acc (ac.map (·.2)) "beginning" 0)(hz:ac.length<=100000)
  (hw:∀q∈ac,∃c a,q.2=c::a/\(isL c=true->(c::a)∈aa)/\a.length<=40000) (S:jip aa.length (frmS aa) (WdN aa) (ac.map λq=>St q.2) f):jfc [.lst (nmD aa),.str x]=oK (fm f):=by
 have e1:=jvd hx hs A hz;have e2:=jva ac 0;generalize pcs _ 0=ps at e1 e2;obtain⟨o',R,w,l1,l2⟩:=S ps e2 [];have ai:=by have:=congrArg List.length e2;simpa using this
 have t1:gSet 2 (fCall jgk (fCons (vR 1) fNil)) [oN aa,oS x,none,none,none]=nX [oN aa,oS x,oL (ps.map pcD),none,none]:=by simp[e1];rfl
 obtain⟨Y',aq,_,y,z,rfl⟩:=jlc (tg:=gTup2 3 4) (λrem Y=>(∃q,rem=q.map pcD/\∀u∈q,u∈ps)/\∃y z,Y=[oN aa,oS x,oL (ps.map pcD),y,z]) (λd ds Y hzz=>by
  obtain⟨⟨q,hq,hm⟩,y,z,hδ⟩:=hzz;subst hδ
  cases q with
  |nil=>cases hq
  |cons u q=>obtain⟨rfl,rfl⟩:=cZ hq;obtain⟨s,hs1,hs2⟩:=zcv.mp (by rw[<- e2];exact List.mem_map_of_mem (hm u zaa));obtain⟨c,a,h1,h2,h3⟩:=hw s hs1;refine⟨_,rfl,_,.inl ?_,⟨q,rfl,λv hv=>hm v (zaw _ hv)⟩,oS u.1,oI u.2,rfl⟩;rw[<- hs2,h1];exact jxn h3 h2) _ _ ⟨⟨ps,rfl,λt h=>h⟩,_,_,rfl⟩
 have t3:gFor (iSeqD (vR 2)) _ _ [oN _,oS x,oL _,none,none]=nX _:=aq;have t4:gRet (fCall jfd (fCons (vR 0) (fCons (vR 2) fNil))) [oN aa,oS x,oL (ps.map pcD),y,z]=oK (.rt (fm f)):=by rw[<- w];show((jfd _).b _)=_;rw[(jow hn (by simp[nmD]) (jyt _) R l1 (by simp_all))];rfl
 show((gSeq _ _ [oN _,oS x,none,none,none]).b _)=_;rw[jbg t1,jbg t3,t4];rfl
noncomputable def dg(m:Nat):Aa:=(Nat.toDigits 10 m).map Char.toNat
def jte(m:Nat):Str.ofString (toString ((m:Nat):Int))=St (dg m):=by have:=W.KIN.signs_num m;unfold St dg;rw[<- this]
def jfl(m:Nat):AllDigits (dg m):=by intro c hc;obtain⟨ch,hch,e⟩:=zcv.mp hc;rw[<- e];exact(PyProof.Rows.digit_range (Nat.isDigit_of_mem_toDigits (by decide) (by decide) hch))
def jpv(m:Nat):digitsVal (dg m)=m:=W.KIN.val_back m
def jmg(m:Nat):dg m≠[]:=by intro e;have:=Nat.length_toDigits_pos (b:=10) (n:=m);rw[(dY.mp e)]at this;exact absurd this nofun
def jfm(h:m<10^31):(dg m).length<=31:=by
 unfold dg;have e:=(Nat.length_repr_le_iff (by decide)).mpr h
 grind[String.length_toList,Nat.toList_repr]
def jkm(h:AllDigits a):∀c∈a,isG c=true:=λc hc=>by
 have:=h c hc
 grind[isG]
def jC1(m:Nat):Word (dg m):=by
 by_cases q:(dg m).head? = some 48
 .have:dg m=[48]:=by
   have e:=toDigits_all _ (jfl m);rw[jpv]at e;have el:(Nat.toDigits 10 m).length=(dg m).length:=by unfold dg;rw[zav]
   cases hd:dg m with
   |nil=>simp_all
   |cons c r=>
    rw[hd]at q e el;simp at q;subst q;have e2:(48::r).dropWhile (· == 48)=r.dropWhile (· == 48):=by rfl
    rw[e2]at e;have bo:(r.dropWhile (· == 48)).length<=r.length:=(List.dropWhile_sublist _).length_le
    cases hr:r.dropWhile _ with
    |nil=>rw[hr]at e;have:=congrArg List.length e;rw[el]at this;simp at this;rw[this]
    |cons c' r'=>
     rw[hr]at e bo;have:=congrArg List.length e;rw[el]at this;simp at this bo;lia
  rw[this];exact .zero
 .exact .num (jmg m) (jkm (jfl m)) q
theorem jg9(a b:Aa):St a++St b=St (a++b):=by show(⟨_⟩:Str)=_;unfold St;simp
def jiv(h:a.length+b.length<=100000):gCat (sT a) (sT b)=some (sT (a++b)):=by rw[jCt (by grind[jay,sizeLine_eq]),jg9]
structure Nm(a:Aa):Prop where
 ne:a≠[]
 al:∀c∈a,isL c=true
 le:a.length<=10
theorem jn9(a:Aa):∀aa:LL,inD (sT a) (nmD aa)=decide (a∈aa)
|[]=>by rfl
|b::aa=>by
  have:inD (sT a) (nmD (b::aa))=((St b==St a) || inD _ (nmD _)):=rfl;rw[this,jn9 a _,je5]
  by_cases q:b=a
  .subst q;simp
  .rw[aH.mpr q];simp[show¬a=b fromλz=>q z.symm]
def jMx(h:v<10^31):kStr [.int (v:Nat)]=some (sT (dg v)):=by
 have hl:((v):Int).natAbs.log2<1920:=by
  by_cases q:v=0
  .simp_all
  .exact bC ((eZ q).mpr (bC h (by decide:10^31<2^200))) (by decide)
 show(if((v):Int).natAbs.log2<1920 then some _ else none)=_;rw[aD hl,jte]
def jEh:Str.ofString ""=St []:=by decide +kernel
theorem jua:∀ps:LL,Str.join (St []) (ps.map St)=St ps.flatten
|[]=>rfl
|[p]=>by rw[aE,gf,fz,List.flatten_nil,aO];rfl
|p::q::r=>by
  have ih:=jua (q::r);show St p++St []++Str.join _ _=_
  grind[jg9]
def jQr(ps:LL):Txt.join (St []) (ps.map St)=St ps.flatten:=by rw[<- jua];exact StrLaws.glued_eq_join _ _
def jwo(ps:LL):strsD (nmD ps)=some (ps.map St):=by
 have:nmD ps=(ps.map St).map .str:=by rw[aP];rfl
 rw[this,jwn]
def jx6{ps:LL}:((ps.map St).map (·.length)).sum=ps.flatten.length:=by rw[aP,List.length_flatten];congr 1
def jD3(h:ps.flatten.length<=10000):gJoin (St []) (.lst (nmD ps))=some (sT ps.flatten):=by show(match strsD _ with|some ys=>_|none=>none)=_;rw[jwo];dsimp only;rw[aD (by rw[jx6,jay,bZ,Nat.mul_zero];lia),jQr]
def jir(v:Nat)(a:Aa):Aa:=if v=1 then a else dg v++42::a
noncomputable def addP(x:Aa)(neg:Bool)(b:Aa):Aa:=if x=[]then(if neg=true then 45::b else b)else x++([32,if neg=true then 45 else 43,32]++b)
def jJy:Str.ofString " - "=St [32,45,32]:=by decide +kernel
def jJz:Str.ofString " + "=St [32,43,32]:=by rfl
def jHt(ts:LL):Prop:=∀(rest:LL)(d:Nat)(wt:Str),(wt==Str.ofString "behind")=false->Acc rest "behind" d->Acc (ts++rest) wt d
def SumA(ts:LL):Prop:=∀(rest:LL)(d:Nat),Acc rest "behind" d->Acc (ts++rest) "beginning" d
def Toks(aa ts:LL):Prop:=∀a∈ts,∃c r,a=c::r/\(isL c=true->a∈aa)/\a.length<=40
def Toks.app(h:Toks aa ts)(k:Toks aa us):Toks aa (ts++us):=λa ha=>by
 rcases zdy.mp ha with ha|ha
 .exact h a ha
 .exact k a ha
def Toks.sign(h:isL c=false):Toks aa [[c]]:=λa ha=>by simp_all
structure Fc(aa:LL)(ts:LL)(f:Fm)(b:Nat):Prop where
 ok:jsm aa.length (frmS aa) (WdN aa) (ts.map St) f
 acc:jHt ts
 toks:Toks aa ts
 len:f.1.length=aa.length
 bf:BF b f
structure Tm(aa:LL)(ts:LL)(f:Fm)(b:Nat):Prop where
 ok:jgu aa.length (frmS aa) (WdN aa) (ts.map St) f
 acc:jHt ts
 toks:Toks aa ts
 len:f.1.length=aa.length
 bf:BF b f
structure Sm(aa:LL)(ts:LL)(f:Fm)(b:Nat):Prop where
 ok:jip aa.length (frmS aa) (WdN aa) (ts.map St) f
 acc:SumA ts
 toks:Toks aa ts
 len:f.1.length=aa.length
 bf:BF b f
section
variable {aa ts us:LL}
def jH2:(Str.ofString "beginning" == Str.ofString "behind")=false:=by rfl
def jp3:(Str.ofString "factor" == Str.ofString "behind")=false:=by rfl
def Fc.fo(h:Fc aa ts f b)(hb:b<=KB):FO aa.length f:=⟨h.len,h.bf.mono hb⟩
def Tm.fo(h:Tm aa ts f b)(hb:b<=KB):FO aa.length f:=⟨h.len,h.bf.mono hb⟩
def Fc.word(hn:aa.length<=1000)(hw:Word a)(hl:a.length<=40)(hm:∀x r,a=x::r->isL x=true->a∈aa)(e:frmW aa a=f)(len:f.1.length=aa.length)(bf:BF b f):Fc aa [a] f b:=by
 refine⟨?_,λrest d wt h1 h2=>.word hw h1 h2,λa' ha=>?_,len,bf⟩
 .have:=jx5 (n:=aa.length) (af:=frmS aa) (jQx hn hw hl);rw[jDr,e]at this;exact this
 .obtain⟨_,_,_,x,r,rfl,_,_⟩:=jcv hw
  simp_all
def Fc.paren(h:Sm aa ts f b):Fc aa ([40]::ts++[[41]]) f b:=by
 refine⟨?_,λrest d wt h1 h2=>?_,(((Toks.sign rfl).app h.toks).app (Toks.sign rfl)),h.len,h.bf⟩
 .have:=jtv h.ok;rw[bA,aE];exact this
 .rw[aU,cV];exact .opn h1 (h.acc _ _ (.cls h2))
def Fc.tm(h:Fc aa ts f b)(hb:b<=KB):Tm aa ts f b:=⟨jAk h.ok (h.fo hb),h.acc,h.toks,h.len,h.bf⟩
def jy8(hf:f.1.length=aa.length)(hg:g.1.length=aa.length):(jfk f g).1.length=aa.length:=by grind[jfk,jcs]
def jFe(hf:BF b f)(hg:BF c g):BF (b+c) (jfk f g):=by
 unfold jfk
 split
 .exact hf.mul hg.2
 .rw[eA];exact hg.mul hf.2
def Tm.mul(h:Tm aa ts f b)(k:Fc aa us g c)(hb:b<=KB)(hc:c<=KB)(hp:jbb f=true\/jbb g=true):Tm aa (ts++[42]::us) (jfk f g) (b+c):=by
 refine⟨?_,λrest d wt h1 h2=>?_,h.toks.app ((Toks.sign rfl).app k.toks),jy8 h.len k.len,jFe h.bf k.bf⟩
 .have:=jAl h.ok k.ok (h.fo hb) (k.fo hc) hp;rw[bA,aE];exact this
 .rw[aU,cV];exact h.acc _ _ _ h1 (.bin (jt6) (k.acc _ _ _ jp3 h2))
def Tm.sm(h:Tm aa ts f b)(hb:b<=KB):Sm aa ts f b:=⟨jAj h.ok (h.fo hb),λrest d h2=>h.acc _ _ _ jH2 h2,h.toks,h.len,h.bf⟩
def Tm.neg(h:Tm aa ts f b)(hb:b<=KB):Sm aa ([45]::ts) (mulF f (-1)) b:=by
 refine⟨?_,λrest d h2=>(.neg (h.acc _ _ _ jp3 h2)),(Toks.sign rfl).app h.toks,by rw[jcs];exact h.len,h.bf.neg⟩
 .have:=jG6 h.ok (h.fo hb);exact this
def Sm.add(h:Sm aa ts f b)(k:Tm aa us g b)(hb:b<=KB):Sm aa (ts++[43]::us) (addF f g) (b+1):=by
 refine⟨?_,λrest d h2=>?_,h.toks.app ((Toks.sign rfl).app k.toks),by rw[jkv (by rw[h.len,k.len])];exact h.len,h.bf.add k.bf⟩
 .have:=jG5 h.ok k.ok (k.fo hb);rw[bA,aE];exact this
 .rw[aU,cV];exact h.acc _ _ (.bin (jt5) (k.acc _ _ _ jp3 h2))
def Sm.sub(h:Sm aa ts f b)(k:Tm aa us g b)(hb:b<=KB):Sm aa (ts++[45]::us) (addF f (mulF g (-1))) (b+1):=by
 refine⟨?_,λrest d h2=>?_,h.toks.app ((Toks.sign rfl).app k.toks),by rw[jkv (by rw[h.len,jcs,k.len])];exact h.len,h.bf.add k.bf.neg⟩
 .have:=jG7 h.ok k.ok (k.fo hb);rw[bA,aE];exact this
 .rw[aU,cV];exact h.acc _ _ (.bin (jlg) (k.acc _ _ _ jp3 h2))
def Tm.mono(h:Tm aa ts f b)(hc:b<=c):Tm aa ts f c:=⟨h.ok,h.acc,h.toks,h.len,h.bf.mono hc⟩
def Sm.mono(h:Sm aa ts f b)(hc:b<=c):Sm aa ts f c:=⟨h.ok,h.acc,h.toks,h.len,h.bf.mono hc⟩
end
noncomputable def plF(n:Nat)(v:Nat):Fm:=(List.replicate n 0,(v:Int))
def jqr(n v:Nat):jbb (plF n v)=true:=by unfold jbb plF;simp
def jux(hn:aa.length<=1000)(hv:v<10^31):Fc aa [dg v] (plF aa.length v) 110:=by
 have hw:=jC1 v;obtain⟨_,_,_,x,r,e,_,_⟩:=jcv hw;have hx:=jqa (jkm (jfl v) x (by grind));have hl:=jfm hv;refine .word hn hw (by lia) (λy s ey hy=>?_) ?_ (by simp[plF]) ⟨λc hc=>?_,(bC hv (by decide))⟩
 .grind
 .have:=jpv v;rw[e]at this |-
  unfold frmW plF;dsimp only;rw[hx,aJ nofun,this]
 .have:=by have:=hc;exact(gC.mp this).2
  grind[Bt]
noncomputable def hotF(n i:Nat):Fm:=((List.range n).map λk=>if k=i then 1 else 0,0)
def jEn(hn:aa.length<=1000)(hN:∀a∈aa,Nm a)(hd:aa.Nodup)(hi:i<aa.length):Fc aa [aa[i]] (hotF aa.length i) 110:=by
 have hm:=List.getElem_mem hi;have na:=hN _ hm;refine .word hn (.name na.ne na.al na.le) (by have:=na.le;lia) (λz z z z=>hm) ?_ (by simp[hotF]) ⟨λc hc=>?_,by show Bt 110 0;grind[Bt]⟩
 .obtain⟨x,r,e⟩:∃x r,aa[i]=x::r:=by
   cases h:aa[i]with
   |nil=>exact absurd h na.ne
   |cons x r=>grind
  have:frmW aa aa[i]=(aa.map λb=>if b=aa[i]then 1 else 0,0):=by
   generalize hg:aa[i]=w at e |-
   subst e;unfold frmW;dsimp only;rw[aD (na.al x (by simp_all))]
  rw[this];congr 1;apply dL
  .simp
  .intro j h1 h2
   by_cases q:j=i
   .subst q;simp
   .have pw:=List.pairwise_iff_getElem.mp hd
    clear hm hN;grind
 .obtain⟨k,_,rfl⟩:=zcv.mp hc
  grind[Bt]
def jea(x:Aa)(p:List Nat×Int):Aa:=if p.2=0 then x else addP x (decide (p.2<0)) (jir p.2.natAbs p.1)
def jb1(aa:LL)(f:Fm):Aa:=
 let y:=if f.2=0 then(aa.zip f.1).foldl jea []else addP ((aa.zip f.1).foldl jea []) (decide (f.2<0)) (dg f.2.natAbs)
 if y=[]then [48]else y
def jAu(c:Int):kAbs [.int c]=oI (c.natAbs:Nat):=by
 show some _=_;grind
def jkw(x:Aa)(n:Bool)(b:Aa):(addP x n b).length<=x.length+3+b.length:=by
 unfold addP
 split
 .split<;>simp<;>lia
 .simp;lia
theorem jpk(h:v<10^31)(ha:a.length<=40):(jir v a).length<=80:=by
 unfold jir;have:=jfm h;grind
def jEz(p:List Nat×Int):D:=.tup [sT p.1,.int p.2]
def jKa(aa:LL)(cs:Ae):zipD (nmD aa) (cs.map .int)=(aa.zip cs).map jEz:=jj3 _ _ _ cs
structure FOk(n:Nat)(f:Fm):Prop where
 len:f.1.length=n
 cs:∀c∈f.1,c.natAbs<10^31
 r:f.2.natAbs<10^31
def fm0'(f:Fm):gIx (fm f) (.int 0)=some (.tup (f.1.map .int)):=by unfold fm;rw[ix_t,at0]
def fm1'(f:Fm):gIx (fm f) (.int 1)=oI f.2:=by unfold fm;rw[ix_t,at1]
section
variable {aa:LL}
theorem jlb:∀(ps:List (List Nat×Int)) (x:Aa),(∀p∈ps,p.1.length<=40/\p.2.natAbs<10^31)->(ps.foldl jea x).length<=x.length+100*ps.length
|[],x,_=>by simp
|p::ps,x,hp=>by
  obtain⟨p1,p2⟩:=hp p zaa;have hl:(jea x p).length<=x.length+100:=by
   unfold jea
   split
   .lia
   .have:=jkw x (decide (p.2<0)) (jir p.2.natAbs p.1);have:=jpk p2 p1
    lia
  have:=jlb ps (jea x p) (λq hq=>hp q (zaw _ hq));grind
theorem jxc(hN:∀a∈aa,a.length<=40)(h:FOk aa.length f):∀p∈aa.zip f.1,p.1.length<=40/\p.2.natAbs<10^31:=λp hp=>⟨hN _ (zca hp).1,h.cs _ (zca hp).2⟩
theorem jhs:∀(a b:List (Nat×Aa)) (p:Nat),jaj (a++b) p=jaj a 0++jaj b p
|[],b,p=>rfl
|(k,t)::a,b,p=>by show List.replicate k 32++(t++jaj (a++b) p)=(List.replicate k 32++(t++jaj a 0))++jaj b p;rw[jhs a b p,aU,aU]
theorem jd0:∀ts:LL,jaj (ts.map λt=>(0,t)) 0=ts.flatten
|[]=>rfl
|t::ts=>by show List.replicate 0 32++(t++jaj _ 0)=_;rw[jd0 ts,fz];rfl
def jpb(ts:LL):(ts.map λt=>((0,t):Nat×Aa)).map (·.2)=ts:=by rw[aP];exact List.map_id _
noncomputable def jAt(n:Nat):Fm:=(List.replicate n 0,0)
noncomputable def sgn(neg:Bool):Int:=if neg=true then -1 else 1
def PSh(aa:LL)(x:Aa)(F:Fm)(b m:Nat):Prop:=
 (x=[]/\F=jAt aa.length)\/(x≠[]/\∃ac:List (Nat×Aa),x=jaj ac 0/\ac.length<=m/\Sm aa (ac.map (·.2)) F b)
def PSh.add(h:PSh aa x F b m)(T:Tm aa (t0::tr) G b)(hb:b<=KB):PSh aa (addP x neg (t0::tr).flatten) (addF F (mulF G (sgn neg))) (b+1) (m+3+tr.length):=by
 have aj:(t0::tr).flatten≠[]:=by obtain⟨c,r,e,_⟩:=T.toks t0 zaa;rw[e];simp
 have z1:∀H,H.1.length=aa.length->addF (jAt _) H=H:=λH hl=>by have:=jgv (f:=H);rw[hl]at this;exact this
 rcases h with ⟨rfl,rfl⟩|⟨hx,ac,e1,e2,S⟩
 .right
  cases neg with
  |true=>
   refine⟨by unfold addP;simp,(0,[45])::(t0::tr).map λt=>(0,t),?_,?_,?_⟩
   .show _=List.replicate 0 32++([45]++jaj _ 0);rw[jd0];rfl
   .simp;lia
   .rw[aE,jpb,z1 _ (by rw[jcs];exact T.len)];exact(T.neg hb).mono (eP _ _)
  |false=>
   refine⟨aj,(t0::tr).map λt=>(0,t),?_,?_,?_⟩
   .unfold addP;rw[aD rfl,aJ nofun,jd0]
   .simp;lia
   .rw[jpb,z1 _ (by rw[jcs];exact T.len)];have:mulF G (sgn false)=G:=jff G;rw[this];exact(T.sm hb).mono (eP _ _)
 .right
  refine⟨by unfold addP;simp_all,ac++((1,[if neg=true then 45 else 43])::(1,t0)::tr.map λt=>(0,t)),?_,?_,?_⟩
  .unfold addP;rw[aJ hx,jhs,<- e1];congr 1;show _=List.replicate 1 32++([if neg=true then 45 else 43]++(List.replicate 1 32++(t0++jaj _ 0)));rw[jd0,fz];rfl
  .simp;lia
  .rw[bA,aE,aE,jpb]
   cases neg with
   |true=>exact S.sub T hb
   |false=>have:mulF G (sgn false)=G:=jff G;rw[this];exact S.add T hb
def jyu(hn:aa.length<=1000)(hN:∀a∈aa,Nm a)(hd:aa.Nodup)(hi:i<aa.length)(hv:v<10^31):
  ∃t0 tr,(t0::tr).flatten=jir v aa[i]/\tr.length<=2/\Tm aa (t0::tr) (mulF (hotF aa.length i) v) 220:=by
 have FH:=jEn hn hN hd hi;have k1:(110)<=KB:=by decide
 unfold jir
 by_cases q:v=1
 .subst q;refine⟨aa[i],[],by simp,by simp,?_⟩;have:mulF _ ((1:Nat))=hotF aa.length i:=jff _;rw[this];exact(FH.tm k1).mono (by decide)
 .have FP:=jux hn hv;have T:=(FP.tm k1).mul FH k1 k1 (.inl (jqr _ v));have e:jfk (plF aa.length v) (hotF aa.length i)=mulF (hotF aa.length i) v:=by rw[jvi (jqr _ v) (by rw[FP.len,FH.len])];rfl
  grind
noncomputable def upTo(cs:Ae)(k:Nat):Fm:=((List.range cs.length).map λj=>if j<k then cs.getD j 0 else 0,0)
def jv6(c:Int):((c.natAbs:Nat):Int)*sgn (decide (c<0))=c:=by
 unfold sgn
 by_cases h:c<0
 .grind
 .lia
def jvn(n:Nat)(g h:Nat->Int):(((List.range n).map g).zip ((List.range n).map h)).map (λp:Int×Int=>p.1+p.2)=(List.range n).map λj=>g j+h j:=by rw[List.zip_map',aP];rfl
def jwz(hk:k<cs.length):addF (upTo cs k) (mulF (mulF (hotF cs.length k) (cs.getD k 0).natAbs) (sgn (decide (cs.getD k 0<0))))=upTo cs (k+1):=by
 unfold addF upTo mulF hotF;refine Prod.ext ?_ (by simp);rw[aP,aP,jvn];apply List.map_congr_left;intro j _;have hs:=jv6 (cs.getD k 0);show(if j<k then cs.getD j 0 else 0)+(if j=k then 1 else 0)*_*_=_
 by_cases q:j=k
 .subst q;rw[aJ (by lia),aD rfl,aD (by exact zac _),Int.one_mul,hs,Int.zero_add]
 .rw[aJ q,Int.zero_mul,Int.zero_mul,Int.add_zero]
  by_cases r:j<k
  .rw[aD r,aD (fV (by assumption))]
  .rw[aJ r,aJ (by lia)]
def jwy(h0:cs.getD k 0=0):upTo cs (k+1)=upTo cs k:=by
 refine Prod.ext ?_ rfl;apply List.map_congr_left;intro j _
 by_cases q:j=k
 .subst q;rw[aD (by exact zac _),aJ (by lia),h0]
 .by_cases r:j<k
  .rw[aD r,aD (fV (by assumption))]
  .rw[aJ r,aJ (by lia)]
def jw0(cs:Ae):upTo cs 0=jAt cs.length:=by
 unfold upTo jAt;refine Prod.ext ?_ rfl;apply dL
 .simp
 .simp
def jAo(cs:Ae):upTo cs cs.length=(cs,0):=by
 unfold upTo;refine Prod.ext ?_ rfl;apply dL
 .simp
 .intro j h1 h2;have:=by simpa using h1
  simp[this]
theorem jp5(hn:aa.length<=1000)(hN:∀a∈aa,Nm a)(hd:aa.Nodup)(hl:cs.length=aa.length)(hc:∀c∈cs,c.natAbs<10^31):∀k:Nat,k<=aa.length->PSh aa (((aa.zip cs).take k).foldl jea []) (upTo cs k) (220+k) (5*k)
|0,_=>.inl ⟨rfl,by rw[jw0,hl]⟩
|k+1,hk=>by
  have ih:=jp5 hn hN hd hl hc k (cY (by assumption));have cj:k<cs.length:=by lia
  have e:(aa.zip cs).take (k+1)=(aa.zip cs).take k++[(aa[k],cs[k])]:=by rw[List.take_succ_eq_append_getElem (by rw[cG];lia)];simp
  rw[e,cB,bQ,List.foldl_nil];generalize ((aa.zip cs).take k).foldl _ []=x at ih;have eg:cs.getD k 0=cs[k]:=by simp[cj]
  by_cases q:cs[k]=0
  .have:jea x (aa[k],cs[k])=x:=aD q;rw[this,jwy (by lia)];rcases ih with h|⟨h1,ac,h2,h3,h4⟩
   .exact .inl h
   .exact .inr ⟨h1,_,h2,by lia,h4.mono (by lia)⟩
  .have:jea x (aa[k],cs[k])=addP x _ _:=aJ q;rw[this];obtain⟨t0,tr,e1,e2,T⟩:=jyu hn hN hd _ (hc _ (List.getElem_mem cj));have u:=jwz cj;rw[eg,hl]at u;have P:=PSh.add (neg:=decide (cs[k]<0)) ih (T.mono (eP _ _)) (by show 220+k<=90000;lia);rw[e1,u]at P;rcases P with h|⟨h1,ac,h2,h3,h4⟩
   .exact .inl h
   .exact .inr ⟨h1,_,h2,by lia,h4⟩
def jvj(hn:aa.length<=1000)(P:PSh aa y F b m)(hm:m<=1000)(hb:b<=2000):∃ac,(if y=[]then [48]else y)=jaj ac 0/\ac.length<=1000/\Sm aa (ac.map (·.2)) F 2000:=by
 rcases P with ⟨h1,h2⟩|⟨h1,ac,h2,h3,h4⟩
 .rw[aD h1,h2];exact⟨[(0,[48])],rfl,by simp,((((jux hn (v:=0) (by decide)).tm (by decide)).sm (by decide)).mono (by decide))⟩
 .rw[aJ h1];exact⟨_,h2,zdz (by assumption) (by assumption),h4.mono (by assumption)⟩
def jzy(hn:aa.length<=10)(hN:∀a∈aa,Nm a)(hd:aa.Nodup)(h:FOk aa.length f):∃ac,jb1 aa f=jaj ac 0/\ac.length<=1000/\Sm aa (ac.map (·.2)) f 2000:=by
 have b8:aa.length<=1000:=zdz (by assumption) (by decide);have P:=jp5 b8 hN hd h.len h.cs _ (zac _);rw[List.take_of_length_le (by grind)]at P;have ua:=jAo f.1;rw[h.len]at ua;rw[ua]at P;unfold jb1
 by_cases q:f.2=0
 .rw[aD q];have e:(f.1,(0))=f:=by rw[<- q]
  rw[e]at P;exact jvj b8 P (by lia) (by lia)
 .rw[aJ q];have P2:=PSh.add (neg:=decide (f.2<0)) P (((jux b8 h.r).tm (by decide)).mono (by lia)) (by show 220+aa.length<=90000;lia);have e1:[dg f.2.natAbs].flatten=dg f.2.natAbs:=by simp
  have e2:addF (f.1,0) (mulF (plF aa.length f.2.natAbs) (sgn (decide (f.2<0))))=f:=by
   unfold addF mulF plF;refine Prod.ext ?_ ?_
   .rw[List.map_replicate,Int.zero_mul,<- h.len];apply dL
    .simp
    .simp
   .rw[jv6,Int.zero_add]
  rw[e1,e2]at P2;exact jvj b8 P2 (by simp;lia) (by lia)
def jnh(hn:aa.length<=10)(hN:∀a∈aa,a.length<=40)(h:FOk aa.length f):(jb1 aa f).length<=5000:=by
 have fl:=jlb _ [] (jxc hN h);have hz:(aa.zip f.1).length<=10:=by rw[cG];lia
 have dl:=jfm h.r;have e0:([]:Aa).length=0:=rfl;have cg:∀y,y.length<=5000->(if y=[]then [48]else y).length<=5000:=λy hy=>by grind
 refine cg _ ?_
 by_cases q:f.2=0
 .grind
 .have:=jkw ((aa.zip f.1).foldl jea []) (decide (f.2<0)) (dg f.2.natAbs);lia
end
def jws{ta tb:DSt->M Bool}{Y:DSt}{a b:Bool}(h1:ta Y=some (.ok a))(h2:tb Y=some (.ok b)):DL.tAnd ta tb Y=oK (a&&b):=by rw[jtn,h1,M.b_ok,h2];cases a<;>rfl
def jPj(x:Aa):gNe (sT x) (sT [])=some (.bl !(decide (x=[]))):=by
 show some (D.bl !(St x==St []))=_;congr 3
 by_cases h:x=[]
 .subst h;rfl
 .rw[aN h];exact aH.mpr λz=>h (jku z)
def jKd(ps:LL):okD (.lst (nmD ps))=true:=jil λx z=>by rfl
def jId(ps:LL):depD (.lst (nmD ps))<=20:=by
 unfold depD nmD;have:=jgy (f:=λa=>sT a) (k:=0) (xs:=ps) λx z=>by unfold depD;simp_all
 simp_all
def jtr(ps:LL):gEq (.lst (nmD ps)) (.lst [])=some (.bl (decide (ps=[]))):=by
 unfold gEq;rw[aD (by rw[jKd,aX (jId ps)];rfl)]
 cases ps with
 |nil=>rfl
 |cons p ps=>rfl
def jBj(b:Bool):gMul (sT [45]) (.int (if b then 1 else 0))=some (sT (if b=true then [45]else [])):=by cases b<;>rfl
def jef(q:List Nat×Int):Aa:=if q.1=[]then dg q.2.natAbs else jir q.2.natAbs q.1
def jsf(x:Aa)(q:List Nat×Int):Aa:=if q.2=0 then x else addP x (decide (q.2<0)) (jef q)
def jxf:jef q≠[]:=by
 unfold jef
 split
 .exact jmg _
 .unfold jir
  split<;>simp_all
def jsv(h1:q.1.length<=40)(h2:q.2.natAbs<10^31):(jef q).length<=80:=by
 unfold jef;have:=jfm h2
 grind[jpk]
theorem jmp:∀(ps:List (List Nat×Int)) (x:Aa),(∀p∈ps,p.1≠[])->ps.foldl jsf x=ps.foldl jea x
|[],_,_=>rfl
|p::ps,x,h=>by
  have e:jsf x p=jea x p:=by unfold jsf jea jef;rw[aJ (h p zaa)]
  rw[bQ,bQ,e,jmp ps _ λq hq=>h q (zaw _ hq)]
def jE1(g:Option D)(h1:q.1.length<=40)(h2:q.2.natAbs<10^31):
  gSeq (gSet 5 (fL kStr (fCons (fL kAbs (fCons (vR 4) fNil)) fNil)))
   (gSeq (gIf (DL.tAnd (DL.t2 gNe (vR 3) (cS (Str.ofString ""))) (DL.t2 gEq (fL kAbs (fCons (vR 4) fNil)) (cI 1))) (gSet 5 (vR 3)) (gIf (DL.t2 gNe (vR 3) (cS (Str.ofString ""))) (gSet 5 (f2 gCat (f2 gCat (vR 5) (cS (Str.ofString "*"))) (vR 3))) gNx)) G) [A,B,oN ps,some (sT q.1),oI q.2,g]=G [A,B,oN ps,some (sT q.1),oI q.2,some (sT (jef q))]:=by
 have dl:=jfm h2;rw[jah (by simp[jAu,jMx h2];rfl)];have tn:∀z,DL.t2 gNe (vR 3) (cS (Str.ofString "")) [A,B,oN ps,some (sT q.1),oI q.2,z]=oK _:=λz=>by simp[jEh,jPj];rfl
 have t1:DL.t2 gEq (fL kAbs (fCons (vR 4) fNil)) (cI 1) [A,B,oN ps,some (sT q.1),oI q.2,some (sT (dg q.2.natAbs))]=oK (((q.2.natAbs):Int)==1):=by simp[jAu];rfl
 unfold jef jir
 by_cases e0:q.1=[]
 .rw[aD e0];exact jah (by rw[w_if (by rw[jtn,tn,aX e0];rfl),aJ nofun,jw4 (by rw[tn,aX e0];rfl)])
 .rw[aJ e0]
  by_cases e1:q.2.natAbs=1
  .simp_all
  .rw[aJ e1];exact jah (by
    rw[w_if (by rw[jws (tn _) t1,aH.mpr (by lia),Bool.and_false]),aJ nofun,w_if (b:=true) (by grind),aD rfl];dsimp;simp only[stpA,jPb,(jiv (a:=dg q.2.natAbs) (b:=[42]) (by simp;lia)),(jiv (a:=dg q.2.natAbs++[42]) (b:=q.1) (by simp;lia))]
    rw[aU];rfl)
def jwl(g:Option D)(h1:q.1.length<=40)(h2:q.2.natAbs<10^31)(hl:ps.length<=1000)(hp:∀p∈ps,p≠[]):
  ∃ps' g',ps'.flatten=jsf ps.flatten q/\(∀p∈ps',p≠[])/\ps'.length<=ps.length+1 /\
   je7 [A,B,oN ps,some (sT q.1),oI q.2,g]=nX [A,B,oN ps',some (sT q.1),oI q.2,g']:=by
 have bl:=jsv h1 h2;have tz:∀z,DL.t2 gNe (vR 4) (cI 0) [A,B,oN ps,some (sT q.1),oI q.2,z]=oK (!(q.2==0)):=λz=>by rfl
 have te:∀z,DL.t2 gEq (vR 2) (fL gLstD fNil) [A,B,oN ps,some (sT q.1),oI q.2,z]=oK _:=λz=>by simp[jtr];rfl
 unfold je7;rw[jE1 g h1 h2,w_if (jws (tz _) (te _))]
 by_cases h3:q.2=0
 .refine⟨ps,some (sT (jef q)),(aD h3).symm,hp,eE _,?_⟩;rw[show(!(q.2==0)&&decide _)=false from by rw[h3];rfl,aJ nofun,w_if (tz _),show(!(q.2==0))=false from by rw[h3];rfl,aJ nofun];rfl
 .have nz:(!(q.2==0))=true:=by rw[aH.mpr h3];rfl
  have sl:jsf _ q=addP ps.flatten _ _:=aJ h3;rw[nz,fN,sl];have bh:∀p,p≠[]->∀x∈ps++[p],x≠[]:=λp hpp x hx=>by clear tz;grind
  by_cases e0:ps=[]
  .subst e0;refine⟨[addP [] (decide (q.2<0)) (jef q)],some (sT (jef q)),by simp,bh _ ?_,zac _,?_⟩
   .unfold addP;rw[aD rfl];split
    .simp
    .exact (jxf)
   .have ea:addP [] (decide (q.2<0)) (jef q)=(if decide (q.2<0)=true then [45]else [])++jef q:=by unfold addP;rw[aD rfl];split<;>rfl
    rw[jpf (d:=sT (addP [] _ _)) 2 (by rw[ea];dsimp;simp only[stpA,joi,jBj,(jiv (a:=if decide _=true then [45]else []) (b:=jef q) (by grind))];rfl) rfl (by decide)];rfl
  .refine⟨ps++[[32,if decide (q.2<0)=true then 45 else 43,32]++jef q],some (sT (jef q)),?_,bh _ (by simp),by simp,?_⟩
   .have fn:ps.flatten≠[]:=by
     cases ps with
     |nil=>grind
     |cons p ps'=>have:=hp p zaa;intro z;exact this (fW.mp z).1
    unfold addP
    clear tz sl h3;grind
   .rw[aN e0,aJ nofun,w_if (by rw[tz,nz]),aD rfl];have ix:gIx (.lst [sT [32,43,32],sT [32,45,32]]) (.int (if decide (q.2<0)then 1 else 0))=some (sT [32,if decide (q.2<0)=true then 45 else 43,32]):=by cases decide (q.2<0)<;>rfl
    rw[jpf 2 (by dsimp;simp only[stpA,jJz,jJy,ix,(jiv (a:=[32,if decide (q.2<0)=true then 45 else 43,32]) (b:=jef q) (by simp;clear tz;lia))];rfl) rfl (by rw[show(nmD ps).length=ps.length by simp[nmD]];clear hp;omega)]
    unfold oN nmD;simp_all
theorem jm5(A B:Option D):∀(qs:List (List Nat×Int)) (ps:LL) (e f g:Option D),(∀q∈qs,q.1.length<=40/\q.2.natAbs<10^31)->(∀p∈ps,p≠[])->ps.length+qs.length<=100 ->
  ∃ps' e' f' g',ps'.flatten=qs.foldl jsf ps.flatten/\(∀p∈ps',p≠[])/\ps'.length<=100/\forD je7 (gTup2 3 4) (qs.map jEz) [A,B,oN ps,e,f,g]=nX [A,B,oN ps',e',f',g']
|[],ps,e,f,g,_,hp,hl=>⟨ps,e,f,g,rfl,hp,by omega,rfl⟩
|q::qs,ps,e,f,g,hq,hp,hl=>by
  obtain⟨q1,q2⟩:=hq q zaa;rw[aI]at hl;obtain⟨p,g1,p2,p1,p3,st⟩:=jwl g q1 q2 (by lia) hp;obtain⟨ps',e',f',g',r1,r2,r3,r4⟩:=jm5 A B qs p _ _ g1 (λx hx=>hq x (zaw _ hx)) p1 (by lia);refine⟨ps',e',f',g',?_,r2,r3,?_⟩
  .rw[r1,bQ,p2]
  .rw[aE,jih rfl st];exact r4
def jnk{g:Str->D->Option D}{fo fe:DSt->M D}{Y:DSt}{z:Str}{y d:D}(h1:fo Y=some (.ok (.str z)))(h2:fe Y=some (.ok y))(h3:g z y=some d):fSm g fo fe Y=oK d:=by unfold fSm;rw[h1,M.b_ok];dsimp only;rw[h2,M.b_ok,h3];rfl
def jPf(b:Bool):gMul (sT [48]) (.int (if b then 1 else 0))=some (sT (if b=true then [48]else [])):=by cases b<;>rfl
def jPd:Str.ofString "0"=St [48]:=by rfl
def jwq(h1:1<=aa.length)(hn:aa.length<=10)(hN:∀a∈aa,a.length<=40)(hN2:∀a∈aa,a≠[])(h:FOk aa.length f):jdq [.lst (nmD aa),fm f]=oK (sT (jb1 aa f)):=by
 have zz:(aa++[[]]).zip (f.1++[f.2])=aa.zip f.1++[([],f.2)]:=by rw[List.zip_append h.len.symm];rfl
 obtain⟨ps,e',f',g',r1,r2,r3,r4⟩:=jm5 _ _ (aa.zip f.1++[([],f.2)]) [] _ _ _ (λq hq=>by
  rcases zdy.mp hq with hq|hq
  .clear hn;grind[jxc]
  .rw[zdx.mp hq];exact⟨by simp,h.r⟩) (λp hp=>nomatch hp) (by simp;clear zz;grind)
 let y:=if f.2=0 then(aa.zip f.1).foldl jea []else addP ((aa.zip f.1).foldl jea []) (decide (f.2<0)) (dg f.2.natAbs)
 have hy:ps.flatten=y:=by rw[r1,cB,bQ,List.foldl_nil,List.flatten_nil,jmp _ _ λp hp=>hN2 _ (zca hp).1];rfl
 have hs:jb1 _ f=if y=[]then [48]else y:=rfl
 have sl:=jnh hn hN h;have pe:(ps=[])↔(y=[]):=by
  rw[<- hy];constructor
  .simp_all
  .intro z
   cases ps with
   |nil=>rfl
   |cons p ps=>exact absurd (fW.mp z).1 (r2 p zaa)
 have c1:gCat (.lst (nmD aa)) (.lst [sT []])=oN (aa++[[]]):=by rw[js5 (by rw[show(nmD _).length=aa.length by simp[nmD],bG];simp;clear r2;lia)];unfold oN nmD;rw[bA];rfl
 have c2:gCatE (.tup (f.1.map .int)) (.tup [.int f.2])=some (.tup ((f.1++[f.2]).map .int)):=by rw[bA];exact aD (by rw[zav,bG,h.len];simp;clear hs;lia)
 have t1:gTupD [.int f.2]=some _:=rfl;have nz:zipD (nmD (aa++[[]])) ((f.1++[f.2]).map .int)=(aa.zip f.1++[([],f.2)]).map jEz:=by rw[jKa,zz]
 unfold jdq;rw[jde];unfold ji8;rw[jah (by simp only[stpA];rfl),jah (by
  rw[jAq (by simp only[jtl,jcf,jIj,e_L,jIl,e_2,e_C,M.o_some,M.b_p,List.getElem?_cons_zero,fQ,Option.join_some,(fm0' f),(fm1' f),lstD1,jEh,c1,t1,c2,jCd,nz];rfl)]
  exact r4)]
 have ct:=jiv (a:=ps.flatten) (b:=if decide (ps=[])=true then [48]else []) (by clear h1;grind);have fin:ps.flatten++(if decide (ps=[])=true then [48]else [])=jb1 aa f:=by
  rw[hs,hy]
  by_cases q:y=[]
  .simp_all
  .rw[aJ q,aN (λz=>q (pe.mp z)),aJ nofun,aO]
 rw[fin]at ct;rw[jtm,e_2,(jnk (by rfl) rfl (jD3 (by grind)))];simp only[stpA,jtr,jPd,jPf,ct];rfl
section
variable {fa fb:DSt->M D}
def jd8{g:D->D->Option D}(h1:fa Y=oK x)(h2:fb Y=oK y)(h3:g x y=some d):f2 g fa fb Y=oK d:=by unfold f2;rw[h1,M.b_ok,h2,M.b_ok,h3];rfl
def jkf{k:List D->Option D}(h1:fa Y=oK x)(h2:k [x]=some d):fL k (fCons fa fNil) Y=oK d:=by rw[e_L,jcf,h1,M.b_ok];show M.o _=_;rw[h2];rfl
def jI4{m:List D->M D}(h1:fa Y=oK x)(h2:fb Y=oK y)(h3:m [x,y]=oK d):fCall m (fCons fa (fCons fb fNil)) Y=oK d:=by simp_all
def jI5(h1:fa Y=oK x)(h2:fb Y=oK y):fL gTupD (fCons fa (fCons fb fNil)) Y=oK (.tup [x,y]):=by rw[e_L,jcf,h1,M.b_ok,jcf,h2,M.b_ok];rfl
def jB9(h:(Y[i]?).join=some d):vR i Y=oK d:=by unfold vR;rw[h];rfl
def kC(h:s=St a):fC (.str s) Y=oK (sT a):=by rw[h];rfl
def jA2(h1:fa Y=oK (sT a))(h2:fb Y=oK (sT c))(h:a.length+c.length<=100000):f2 gCat fa fb Y=oK (sT (a++c)):=jd8 h1 h2 (jiv h)
def jvv(h:fa Y=oK d):(gRet fa Y).b outD=oK d:=by rw[jbq h];rfl
def jg5(xs:LL):(nmD xs).length=xs.length:=zav ..
def jHz{i:Nat}{ps:LL}(h:fa Y=oK (sT a))(hd:Y[i]?=some (oN ps))(hl:ps.length<=1000):gApp i fa Y=nX (Y.set i (oN (ps++[a]))):=by have:=jpf i h hd (by rw[jg5];lia);rw[this,show nmD ps++[sT a]=nmD _ from juw ps [a]]
def Cs(Y:DSt):List ((DSt->M D)×Aa)->Prop
|[]=>True
|(f,y)::ps=>f Y=oK (sT y)/\Cs Y ps
noncomputable def flt:List ((DSt->M D)×Aa)->Aa
|[]=>[]
|[(_,y)]=>y
| (_,y)::p::ps=>y++flt (p::ps)
def jOr(f:DSt->M D)(y:Aa)(ps:List ((DSt->M D)×Aa)):flt ((f,y)::ps)=y++flt ps:=by
 cases ps with
 |nil=>exact(aO y).symm
 |cons p ps=>rfl
theorem cats:∀(ps:List ((DSt->M D)×Aa)) {fa:DSt->M D}{a:Aa},fa Y=oK (sT a)->Cs Y ps->(a++flt ps).length<=100000->ps.foldl (λf p=>f2 gCat f p.1) fa Y=oK (sT (a++flt ps))
|[],_,a,h,_,_=>by simp_all [flt]
|(f,y)::ps,_,a,h,c,l=>by
  rw[jOr,<- aU]at l |-
  exact cats ps (jA2 h c.1 (by grind)) c.2 l
end
noncomputable def gI(m:M D):Int:=match m with
 |some (.ok (.int i))=>i
 |_=>0
def jDt{m:M D}(h:m=oK (.int i)):m=oK (.int (gI m)):=by rw[h];rfl
noncomputable abbrev scr(ns:Ae):D:=.lst (ns.map .int)
def v_at(ns:Ae)(k:Int)(h0:0<=k)(hk:k<=1000):∃i,jcr [scr ns,.int k]=oK (.int i):=by
 unfold jcr;rw[jde];unfold jlf;obtain⟨k,rfl⟩:=bU h0
 by_cases h:k<ns.length
 .simp[(by omega),DL.atI_get _,M.p]
 .have h2:=by omega
  have e:gMul _ _=oI (19*(k)):=mT (a:=10) (b:=10) (by grind[Bt]) (by unfold Bt;lia);simp[h2,e,M.p]
def atF(ns:Ae)(k:Int):Int:=gI (jcr [scr ns,.int k])
def w_at(h0:0<=k)(hk:k<=1000):jcr [scr ns,.int k]=oK (.int (atF ns k)):=let ⟨_,h⟩:=v_at ns k h0 hk;jDt h
def jKk:gPow (.int 10) (.int 12)=oI 1000000000000:=by rfl
def p1023:gPow (.int 10) (.int 23)=oI 100000000000000000000000:=by rfl
def jrl{k m:Nat}(h0:0<=n)(h1:n<(m:Int))(h2:m<=2 ^ k):Bt k n:=by obtain⟨j,rfl⟩:=bU h0;exact zcx (Int.ofNat_lt.mp h1) h2
def jQw(n p:Int)(h0:0<=p)(hp:p<=1000):∃r,jci [.int n,.int p]=oK (.int r)/\0<=r/\r<2147483648:=by
 unfold jci;rw[jde];unfold ji7
 by_cases h:1000000000000<=n
 .obtain⟨Y',e,i⟩:=jlc (g:=jhb) (tg:=DL.gName 2) (λz Y=>∃a b,Y=[oI a,oI p,b,none])
   (λd ds Y hzz=>by obtain⟨a,b,hd⟩:=hzz;subst hd;simp[jhb,fdiv_int _ _,M.p])
   (jbn 0 (p % 61).toNat) [oI (n / 1000000000000-1),oI p,none,none] ⟨_,_,rfl⟩
  obtain⟨a,b,rfl⟩:=i;refine⟨a % 2147483648,?_,cC _ nofun,bY _ (by decide)⟩;simp[jKk,h,fdiv_int _ _,mod_int _,e];rfl
 .have bp:Bt 10 p:=jrl h0 (Int.lt_add_one_of_le hp) (by decide);have a1:gMul _ _=oI (8*p):=mT (a:=4) (by unfold Bt;decide) bp;have b2:Bt 14 (8*p):=Bt.mul (by unfold Bt;decide) bp;have b3:Bt 33 _:=((Bt.add (jrl (cC n (show(2147483629)≠0 by decide)) (bY n (show(0)<2147483629 by decide)) (by decide)) (bp.mono (by decide))).add (show Bt 32 1 by unfold Bt;decide)).mono (by decide);have b4:Bt 31 _:=(((b2.mul bp).mono (by decide)).add (show Bt 30 48271 by unfold Bt;decide)).mono (by decide);generalize hx:(n % 2147483629+p+1)*(8*p*p+48271) % 2147483647=x;have bx:Bt 32 x:=jrl (by rw[<- hx];exact cC _ nofun) (by rw[<- hx];exact bY _ (by decide)) (by decide);generalize hy:x*x % 2147483587=y;have ft:Bt 32 y:=jrl (by rw[<- hy];exact cC _ nofun) (by rw[<- hy];exact bY _ (by decide)) (by decide);refine⟨_,?_,cC _ (by decide),Int.lt_trans (bY (y*(y+2)) (show(0)<2147483579 by decide)) (by decide)⟩;simp[jKk,h,a1,(mT b2 bp),(mT b3 b4),mod_int _,hx,(mT bx bx),hy,(mT ft (ft.add (show Bt 32 2 by unfold Bt;decide)))];rfl
def mixF(n p:Int):Int:=gI (jci [.int n,.int p])
def jHi(h0:0<=p)(hp:p<=1000):jci [.int n,.int p]=oK (.int (mixF n p)):=let ⟨_,h,_⟩:=jQw n p h0 hp;jDt h
def drF(ns:Ae)(k:Int):Int:=mixF (atF ns (1+k % 62)) (100+k)
def jfv(h0:0<=k)(h1:k<=800):jas [scr ns,.int k]=oK (.int (drF ns k)):=by unfold jas;rw[jde];unfold jhl;rw[jbq (by simp[(mod_int (j:=62) (by decide)),(w_at (k:=1+k % 62) (by lia) (by lia)),(jHi (p:=100+k) (by lia) (by lia))];rfl)];rfl
def jw1(ns:Ae){most:Nat}(h0:0<=k)(h1:k<=800)(hm:7<=most)(hb:most<2^100):∃v:Int,ja4 [scr ns,.int k,.int (most:Int)]=oK (.int v)/\v.natAbs<most:=by
 have ed:=jfv (ns:=ns) h0 h1;generalize drF ns k=m at ed;have e2:=w_at (ns:=ns) (k:=1+k % 62) (by omega) (by grind);generalize atF ns _=c at e2;have a2:gMul _ _=oI (2*(most)):=mT (a:=2) (by grind[Bt]) (hb);have c1:=cC c (show(2*(most:Int)-1)≠0 by lia);have c2:=bY c (show(0)<2*(most:Int)-1 by lia);unfold ja4;rw[jfp];unfold jhm;rw[jah (by simp[ed];rfl)];have t0:t2 gEq (f2 gMod (vR 3) (cI 8)) (cI 0) [some (scr ns),oI k,oI (most),oI m]=oK (m % 8==0):=by rfl
 cases hc:(m % 8==0)with
 |true=>
  refine⟨c % (2*(most)-1)-most+1,?_,by clear a2 hc;omega⟩;rw[hc]at t0;rw[w_rt (by rw[w_if t0,aD rfl];exact jbq (by simp[(mod_int (j:=62) (by decide)),e2,a2,(mod_int (j:=2*(most)-1) (by lia))];rfl))];rfl
 |false=>refine⟨m / 8 % 13-6,?_,by clear c2;lia⟩;rw[hc]at t0;rw[jnq t0,jbq (by simp[(fdiv_int (j:=8) (by decide) (by decide))];rfl)];rfl
def wdF(ns:Ae)(k:Int)(most:Nat):Int:=gI (ja4 [scr ns,.int k,.int (most:Int)])
def jCa{most:Nat}(h0:0<=k)(h1:k<=800)(hm:7<=most)(hb:most<2^100):ja4 [scr ns,.int k,.int (most:Int)]=oK (.int (wdF ns k most)):=let ⟨_,h,_⟩:=jw1 ns h0 h1 hm hb;jDt h
def jqt(h0:0<=k)(h1:k<=800)(hm:7<=most)(hb:most<2^100):(wdF ns k most).natAbs<most:=by obtain⟨v,h,q⟩:=jw1 ns h0 h1 hm hb;unfold wdF;rw[h];exact q
noncomputable def wrds:LL:=[[100,111],[103,105,118,101],[104,111,117,115,101],[111,102],[98,97,115,101],[115,116,97,116,101],[115,104,97,114,101,115],[107,110,111,119,115],[105,116,101,109],[114,117,108,101],[100,101,101,100]]
noncomputable def nmE(k a b:Nat):Aa:=List.replicate (1+a) (97+k)++[120+b]
noncomputable def nmO(k p:Nat):Aa:=List.replicate p 109++[97+k]++List.replicate (9-p) 109
def nmS(k:Nat)(m:Int):Aa:=if m / 512 % 8=5 then wrds.getD ((m / 4096+(k:Int)) % 11).toNat []else if m % 2=0 then nmE k (m / 2 % 9).toNat (m / 18 % 3).toNat else nmO k (m / 2 % 10).toNat
def okE(k a b:Nat):Option D:=(gIx (.str "abcdefg") (.int k)).bind λc=>(gMul c (.int (1+(a:Int)))).bind λx=>(gIx (.str "xyz") (.int b)).bind λy=>gCat x y
def okO(k p:Nat):Option D:=(gMul (.str "m") (.int p)).bind λx=>(gIx (.str "abcdefg") (.int k)).bind λc=>(gCat x c).bind λy=>(gMul (.str "m") (.int (9-(p:Int)))).bind λz=>gCat y z
def isS(d:Option D)(a:Aa):Bool:=match d with
 |some (.str s)=>s==St a
 |_=>false
def jkn(h:isS d a=true):d=some (sT a):=by
 unfold isS at h;lia
def nmB(a:Aa):Bool:=!a.isEmpty&&decide (a.length<=10)&&a.all isL
def jjo(h:nmB a=true):Nm a:=by unfold nmB at h;simp only[aC,aV,aQ,eG,List.isEmpty_eq_false_iff]at h;exact⟨h.1.1,h.2,h.1.2⟩
def ju1:∀a∈List.range 9,∀b∈List.range 3,(∀k∈List.range 7,isS (okE k a b) (nmE k a b)=true/\nmB (nmE k a b)=true)/\((List.range 7).map λk=>nmE k a b).Nodup:=by decide +kernel
def ju2:∀p∈List.range 10,(∀k∈List.range 7,isS (okO k p) (nmO k p)=true/\nmB (nmO k p)=true)/\((List.range 7).map λk=>nmO k p).Nodup:=by decide +kernel
def jNs:∀s∈List.range 11,(∀k∈List.range 7,nmB (wrds.getD ((s+k) % 11) [])=true)/\((List.range 7).map λk=>wrds.getD ((s+k) % 11) []).Nodup:=by decide +kernel
def jb9{i:Int}{n:Nat}(h0:0<=i)(h1:i<n):i.toNat∈List.range n:=zcc.mpr (by simp_all)
def md{j:Nat}(h:0<j):0<=i % (j:Int)/\i % (j:Int)<j:=⟨cC _ (by lia),bY _ (by simp_all)⟩
def jNt(i:Int)(k:Nat):((i+(k:Int)) % 11).toNat=((i % 11).toNat+k) % 11:=by have h:=bE (cC i (show(11:Int)≠0 by decide));rw[<- Int.emod_add_emod,<- h];rfl
def juv(m:Int):(∀k,k<7->Nm (nmS k m))/\((List.range 7).map λk=>nmS k m).Nodup:=by
 by_cases h5:m / 512 % 8=5
 .have a:=md (i:=m / 4096) (j:=11) (by decide);obtain⟨h1,h2⟩:=jNs _ (jb9 a.1 a.2);have e:∀k,nmS k m=wrds.getD _ []:=λk=>(aD h5).trans (by rw[jNt])
  exact⟨λk hk=>by rw[e];exact jjo (h1 k (zcc.mpr hk)),by simp only[e];exact h2⟩
 .by_cases h:m % 2=0
  .have a:=md (i:=m / 2) (j:=9) (by decide);have b:=md (i:=m / 18) (j:=3) (by decide);obtain⟨h1,h2⟩:=ju1 _ (jb9 a.1 a.2) _ (jb9 b.1 b.2);have e:∀k,nmS k m=nmE k _ _:=λk=>(aJ h5).trans (aD h)
   exact⟨λk hk=>by rw[e];exact jjo (h1 k (zcc.mpr hk)).2,by simp only[e];exact h2⟩
  .have a:=md (i:=m / 2) (j:=10) (by decide);obtain⟨h1,h2⟩:=ju2 _ (jb9 a.1 a.2);have e:∀k,nmS k m=nmO k _:=λk=>(aJ h5).trans (aJ h)
   exact⟨λk hk=>by rw[e];exact jjo (h1 k (zcc.mpr hk)).2,by simp only[e];exact h2⟩
def jqk(hn:n<=7)(m:Int):((List.range n).map λk=>nmS k m).Nodup:=by
 have h:=(juv m).2;obtain⟨d,hd⟩:=Nat.exists_eq_add_of_le hn;rw[hd,List.range_add,bA]at h;grind
noncomputable def wrdD:D:=.lst [.str "do",.str "give",.str "house",.str "of",.str "base",.str "state",.str "shares",.str "knows",.str "item",.str "rule",.str "deed"]
def jNu:∀s∈List.range 11,isS (gIx wrdD (.int (s:Nat))) (wrds.getD s [])=true:=by decide +kernel
def jli(hk:k<7)(m:Int):jc8 [.int (k:Nat),.int m]=oK (sT (nmS k m)):=by
 have d2:=fdiv_int (i:=m) (j:=2) (by decide) (by decide);unfold jc8;rw[jde];unfold jf9;rw[jah (Y':=[oI _,oI m,some wrdD,none]) rfl];have t5:t2 gEq (f2 gMod (f2 gFdiv (vR 1) (cI 512)) (cI 8)) (cI 5) [oI (k),oI m,some wrdD,none]=oK (decide (m / 512 % 8=5)):=by simp[(fdiv_int (j:=512) (by decide) (by decide))];rfl
 by_cases h5:m / 512 % 8=5
 .have a:=md (i:=m / 4096+(k)) (j:=11) (by decide);have ea:(((m / 4096+(k)) % 11).toNat)=(m / 4096+(k)) % 11:=bE a.1;have ix:gIx _ _=some (sT (wrds.getD ((m / 4096+(k)) % 11).toNat [])):=jkn (jNu _ (jb9 a.1 a.2));rw[ea]at ix;rw[aX h5]at t5;rw[w_rt (d:=sT (nmS k m)) (by rw[w_if t5,aD rfl];simp[(fdiv_int (j:=4096) (by decide) (by decide)),(mod_int (j:=11) (by decide)),ix];unfold nmS;rw[aD h5];rfl)]
  rfl
 rw[aN h5]at t5;have t0:t2 gEq (f2 gMod (vR 1) (cI 2)) (cI 0) [oI (k),oI m,some wrdD,none]=oK (decide (m % 2=0)):=by rfl
 rw[jnq t5]
 by_cases h:m % 2=0
 .have a:=md (i:=m / 2) (j:=9) (by decide);have b:=md (i:=m / 18) (j:=3) (by decide);have ea:(((m / 2 % 9).toNat))=m / 2 % 9:=bE a.1;have eb:(((m / 18 % 3).toNat))=m / 18 % 3:=bE b.1;have en:nmS k m=nmE k _ _:=(aJ h5).trans (aD h);have hs:okE k (m / 2 % 9).toNat (m / 18 % 3).toNat=some (sT (nmE k (m / 2 % 9).toNat (m / 18 % 3).toNat)):=jkn ((ju1 _ (jb9 a.1 a.2) _ (jb9 b.1 b.2)).1 k (zcc.mpr hk)).1;rw[<- en]at hs;unfold okE at hs;rw[ea,eb]at hs;obtain⟨x1,f1,hs⟩:=aG.mp hs;obtain⟨x2,f2',hs⟩:=aG.mp hs;obtain⟨x3,f3,hs⟩:=aG.mp hs;rw[aX h]at t0;rw[w_rt (by rw[w_if t0,aD rfl];exact jbq (by simp[d2,(fdiv_int (j:=18) (by decide) (by decide)),(mod_int (j:=9) (by decide)),(mod_int (j:=3) (by decide)),f1,f2',f3,hs];rfl))]
  rfl
 .have a:=md (i:=m / 2) (j:=10) (by decide);have ea:(((m / 2 % 10).toNat))=m / 2 % 10:=bE a.1;have en:nmS k m=nmO k _:=(aJ h5).trans (aJ h);have hs:okO k (m / 2 % 10).toNat=some (sT (nmO k (m / 2 % 10).toNat)):=jkn ((ju2 _ (jb9 a.1 a.2)).1 k (zcc.mpr hk)).1;rw[<- en]at hs;unfold okO at hs;rw[ea]at hs;obtain⟨x1,f1,hs⟩:=aG.mp hs;obtain⟨x2,f2',hs⟩:=aG.mp hs;obtain⟨x3,f3,hs⟩:=aG.mp hs;obtain⟨x4,f4,hs⟩:=aG.mp hs;rw[aN h]at t0;rw[jnq t0,jah (by simp[d2];rfl),jbq (by simp[f1,f2',f3,f4,hs];rfl)];rfl
structure Rul where
 nm:Aa
 cs:Ae
 rest:Int
structure Ded where
 nm:Aa
 lo:Int
 hi:Int
 chs:List (Int×Int)
structure Bk where
 its:List (List Nat×Int)
 rls:List Rul
 dds:List Ded
def itD(p:List Nat×Int):D:=.tup [sT p.1,.int p.2]
def rulD(r:Rul):D:=.tup [sT r.nm,.tup (r.cs.map .int),.int r.rest]
noncomputable def chD(c:Int×Int):D:=.tup [.int c.1,.int c.2]
def dedD(d:Ded):D:=.tup [sT d.nm,.int d.lo,.int d.hi,.tup (d.chs.map chD)]
abbrev itsD(b:Bk):D:=.lst (b.its.map itD)
abbrev rlsD(b:Bk):D:=.lst (b.rls.map rulD)
abbrev ddsD(b:Bk):D:=.lst (b.dds.map dedD)
abbrev bkD(b:Bk):D:=.tup [itsD b,rlsD b,ddsD b]
def jvm(n:Nat):jbn 0 n=(List.range n).map λo:Nat=>D.int (o:Int):=by
 have:=jr6 n (λd=>d);simp_all
def itsF(ns:Ae)(n most:Nat):List (List Nat×Int):=(List.range n).map λk=>(nmS k (drF ns 1),wdF ns (10+(k:Int)) most)
def jyf(ns:Ae)(hn:n<=5)(hm:7<=most)(hb:most<2^100):jgi [scr ns,.int (n:Nat),.int (most:Nat)]=oK (.lst ((itsF ns n most).map itD)):=by
 have cf:=ja7 (c:=[some (scr ns),oI (most),oI (drF ns 1)]) (fe:=jeh) (K:=λo:Nat=>D.int (o)) (F:=λk=>itD (nmS k _,wdF ns _ _)) (List.range n) none (λk hk=>by have hk:=zcc.mp hk;unfold jeh;simp[(jli (k:=k) (by clear hb;lia) _),(jCa (k:=10+(k)) (by lia) (by lia) hm hb)];rfl)
 rw[<- jvm]at cf;unfold jgi;rw[jfp];unfold jf8;have ln:((List.range n).map λk=>itD (nmS k (drF ns 1),wdF ns (10+(k)) most)).length<=1000:=by rw[zav,dJ];lia
 rw[jah (by simp[(jfv (k:=1) (by decide) (by decide))];rfl)];have em:(itsF ns n most).map itD=(List.range n).map λk=>itD (nmS k (drF ns 1),wdF ns (10+(k)) most):=by unfold itsF;rw[aP];rfl
 rw[em,jbq (by dsimp;simp only[stp,cf,ja3 ln];rfl)];rfl
noncomputable def dtF(cs st:Ae):Int:=((cs.zip st).map λp=>p.1*p.2).sum
def spF(r:Rul)(st:Ae):Int:=dtF r.cs st+r.rest
theorem jB1{α:Type}{f:α->Int}:∀(zs:List α),(∀z∈zs,(f z).natAbs<=B)->(zs.map f).sum.natAbs<=zs.length*B
|[],_=>aY _
|z::zs,h=>by
  have a:=h z zaa;have i:=jB1 zs λy hy=>h y (zaw _ hy)
  rw[aE,gq,aI,Nat.succ_mul];omega
def jM0{α:Type}{f:α->Int}:∀(zs:List α),(∀z∈zs,Bt k (f z))->zs.length<=8->Bt (k+4) (zs.map f).sum:=by
 have g:∀(zs:List α),(∀z∈zs,Bt k (f z))->(zs.map f).sum.natAbs<=zs.length*2 ^ k:=by
  intro zs
  induction zs with
  |nil=>simp_all
  |cons z zs ih=>
   intro h;have a:(f z).natAbs<2 ^ k:=h z zaa;have i:=ih λy hy=>h y (zaw _ hy)
   rw[aE,gq,aI,Nat.succ_mul];omega
 intro zs h hl;have b:=cX (2 ^ k) hl
 grind[Nat.two_pow_pos,Bt]
def rl0(r:Rul):gIx (rulD r) (.int 0)=some (sT r.nm):=by unfold rulD;rw[ix_t,at0]
def rl1(r:Rul):gIx (rulD r) (.int 1)=some (.tup (r.cs.map .int)):=by unfold rulD;rw[ix_t,at1]
def rl2(r:Rul):gIx (rulD r) (.int 2)=oI r.rest:=by unfold rulD;rw[ix_t,at2]
section
variable {r:Rul}
def jIm{fe:DSt->M D}(hf:∀a b,fe [some a,some b]=M.o (gMul a b))(hc:∀c∈r.cs,Bt 100 c)(hs:∀s∈st,Bt 100 s):compD (gTup2 0 1) tYes fe ((r.cs.zip st).map λp=>.tup [.int p.1,.int p.2]) [none,none]=some ((r.cs.zip st).map λp=>.int (p.1*p.2)):=
 jem (K:=λp=>(D.int p.1,D.int p.2)) (r.cs.zip st) _ _ λp hp=>by have:=mT (hc _ (zca hp).1) (hs _ (zca hp).2);rw[hf,this];rfl
def jAp(hc:∀c∈r.cs,Bt 100 c)(hs:∀s∈st,Bt 100 s)(hl:r.cs.length<=5):jhq [.tup [.tup (r.cs.map .int),.int r.rest],.tup (st.map .int)]=oK (.int (spF r st)):=by
 have ln:((r.cs.zip st).map λp=>D.int (p.1*p.2)).length<=1000:=by rw[zav,cG];lia
 unfold jhq;rw[jde];unfold jhn;rw[jbq (by dsimp;simp only[stp,(jIm (fe:=jit) (λa b=>rfl) hc hs),ja3 ln,jwp];rfl)];rfl
def jz4(hk:b.rls[k]?=some r)(hc:∀c∈r.cs,Bt 100 c)(hs:∀s∈st,Bt 100 s)(hl:r.cs.length<=5):jol [bkD b,.int (k:Nat),.tup (st.map .int)]=oK (.int (spF r st)):=by have ea:atI _ _=some (rulD r):=atI_get (by rw[zba,hk];rfl);unfold jol;rw[jfp];unfold jn6;rw[jbq (d:=.int (spF r st)) (by simp[ea,rl1,rl2,(jAp hc hs hl)])];rfl
end
structure RulOk(its:List (List Nat×Int))(m:Int)(k i:Nat)(r:Rul):Prop where
 nm:r.nm=nmS i m
 len:r.cs.length=its.length
 bt:∀c∈r.cs,Bt 100 c
 rb:Bt k r.rest
 cn:∀c∈r.cs,c.natAbs<10^23
 rn:r.rest.natAbs<10^25
 dn:(dtF r.cs (its.map (·.2))).natAbs<=5*(7*10^23)
theorem jIf(cs:Ae)(its:List (List Nat×Int)):dtF cs (its.map (·.2))=((cs.zip its).map λz=>z.1*z.2.2).sum:=by unfold dtF;rw[List.zip_map_right,aP];rfl
theorem jm4(s0 s1 s2 s3 s4 s5 s6:Option D):∀(zs:List (Int×List Nat×Int)) (r:Int) (x y:Option D),(∀z∈zs,Bt 100 z.1/\Bt 100 z.2.2) ->
  ∃x' y',forD jed (gTup2 8 9) (zs.map λz=>.tup [.int z.1,itD z.2]) [s0,s1,s2,s3,s4,s5,s6,oI r,x,y]=nX [s0,s1,s2,s3,s4,s5,s6,oI (r-(zs.map λz=>z.1*z.2.2).sum),x',y']
|[],r,x,y,_=>⟨x,y,by rw[gf,gf,List.sum_nil,Int.sub_zero];rfl⟩
|z::zs,r,x,y,h=>by
  obtain⟨h1,h2⟩:=h z zaa;obtain⟨x',y',ih⟩:=jm4 s0 s1 s2 s3 s4 s5 s6 zs _ _ _ λq hq=>h q (zaw _ hq)
  refine⟨x',y',?_⟩;rw[aE,jih rfl (by unfold jed itD;dsimp;simp only[stp,(mT h1 h2)];rfl),ih,aE,gq,show r-z.1*z.2.2-(zs.map _).sum=r-(z.1*z.2.2+(zs.map λz=>z.1*z.2.2).sum) by lia]
abbrev r10(ns:Ae)(its:List (List Nat×Int))(n most:Nat)(rls:List Rul)(k a b c d:Option D):DSt:=[some (scr ns),oL (its.map itD),oI (n:Nat),oI (most:Nat),oL (rls.map rulD),k,a,b,c,d]
theorem jdr(n:Nat):(jbn 0 n).length=n:=by simp_all
def jjt(h:j<(jbn 0 n).length):(jbn 0 n)[j]=.int (j:Nat):=by simp_all
def jzn(ns:Ae)(hi:its.length<=5)(hb:∀p∈its,Bt 100 p.2)(hbn:∀p∈its,p.2.natAbs<mi)(ci:mi*most<=7*10^23)(dq:most<=10^23)(hn:n<=6)(hm:7<=most)(hx:most<2^100):∃rls:List Rul,jgj [scr ns,.lst (its.map itD),.int (n:Nat),.int (most:Nat)]=oK (.lst (rls.map rulD))/\rls.length=n/\∀i r,rls[i]?=some r->RulOk its (drF ns 2) 206 i r:=by
 obtain⟨Y',e,rls,k',a,b,c,d,rfl,hl,hr⟩:=jld (g:=jee) (tg:=DL.gName 5) (jbn 0 n) (λj Y=>∃(rls:List Rul) (k a b c d:Option D),Y=r10 ns its n most rls k a b c d/\rls.length=j/\∀i r,rls[i]?=some r->RulOk its (drF ns 2) 206 i r)
  (λj hj Y hzz=>by
   obtain⟨rls,k,a,b,c,d,hδ,hl,hr⟩:=hzz;subst hδ;rw[jdr]at hj;refine⟨_,by rw[jjt];rfl,?_⟩
   let cs:=(List.range its.length).map λi:Nat=>wdF ns (20+5*(j)+(i)) most
   have dy:∀x∈cs,Bt 100 x:=λx hx'=>by obtain⟨i,hi',rfl⟩:=zcv.mp hx';have:=zcc.mp hi';exact bC (jqt (by lia) (by clear dq hx;lia) hm hx) hx
   have cr:∀x∈cs,x.natAbs<most:=λx hx'=>by obtain⟨i,hi',rfl⟩:=zcv.mp hx';have:=zcc.mp hi';exact jqt (by lia) (by clear hx';lia) hm hx
   have a5:gMul _ _=oI (5*(j)):=mT (a:=10) (b:=10) (by grind[Bt]) (by unfold Bt;clear cr;lia);have cf:=ja7 (c:=[some (scr ns),oI (most),oI (j)]) (fe:=jej) (K:=λo:Nat=>D.int (o)) (F:=λi=>.int (wdF ns (20+5*(j)+(i)) most)) (List.range its.length) none (λi hi'=>by have:=zcc.mp hi';unfold jej;simp[a5,(jCa (k:=20+5*(j)+(i)) (by lia) (by clear hb;lia) hm hx)])
   rw[<- jvm,show((List.range _).map λi=>D.int _)=cs.map _ from(aP ..).symm]at cf;have lc:cs.length=its.length:=by rw[zav,dJ]
   have ln:(cs.map D.int).length<=1000:=by rw[zav];lia
   have x1:=md (i:=drF ns (50+(j))) (j:=30) (by decide);have x2:=md (i:=drF ns (60+(j))) (j:=3) (by decide);have b1:Bt 5 (drF ns _ % 30):=jrl x1.1 x1.2 (by decide);have b2:Bt 2 (drF ns _ % 3):=jrl x2.1 x2.2 (by decide);have mm:=mT b1 b2;have b3:=b1.mul b2;have q0:=Int.mul_nonneg x1.1 x2.1;have q1:(drF ns _ % (30)*(drF ns _ % (3))).natAbs<2^7:=b3;generalize drF ns _ % 30*(drF ns _ % 3)=q at mm b3 q0 q1;have hz:∀z∈cs.zip its,Bt 100 z.1/\Bt 100 _:=λz hz=>⟨dy _ (zca hz).1,hb _ (zca hz).2⟩
   obtain⟨x',y',lp⟩:=jm4 _ _ _ _ _ _ _ _ q c d hz;have br:Bt 206 (q-((cs.zip its).map λz=>z.1*z.2.2).sum):=by have:=Bt.add (b3.mono (by decide)) (jM0 _ (λz h=>(hz z h).1.mul (hz z h).2) (by rw[cG];lia)).neg;exact this.mono (by decide)
   have sl:=jB1 _ λz hz'=>by rw[Int.natAbs_mul,Nat.mul_comm];exact zdz (Nat.mul_le_mul (cY (hbn _ (zca hz').2)) (cY (cr _ (zca hz').1))) ci
   have sl':(cs.zip its).length*(7*10^23)<=5*(7*10^23):=cX _ (by rw[cG];simp_all);have rn:(q-((cs.zip its).map λz=>z.1*z.2.2).sum).natAbs<10^25:=by lia
   let r:Rul:=⟨nmS j (drF ns 2),cs,q-((cs.zip its).map λz=>z.1*z.2.2).sum⟩
   refine⟨r10 ns its n _ _ (oI (j)) (some (.tup (cs.map .int))) (oI (q-((cs.zip its).map λz=>z.1*z.2.2).sum)) x' y',.inl ?_,rls++[r],_,_,_,_,_,rfl,by simp_all,λi r' av=>?_⟩
   .unfold jee;rw[jah (by dsimp;simp only[stp,zav,cf,ja3 ln];rfl),
     jah (by dsimp;simp only[stp,(jfv (k:=50+(j)) (by lia) (by clear rn;lia)),(jfv (k:=60+(j)) (by lia) (by lia)),(mod_int (j:=30) (by decide)),(mod_int (j:=3) (by decide)),mm];rfl),
     jah (by rw[jAq (by dsimp;simp only[stp,jj3];rfl)];exact lp),
     jpf 4 (by dsimp;simp only[stp,(jfv (k:=2) (by decide) (by decide)),(jli (k:=j) (by lia) _)];rfl) rfl (by rw[zav];clear sl br a5;lia)]
    unfold r10;rw[bA];rfl
   .by_cases ay:i<rls.length
    .clear mm hz;grind
    .rw[aL (fZ ay)]at av;obtain⟨h0,e0⟩:=zbb.mp av;have:i-rls.length=0:=by have:i-rls.length<1:=h0;simp_all
     have cq:i=j:=by clear sl sl' a5 hn;lia
     subst cq;simp only[this]at e0;subst e0;exact⟨rfl,lc,dy,br,λc hc=>zcx (cr c hc) dq,rn,by grind[jIf,Nat.le_trans]⟩) _ ⟨[],_,_,_,_,_,rfl,rfl,λi r h=>by cases h⟩
 rw[jdr]at hl;refine⟨rls,?_,hl,hr⟩;unfold jgj;rw[jIi];unfold jga;rw[jah (jco 4 rfl),
  jah (by exact e),jbq rfl]
 rfl
structure DedOk(its:List (List Nat×Int))(m:Int)(i:Nat)(d:Ded):Prop where
 nm:d.nm=nmS i m
 len:d.chs.length=its.length
 ln:d.lo.natAbs<10^25
 hn:d.hi.natAbs<10^24
 cn:∀c∈d.chs,c.1.natAbs<10^23/\c.2.natAbs<10^23
def w23(h0:0<=k)(h1:k<=800):∃v:Int,ja4 [scr ns,.int k,.int 100000000000000000000000]=oK (.int v)/\Bt 100 v/\v.natAbs<10^23:=by obtain⟨v,e,h⟩:=jw1 ns (most:=100000000000000000000000) h0 h1 (by decide) (by decide);exact⟨v,e,bC h (by decide),h⟩
def bt_b(b:Bool):Bt 1 (if b=true then 1 else 0:Int):=by grind[Bt]
abbrev d11(ns:Ae)(its:List (List Nat×Int))(n:Nat)(dds:List Ded)(k a b c d e f:Option D)(g:Option D):DSt:=[some (scr ns),oL (its.map itD),oI (n:Nat),oL (dds.map dedD),k,a,b,c,d,e,f]
def eq_i(a b:Int):gEq (.int a) (.int b)=some (.bl (a==b)):=by rfl
def nb{v:Int}{N:Nat}(h:v.natAbs<N)(b:Bool):(v*if b=true then 1 else 0).natAbs<N:=by
 cases b with
 |false=>rw[aJ nofun,Int.mul_zero];exact eC (aY _) h
 |true=>rw[aD rfl,Int.mul_one];exact h
def jxo(ns:Ae)(hi:its.length<=5)(dds:List Ded)(hk:k<=7)(a c d e f g:Option D):∃(chs:List (Int×Int)) (c' d' e':Option D),forD jdb (DL.gName 7) (jbn 0 its.length) (d11 ns its n dds (oI (k:Nat)) a (oL []) c d e f g)=nX (d11 ns its n dds (oI (k:Nat)) a (oL (chs.map chD)) c' d' e' f g)/\chs.length=its.length/\∀c∈chs,c.1.natAbs<10^23/\c.2.natAbs<10^23:=by
 have a5:gMul _ _=oI (5*(k)):=mT (a:=10) (b:=10) (by grind[Bt]) (by unfold Bt;omega);obtain⟨Y',e0,chs,c',d',e',rfl,hl,hcn⟩:=jld (g:=jdb) (tg:=DL.gName 7) (jbn 0 its.length) (λj Y=>∃(chs:List _) (c' d' e':Option D),Y=d11 ns its n dds (oI (k)) a (oL (chs.map chD)) c' d' e' f g/\chs.length=j/\∀c∈chs,c.1.natAbs<10^23/\c.2.natAbs<10^23)
  (λj hj Y hzz=>by
   obtain⟨chs,c,d,e,hδ,hl,hcn⟩:=hzz;subst hδ;rw[jdr]at hj;have dr:=jfv (ns:=ns) (k:=80+5*(k)+(j)) (by lia) (by lia);generalize drF ns _=m at dr;have m3:=mod_int (i:=m) (j:=3) (by decide);generalize m % 3=s at m3;obtain⟨v1,w1,b1,n1⟩:=w23 (ns:=ns) (k:=120+5*(k)+(j)) (by lia) (by lia);obtain⟨v2,w2,b2,n2⟩:=w23 (ns:=ns) (k:=160+5*(k)+(j)) (by lia) (by lia);refine⟨_,by rw[jjt];rfl,d11 ns its n dds _ a (oL ((chs++[(v1*(if(!(s==1))=true then 1 else 0),v2*(if(s==2)=true then 1 else 0))]).map chD)) (oI (j)) (oI s) (oI (v1*(if(!(s==1))=true then 1 else 0))) f g,.inl ?_,_,_,_,_,rfl,by simp_all,λc hc=>by
    rcases zdy.mp hc with h|h
    .exact hcn c h
    .cases zdx.mp h;exact⟨nb n1 _,nb n2 _⟩⟩
   unfold jdb;rw[jah (by dsimp;simp only[stp,a5,dr,m3];rfl),
    jah (by dsimp;simp only[stp,a5,p1023,w1,(mT b1 (bt_b _))];rfl),
    jpf 6 (by dsimp;simp only[stp,a5,p1023,w2,(mT b2 (bt_b _))];rfl) rfl (by grind),bA]
   rfl) _ ⟨[],c,d,e,rfl,rfl,λz h=>nomatch h⟩
 grind[jdr]
def jxs(ns:Ae)(hi:its.length<=5)(hn:n<=7):∃dds:List Ded,jgh [scr ns,.lst (its.map itD),.int (n:Nat)]=oK (.lst (dds.map dedD))/\dds.length=n/\∀i d,dds[i]?=some d->DedOk its (drF ns 3) i d/\d.lo<=d.hi:=by
 obtain⟨Y',e0,dds,k',a,b,c,d,e,f,rfl,hl,hd⟩:=jld (g:=jeb) (tg:=DL.gName 4) (jbn 0 n) (λj Y=>∃(dds:List Ded) (k a b c d e f:Option D),Y=d11 ns its n dds k a b c d e f none/\dds.length=j/\∀i d,dds[i]?=some d->DedOk its (drF ns 3) i d/\d.lo<=d.hi)
  (λj hj Y hzz=>by
   obtain⟨dds,k,a,b,c,d,e,f,hδ,hl,hd⟩:=hzz;subst hδ;rw[jdr]at hj;refine⟨_,by rw[jjt];rfl,?_⟩;obtain⟨lo,w1,b1,n1⟩:=w23 (ns:=ns) (k:=70+(j)) (by lia) (by lia);obtain⟨chs,c',d',e',lp,lc,lcn⟩:=jxo ns hi dds (k:=j) (by lia) _ c d e f none;have dr:=jfv (ns:=ns) (k:=200+(j)) (by lia) (by lia);generalize drF ns _=m at dr
   let dd:Ded:=⟨nmS j (drF ns 3),lo,lo+m % 9,chs⟩
   refine⟨d11 ns its n _ (oI (j)) (oI lo) (oL (chs.map chD)) c' d' e' (oI (lo+m % 9)) _,.inl ?_,dds++[dd],_,_,_,_,_,_,_,rfl,by simp_all,λi r' av=>?_⟩
   .unfold jeb;rw[jah (by dsimp;simp only[stp,p1023,w1];rfl),
     jah (jco 6 rfl),
     jah (by rw[jAq (by simp[zav];rfl)];exact lp),
     jah (by dsimp;simp only[stp,dr];rfl),
     jpf 3 (by dsimp;simp only[stp,(jfv (k:=3) (by decide) (by decide)),(jli (k:=j) (by lia) _)];rfl) rfl (by grind)]
    unfold d11;rw[bA];rfl
   .by_cases ay:i<dds.length
    .clear dr n1;grind
    .rw[aL (fZ ay)]at av;obtain⟨h0,e0⟩:=zbb.mp av;have:i-dds.length=0:=by have:i-dds.length<1:=h0;clear hd hi;lia
     have cq:i=j:=by clear e0;lia
     subst cq;simp only[this]at e0;subst e0;exact⟨⟨rfl,lc,bC n1 (by decide),(by clear av lp w1 hj;grind),lcn⟩,Int.le_add_of_nonneg_right (md (by decide)).1⟩) _ ⟨[],_,_,_,_,_,_,_,rfl,rfl,λi r h=>by cases h⟩
 rw[jdr]at hl;refine⟨dds,?_,hl,hd⟩;unfold jgh;rw[jfp];unfold jf7;rw[jah (jco 3 rfl),
  jah (by exact e0),jbq rfl]
 rfl
structure BkOk(k:Nat)(b:Bk):Prop where
 i1:1<=b.its.length
 i4:b.its.length<=5
 r5:b.rls.length<=6
 d6:b.dds.length<=7
 st:∀p∈b.its,Bt 100 p.2
 sn:∀p∈b.its,p.2.natAbs<10^23
 im:∃m,∀i p,b.its[i]?=some p->p.1=nmS i m
 rl:∃m,∀i r,b.rls[i]?=some r->RulOk b.its m k i r
 dd:∃m,∀i d,b.dds[i]?=some d->DedOk b.its m i d
def jJf(h:(itsF ns n most)[i]?=some p):p.1=nmS i (drF ns 1):=by
 unfold itsF at h;grind
structure Cnt(a b c:Nat)(bk:Bk):Prop where
 i:bk.its.length=a
 r:bk.rls.length=b
 d:bk.dds.length=c
 lh:∀d∈bk.dds,d.lo<=d.hi
def jCq(ns:Ae)(ha:1<=a/\a<=5)(hb:1<=b/\b<=6)(hc:1<=c/\c<=7):∃bk:Bk,jfb [scr ns,.lst [.int (a:Nat),.int (b:Nat),.int (c:Nat)]]=oK (bkD bk)/\BkOk 206 bk/\Cnt a b c bk:=by
 have mx:=jHi (n:=atF ns 0) (p:=2) (by decide) (by decide);generalize mixF _ 2=m at mx;have go:∀(q:Nat)(mi mr:Nat),m % 2=(q)->atI [D.int 7,D.int 100000000000000000000000] (q)=oI (mi)->atI [D.int 100000000000000000000000,D.int 7] (q)=oI (mr)->7<=mi->mi<2^100->7<=mr->mr<2^100->mi*mr<=7*10^23->mr<=10^23->mi<=10^23 ->
   ∃bk:Bk,jfb [scr ns,.lst [.int (a),.int (b),.int (c)]]=oK (bkD bk)/\BkOk 206 bk/\Cnt a b c bk:=by
  intro q mi mr hq h1 h2 m1 m2 m3 m4 m5 m6 m7;have li:(itsF ns a mi).length=a:=by unfold itsF;rw[zav,dJ]
  have bi:∀p∈itsF ns a mi,Bt 100 p.2:=λp hp=>by obtain⟨i,hi,rfl⟩:=zcv.mp hp;have:=zcc.mp hi;exact bC (jqt (by clear m4 m1;lia) (by lia) m1 m2) m2
  have bn:∀p∈itsF ns a mi,p.2.natAbs<mi:=λp hp=>by obtain⟨i,hi,rfl⟩:=zcv.mp hp;have:=zcc.mp hi;exact jqt (by clear m5 m6;lia) (by clear m1;clear bi hq li;lia) m1 m2
  obtain⟨rls,er,lr,hr⟩:=jzn ns (by rw[li];exact ha.2) bi bn m5 m6 hb.2 m3 m4;obtain⟨dds,ed,ld,hd⟩:=jxs ns (by rw[li];exact ha.2) hc.2;refine⟨⟨itsF ns a mi,rls,dds⟩,?_,⟨by simp_all,by rw[li];exact ha.2,by simp_all,by simp_all,bi,λp hp=>zcx (bn p hp) m7,⟨_,λi p h=>jJf h⟩,⟨_,hr⟩,⟨_,λi d h=>(hd i d h).1⟩⟩,li,lr,ld,λd h=>by obtain⟨i,hi⟩:=eK h;clear h1 hq;grind⟩;unfold jfb;rw[jde];unfold jhk;rw[jah (by simp[(w_at (k:=0) (by decide) (by decide)),mx,(mod_int (j:=2) (by decide)),hq];rfl),jah (by simp[p1023,h1,(jyf ns ha.2 m1 m2)];rfl),jbq (by simp[p1023,h2,er,ed];rfl)];rfl
 have hq:m % 2=0\/m % 2=1:=by grind
 rcases hq with hq|hq
 .exact go 0 7 _ hq rfl rfl (by decide) (by decide) (by decide) (by decide) (by simp_all) (by decide) (by decide)
 .exact go 1 _ 7 hq rfl rfl (by decide) (by decide) (by decide) (by decide) (by simp_all) (by decide) (by decide)
theorem jA3(h:d<10):(Nat.digitChar d).toNat=48+d:=(by decide:∀d,d<10->(Nat.digitChar d).toNat=48+d) d h
def jxu(h:n<10):dg n=[48+n]:=by grind[dg,Nat.toDigits_of_lt_base,jA3]
def jC0(h:10<=n):dg n=dg (n / 10)++[48+n % 10]:=by unfold dg;rw[Nat.toDigits_of_base_le (by decide) h,bA,aE,gf,jA3 (Nat.mod_lt _ (by decide))]
def numT(v:Int):Aa:=if v<0 then 45::dg v.natAbs else dg v.natAbs
def jEt(a b:String):Str.ofString (a++b)=St ((Str.ofString a).cps.toList++(Str.ofString b).cps.toList):=by rw[fG,fG,fG,String.toList_append,bA];rfl
def int_str(v:Int):Str.ofString (toString v)=St (numT v):=by
 unfold numT
 cases v with
 |ofNat n=>exact jte n
 |negSucc n=>rw[aD (Int.negSucc_lt_zero n)];have e:toString (Int.negSucc n)="-"++toString ((n+1:Nat):Int):=rfl;rw[e,jEt,jte,joi];rfl
def jpe(h:v.natAbs<10^31):kStr [.int v]=some (sT (numT v)):=by
 have hl:v.natAbs.log2<1920:=by
  by_cases q:v.natAbs=0
  .rw[q];decide
  .exact bC ((eZ q).mpr (bC h (by decide:10^31<2^200))) (by decide)
 show(if v.natAbs.log2<1920 then some _ else none)=_;rw[aD hl,int_str]
def jgw{fa fb:DSt->M D}{Y:DSt}{x y:Bool}(h:fa Y=some (.ok (.bl x)))(g:fb Y=some (.ok (.bl y))):fAnd fa fb Y=oK (.bl (x&&y)):=by
 unfold fAnd;rw[h,M.b_ok];cases x
 .rfl
 .exact g
def or_b{fa fb:DSt->M D}{Y:DSt}{x y:Bool}(h:fa Y=some (.ok (.bl x)))(g:fb Y=some (.ok (.bl y))):fOr fa fb Y=oK (.bl (x || y)):=by
 unfold fOr;rw[h,M.b_ok];cases x
 .exact g
 .rfl
def le_b(x y:Int):gLe (.int x) (.int y)=some (.bl (decide (x<=y))):=rfl
def js8{fa fb fc:DSt->M D}{Y:DSt}{a b c:Int}(h1:fa Y=some (.ok (.int a)))(h2:fb Y=some (.ok (.int b)))(h3:fc Y=some (.ok (.int c))):fChain gLe gLe fa fb fc Y=oK (.bl (decide (a<=b)&&decide (b<=c))):=by
 unfold fChain;rw[h1,M.b_ok,h2,M.b_ok,le_b];cases decide (a<=b)
 .rfl
 .rw[h3,M.b_ok,le_b];rfl
def jNl(a:Aa):txtD (sT a)=some (a.map λc=>.str (S1 c)):=by
 show some _=_;congr 1;have hs:(St a).cps.size=a.length:=by simp[St]
 rw[hs];refine dL (by simp) λi h1 h2=>?_
 simp only[zav,dJ]at h1;simp[St,S1,h1]
def jl2{fe:DSt->M D}{a:Aa}{f:Nat->Bool}(hl:a.length<=100)(h:∀c,fe [oS (S1 c)]=oK (.bl (f c))):
  fL kAll (fCons (fComp 1 [] (iTxtD (vR 0)) (DL.gName 0) tYes fe) fNil) [some (sT a)]=oK (.bl (a.all f)):=by
 have ei:iTxtD (vR 0) [some (sT a)]=oK (a.map λc=>.str (S1 c)):=by unfold iTxtD;simp[jNl];rfl
 dsimp;simp only[stp,ei,(ja7 a _ λc z=>h c),ja3 (show(a.map _).length<=1000 by grind),(jAv a f)];rfl
def jJs(h:a.length<=50000):kLen [sT a]=oI (a.length:Nat):=by show(if(St a).length<=sizeLine then some _ else none)=_;rw[jay,aD (by rw[bG];lia)]
def jjn(h:Nm a):jbx [sT a]=oK (.bl true):=by
 have hl:=h.le;have h1:=List.length_pos_iff.mpr h.ne;have e1:fChain gLe gLe (cI 1) (fL kLen (fCons (vR 0) fNil)) (cI 10) [some (sT a)]=oK (.bl true):=by rw[js8 rfl (by simp[jJs (show a.length<=50000 by lia)];rfl) rfl,aX (by lia),aX (by lia)];rfl
 have e2:=jl2 (fe:=jhc) (a:=a) (f:=isL) (by lia) λc=>by simp_all [jhc,jc5]
 rw[aQ.mpr h.al]at e2;show(jg2 [some _]).b _=_;unfold jg2;rw[jbq (jgw e1 e2)];rfl
def lt_0:Str.ofString "0"=St [48]:=by rfl
def jO9:Str.ofString "-0"=St [45,48]:=by rfl
def jx0(x y:Aa):gEq (sT x) (sT y)=some (.bl (decide (x=y))):=by
 show some (D.bl (St x==St y))=_;congr 2
 by_cases h:x=y
 .subst h;simp
 .rw[aN h];exact aH.mpr λz=>h (jku z)
def jj1(c d:Nat)(a:Aa):Txt.startswith (St (c::a)) (St [d])=decide (c=d):=by
 unfold Txt.startswith Builtin.Str.subAt St
 by_cases h:c=d
 .grind[Str.length]
 .rw[aN h];simp;intro _;show¬List.take 1 _=[d];simp;exact h
def jtf(h:0<n):∀r,dg n≠48::r:=by
 induction n using Nat.strongRecOn with
 |ind n ih=>
  intro r e
  by_cases hn:n<10
  .rw[jxu hn]at e
   simp_all
  .rw[jC0 (by simp_all)]at e
   cases hd:dg _ with
   |nil=>exact jmg _ hd
   |cons c s=>rw[hd]at e;have:=(cZ e).1;subst this;exact ih _ (by lia) (by simp_all) s hd
def jDn(h:n<10^31):jdh [sT (dg n)]=oK (.bl true):=by
 have hl:=jfm h;obtain⟨c,s,hc⟩:∃c s,dg n=c::s:=by cases hd:dg n with|nil=>exact absurd hd (jmg n)|cons c s=>grind
 have e2:=jl2 (fe:=jbt) (a:=dg n) (f:=isG) (by lia) λc=>by simp_all [jbt,jg0]
 rw[aQ.mpr (jkm (jfl n))]at e2;have t1:DL.tOr (t2 gEq (vR 0) (cS "")) (DL.tNot (tTru (fL kAll (fCons (fComp 1 [] (iTxtD (vR 0)) (DL.gName 0) tYes jbt) fNil)))) [some (sT (dg n))]=oK false:=by
  have h1:t2 gEq (vR 0) (cS "") [some (sT (dg n))]=oK false:=by simp[jEh,jx0,aN (jmg n)];rfl
  have h2:tTru (fL kAll (fCons (fComp 1 [] (iTxtD (vR 0)) (DL.gName 0) tYes jbt) fNil)) [some (sT (dg n))]=oK true:=by rw[jtp,e2];rfl
  unfold DL.tOr DL.tNot;rw[h1,M.b_ok,h2];rfl
 show(jdg [some _]).b _=_;unfold jdg;rw[jnq t1];have e3:f2 gEq (vR 0) (cS "0") [some (sT (dg n))]=oK (.bl (decide (dg n=[48]))):=by simp[lt_0,jx0];rfl
 have e4:f1 gNot (fSm gStarts (vR 0) (cS "0")) [some (sT (dg n))]=oK (.bl (!decide (c=48))):=by have:fSm gStarts (vR 0) (cS "0") [some (sT (dg n))]=M.p _:=rfl;unfold f1;rw[this,lt_0,hc,jj1];rfl
 rw[jbq (or_b e3 e4)];have:(decide (dg n=[48]) || !decide (c=48))=true:=by
  by_cases hn:n=0
  .subst hn;rfl
  .rw[aN (show¬c=48 fromλz=>jtf (by lia) s (z ▸ hc)),Bool.not_false,Bool.or_true]
 rw[this];rfl
def jwa(x:Str)(l:Option Int):Txt.slice x l none=Txt.slice x l (some (x.length:Nat)):=by
 unfold Txt.slice;have:Builtin.Str.strSliceIndices l none 1 x.length=Builtin.Str.strSliceIndices l (some (x.length)) 1 x.length:=by
  unfold Builtin.Str.strSliceIndices sliceRange;have y:¬((x.length):Int)<0:=by simp_all
  cases l<;>simp[y]
 rw[this]
def cut1(c:Nat)(a:Aa)(h:a.length<=40000):fSl (vR 0) (oSome (cI 1)) oNone [some (sT (c::a))]=oK (sT a):=by
 have A:=At.slice (jN8 [c] (a++[]) (by simp;lia));refine jsc rfl rfl rfl ?_;show(if(St _).length<=sizeLine then some _ else none)=_;rw[aD (by rw[jay,bG,aI];lia),jwa,jay];rw[aO]at A;have e:((([c]).length+a.length))=((c::a).length):=by simp;lia
 rw[e]at A;exact congrArg (λz=>some _) A
def jlh(h:v.natAbs<10^31):jb3 [sT (numT v)]=oK (.bl true):=by
 have hl:=jfm h;have fo:=jDn h;show(jdv [some _]).b _=_;unfold jdv numT;have tS:∀(c:Nat)(a:Aa),tTru (fSm _ _ _) _=oK _:=λc a=>by have:fSm gStarts (vR 0) (cS "-") [some (sT (c::a))]=M.p _:=rfl;rw[jtp,this,joi,jj1];rfl
 by_cases hv:v<0
 .rw[aD hv];have e1:f2 gNe (vR 0) (cS "-0") [some (sT (45::dg v.natAbs))]=oK (.bl true):=by
   have:gNe (sT (45::dg v.natAbs)) (sT [45,48])=some (.bl true):=by show some (D.bl (!(St _==St _)))=_;rw[aH.mpr λz=>(λz=>jtf (by clear tS;omega) [] (cZ z).2) (jku z)];rfl
   simp[jO9,this];rfl
  have e2:fCall jdh (fCons (fSl (vR 0) (oSome (cI 1)) oNone) fNil) [some (sT (45::dg v.natAbs))]=oK (.bl true):=by clear e1;simp[(cut1 45 (dg v.natAbs) (by clear hv;lia)),fo]
  rw[w_rt (by rw[w_if (tS _ _),aD (aX rfl)];exact jbq (jgw e1 e2))];rfl
 .rw[aJ hv];obtain⟨c,s,hc⟩:∃c s,dg v.natAbs=c::s:=by cases hd:dg _ with|nil=>exact absurd hd (jmg _)|cons c s=>exact⟨c,s,rfl⟩
  have hg:=jfl _ c (by rw[hc];exact zaa);have t:=tS c s;rw[<- hc,aN (by rintro rfl;revert hg;decide)]at t;rw[jnq t,jbq (d:=.bl true) (by (try dsimp);assumption)];rfl
def joq(h:v.natAbs<10^31):ja1 [sT (numT v)]=oK (.int v):=by
 have hl:=jfm h;unfold numT
 by_cases hv:v<0
 .rw[aD hv];have fo:=jkh (jfl v.natAbs) (jmg _) (by lia);rw[jpv]at fo;have t:tTru (fSm gStarts (vR 0) (cS "-")) [some (sT (45::dg v.natAbs))]=oK true:=by have:fSm gStarts (vR 0) (cS "-") [some (sT (45::dg v.natAbs))]=M.p _:=rfl;rw[jtp,this,joi,jj1];rfl
  show(jb2 [some _]).b _=_;unfold jb2;rw[w_rt (by
   rw[w_if t,aD rfl];simp[(cut1 45 (dg v.natAbs) (by lia)),fo];have:-((v.natAbs))=v:=by lia
   show some _=_;rw[this])]
  rfl
 .rw[aJ hv,jm9 (jfl _) (jmg _) (by lia),jpv];have:((v.natAbs))=v:=by lia
  rw[this]
def jJw:Str.ofString ": "=St [58,32]:=by rfl
def jg6(l:D):jam [.bl true,l]=oK .non:=rfl
def jri{f:DSt->M D}{Y:DSt}{d:D}(h:f Y=some (.ok d)):gDrop f Y=nX Y:=by unfold gDrop;rw[h];rfl
def jhr(h:Nm a)(hc:isL c=false):c∉a:=λz=>by rw[h.al c z]at hc;cases hc
theorem jEq(h:c∈numT v):c=45\/isG c=true:=by
 unfold numT at h
 split at h
 .rcases aM.mp h with h|h
  .exact .inl h
  .exact .inr (jkm (jfl _) c h)
 .exact .inr (jkm (jfl _) c h)
def jh5(h1:c≠45)(h2:isG c=false):c∉numT v:=λz=>by grind[jEq]
def jgp(h:v.natAbs<10^31):(numT v).length<=32:=by
 have:=jfm h
 grind[numT,List.length_cons]
def jzk(ha:Nm a)(h:v.natAbs<10^31)(l:D):jdz [sT (a++(32::numT v)),l]=oK (itD (a,v)):=by
 have hl:=ha.le;have nl:=jgp h;have sp:=jin (c:=32) (u:=[]) (ps:=[a,numT v]) rfl (λp hp=>by
  rcases aM.mp hp with rfl|hp
  .exact jhr ha rfl
  .rw[zdx.mp hp];exact jh5 nofun rfl) (by simp) (by simp[jai];lia) (by simp)
 unfold jdz;rw[jde];unfold jgc;rw[jah (Y':=[some _,some l,oN _]) (jco 2 (jnk rfl rfl (sp)))];have x0:f2 gIx (vR 2) (cI 0) [some (sT (a++(32::numT v))),some l,oN [a,numT v]]=oK _:=rfl;rw[jah (jri (by dsimp only [fA2];rw[jix,jcf,(jgw rfl (jgw (jjn ha) (jlh h))),M.b_ok];rfl))];have c5:fCall ja1 (fCons (f2 gIx (vR 2) (cI 1)) fNil) [some (sT (a++(32::numT v))),some l,oN [a,numT v]]=oK _:=joq h;rw[jbq (by dsimp only [fA1,fA2];rw[e_L,jcf,x0,M.b_ok,jcf,c5,M.b_ok];rfl)];rfl
structure TxS(aa:LL)(x:Aa)(f:Fm):Prop where
 ex:∃ac p,x=jaj ac p/\Sm aa (ac.map (·.2)) f 2000
theorem jv3:∀(s:List (Nat×Aa)) (p:Nat),(∀q∈s,q.2≠[])->s.length<=(jaj s p).length
|[],p,_=>by simp
|(k,a)::s,p,h=>by
  have:=jv3 s p λq hq=>h q (zaw _ hq)
  have:1<=a.length:=by cases a with|nil=>simp_all|cons _ _=>simp
  show s.length+1<=(List.replicate k 32++(a++jaj s p)).length;grind
def jln(hn:aa.length<=1000)(T:TxS aa x f)(hl:x.length<=40000)(l:D):jby [.lst (nmD aa),sT x,l]=oK (fm f):=by
 obtain⟨ac,p,e1,S⟩:=T.ex;have tk:∀q∈ac,∃c r,q.2=c::r/\(isL c=true->q.2∈aa)/\q.2.length<=40:=λq hq=>S.toks _ (List.mem_map_of_mem hq)
 have hsl:=jv3 _ p (λq hq=>by obtain⟨c,r,e,_⟩:=tk q hq;rw[e];simp);have e2:=jFr (ac:=ac) (p:=p) (x:=St x) hn (by assumption) (by rw[jay];lia) (by
  have:=S.acc [] 0 .done
  simp_all) (by lia) (λq hq=>by
  clear S hl;grind) (by have:=S.ok;rw[aP]at this;exact this)
 have e3:gRet (fCall jfc (fCons (vR 0) (fCons (vR 1) fNil))) [oN aa,some (sT x),some l]=oK (.rt (fm f)):=by show((jfc [.lst _,.str _]).b _)=_;rw[e2];rfl
 show((SI.gNoE _ [oN _,some _,some l]).b _)=_;unfold SI.gNoE;rw[e3];rfl
def TxS.shown(hn:aa.length<=10)(hN:∀a∈aa,Nm a)(hd:aa.Nodup)(h:FOk aa.length f):TxS aa (jb1 aa f) f:=by obtain⟨ac,e,_,S⟩:=jzy hn hN hd h;exact⟨_,0,e,S⟩
theorem jht:∀(s:List (Nat×Aa)) (p n:Nat),jaj s (p+n)=jaj s p++List.replicate n 32
|[],p,n=>by show List.replicate _ 32=_;rw[<- List.replicate_append_replicate];rfl
|(k,a)::s,p,n=>by
  show List.replicate k 32++(a++jaj s _)=_;rw[jht s p n];show _=(List.replicate k 32++(a++jaj s p))++_;simp_all
def TxS.pad(h:TxS aa x f)(m n:Nat):TxS aa (List.replicate m 32++(x++List.replicate n 32)) f:=by
 obtain⟨ac,p,e,S⟩:=h.ex
 cases ac with
 |nil=>
  refine⟨[],m+(p+n),?_,S⟩;rw[e];show List.replicate m 32++(List.replicate p 32++List.replicate n 32)=List.replicate _ 32;simp_all
 |cons q s=>
  obtain⟨k,a⟩:=q;refine⟨(m+k,a)::s,p+n,?_,S⟩;rw[e];show List.replicate m 32++((List.replicate k 32++(a++jaj s p))++List.replicate n 32)=List.replicate _ 32++(a++jaj s _);rw[jht,<- List.replicate_append_replicate];grind
def TxS.paren(h:TxS aa x f):TxS aa (40::(x++[41])) f:=by
 obtain⟨ac,p,e,S⟩:=h.ex;refine⟨(0,[40])::(ac++[(p,[41])]),0,?_,?_⟩
 .show _=[40]++jaj _ 0;rw[e,jhs];show 40::(jaj _ p++[41])=40::(jaj _ 0++(List.replicate p 32++([41]++[])))
  have:=jht ac 0 p;simp_all
 .have:=((Fc.paren S).tm (by decide)).sm (by decide)
  simp_all
noncomputable def subL(xs ys:Ae):Ae:=(xs.zip ys).map λp=>p.1-p.2
def retM{g:DSt->M Out}{Y:DSt}{d:D}(h:g Y=some (.ok (.rt d))):((g Y).b outD)=oK d:=by rw[h];rfl
def jju{i:Nat}{m:List D->M D}{fl:DSt->M (List D)}{Y:DSt}{ds:List D}{d:D}(h1:fl Y=some (.ok ds))(h2:m ds=some (.ok d)):gSet i (fCall m fl) Y=nX (Y.set i (some d)):=by unfold gSet fCall;rw[h1,M.b_ok,h2,M.b_ok];rfl
def jzm(hn:aa.length<=1000)(ha:Nm a)(hL:TxS aa L f)(hR:TxS aa R g)(hg:62∉L)(l1:L.length<=20000)(l2:R.length<=20000)(hf:f.1.length<=1000)(l:D):jgm [.lst (nmD aa),sT (a++([58,32]++(L++([62,61]++R)))),l]=oK (rulD ⟨a,subL f.1 g.1,f.2-g.2⟩):=by
 have al:=ha.le;have p1:=jjr (c:=58) (u:=[32]) (r:=L++([62,61]++R)) (jhr ha rfl) (by simp;lia);refine retM ?_;show jdx [oN _,oS _,some l,none,none,none,none,none]=_;generalize St _=tx at p1;unfold jdx;rw[jah (jco 3 (jnk rfl rfl (p1)))];have c2:fCall jbx (fCons (f2 gIx (vR 3) (cI 0)) fNil) [oN aa,oS tx,some l,some (.tup [sT a,sT [58,32],sT (L++([62,61]++R))]),none,none,none,none]=oK _:=jjn ha;rw[jah (jri (by show fCall _ _ [oN _,oS tx,some l,some _,none,none,none,none]=_;dsimp only [fA2];rw[jix,jcf,c2,M.b_ok];rfl)),jah (jco 4 (jnk rfl rfl ((jjr hg (by simp;lia))))),jah (jju rfl (jln hn hL (by lia) l)),jah (jju rfl (jln hn hR (by lia) l))]
 have cc:=jem (c:=[]) (fe:=jek) (K:=λp=>(D.int p.1,D.int p.2)) (f.1.zip g.1) none none λp z=>rfl
 have ln:((f.1.zip g.1).map λp=>D.int (p.1-p.2)).length<=1000:=by rw[zav,cG];lia
 have em:((f.1.zip g.1).map λp=>D.int (p.1-p.2))=(subL f.1 g.1).map .int:=by unfold subL;rw[aP];rfl
 rw[em]at cc ln;have e7:fL kTuple (fCons (fComp 2 [] (iArgs zipArgs (fCons (f2 gIx (vR 5) (cI 0)) (fCons (f2 gIx (vR 6) (cI 0)) fNil))) (gTup2 0 1) tYes jek) fNil) [oN aa,oS tx,some l,some (.tup [sT a,sT [58,32],sT (L++([62,61]++R))]),some (.tup [sT L,sT [62,61],sT R]),of f,of g,none]=oK (.tup ((subL f.1 g.1).map .int)):=by
  dsimp;simp only[stp,fm0',cc,ja3 ln];rfl
 exact(jah (jco 7 e7)).trans (jbq rfl)
def jOw(a:Aa)(aa:LL):gIn (sT a) (.lst (nmD aa))=some (.bl (decide (a∈aa))):=by show(if(true&&(nmD _).all _)=true then some _ else none)=_;rw[aD (by rw[fN,aQ];intro x hx;obtain⟨y,_,rfl⟩:=zcv.mp hx;rfl),jn9]
structure Pt where
 a:Aa
 x:Aa
 c:Int×Int
noncomputable def ptL(p:Pt):Aa:=p.a++([32]++p.x)
structure PtOk(aa:LL)(u:Aa)(p:Pt):Prop where
 nm:Nm p.a
 mem:p.a∈aa
 tx:TxS [u] p.x ([p.c.1],p.c.2)
 no:44∉p.x
 len:p.x.length<=6000
def chT(ps:List Pt):Aa:=if ps=[]then [45]else jai [44,32] (ps.map ptL)
noncomputable def jhp(ps:List Pt)(a:Aa):Int×Int:=((ps.find? λp=>decide (p.a=a)).map (·.c)).getD (0,0)
def jO8:Str.ofString ", "=St [44,32]:=by rfl
def jPw(h:PtOk aa u p):44∉ptL p:=λz=>by
 rcases zdy.mp z with z|z
 .exact jhr h.nm rfl z
 .rcases zdy.mp z with z|z
  .trivial
  .exact h.no z
def jzd(h:PtOk aa u p):jai [44,32] ((p::ps).map ptL)≠[45]:=by
 obtain⟨c,a,e⟩:∃c a,p.a=c::a:=by cases hp:p.a with|nil=>exact absurd hp h.nm.ne|cons c a=>grind
 have hc:=h.nm.al c (by simp_all);intro z;have:∃r,jai [44,32] ((p::ps).map ptL)=c::r:=by
  cases ps with
  |nil=>exact⟨_,by show ptL p=_;unfold ptL;rw[e];rfl⟩
  |cons q ps=>exact⟨_,by show ptL p++_=_;unfold ptL;rw[e];rfl⟩
 obtain⟨r,hr⟩:=this;rw[hr]at z;cases (cZ z).1;cases hc
theorem jij:∀{ps:LL},(∀p∈ps,p.length<=k)->(jai [44,32] ps).length<=ps.length*(k+2)
|[],_=>aY _
|[p],h=>by have:=h p zaa;show p.length<=1*(k+2);lia
|p::q::ps,h=>by
  have h2:=jij λr hr=>h r (zaw _ hr)
  show(p++([44,32]++jai _ _)).length<=((q::ps).length+1)*(k+2);grind
end MyLaw
namespace MyLaw
open L2 SI
section
variable {W:Aa}{A A' A0:Sto}{n k:Nat}{d:D}{x v:PD}{xs:List PD}{q:D->Sto->Prop}
def jx2(r:Rp W A d x)(hs:DL.seqD x=some xs){i:Nat}(e:xs[i]?=some v)(h:∀d,Rp W A d v->q d A):Ev (gSub d (.int i)) A q:=by
 obtain⟨z,ds,f1,f2,_⟩:=r.sq hs;obtain⟨d',e1,r1⟩:=f2.get e;refine⟨d',A,?_,h d' r1⟩
 cases d with
 |obj j=>show(sqD A _).bind _=_;clear e hs;grind[DL.atI_get]
 |_=>cases f1
def jdp{Y:DSt}{j i:Nat}{c:Int}(e0:Y[j]?=some (some d))(r:Rp W A d x)(hs:DL.seqD x=some xs)(hc:c=(i:Int))(e:xs[i]?=some v)(h:∀d,Rp W A d v->q d A):Ev (s2 gSub (sVar j) (sC (.int c)) Y) A q:=by subst hc;exact ev_2 (jab e0 (ev_c (jx2 r hs e h)))
def jp2{gs:Str->D->MS D}{g:Str->PD->Option PD}{Y:DSt}{fo fe:DSt->MS D}(hg:SmM gs g)(h:Ev (fo Y) A λd A1=>∃z,d=.str z/\Ev (fe Y) A1 λy A2=>LtW W A2/\∃x v,Rp W A2 y x/\g z x=some v/\∀d A',A2<+:A'->Rp W A' d v->q d A'):Ev (sSm gs fo fe Y) A q:=
 (h.imp λd A1 hzz=>by
  obtain⟨z,e,h⟩:=hzz;subst e;exact(h.imp λy A2 hzz=>by obtain⟨hW,x,v,r,e,k⟩:=hzz;obtain⟨w,A',e1,l,z⟩:=hg e hW r;cases z with|ok z=>exact⟨_,A',e1,k _ _ l z⟩).b).b
def St1.putD{x:SO}(e:A[n]?=some (.dK ah)):St1 n A (A.set n x):=⟨by simp,λk y n=>zbw (cE n),.set e λy z=>nomatch z⟩
inductive KV(W:Aa)(A:Sto):List (Key×D)->List Pt->Prop
| nil:KV W A [] []
| cons {d:D}{ah q qs} (r:Rp W A d (chD q.c)) (t:KV W A ah qs):KV W A ((.inr (St q.a),d)::ah) (q::qs)
variable {ah:List (Key×D)}{ps qs:List Pt}{p:Pt}{a u:Aa}{aa:LL}
theorem KV.tu(h:KV W A ah qs)(k:KTu A A'):KV W A' ah qs:=by
 induction h with
 |nil=>exact .nil
 |cons r t ih=>exact .cons (r.tu k rfl) ih
def KV.add(h:KV W A ah qs)(r:Rp W A d (chD p.c)):KV W A (ah++[(.inr (St p.a),d)]) (qs++[p]):=by
 induction h with
 |nil=>exact .cons r .nil
 |cons r t ih=>exact .cons r ih
def KV.len(h:KV W A ah qs):ah.length=qs.length:=by induction h<;>simp_all
def KV.val(h:KV W A ah qs)(a:Aa):match qs.find? λp=>decide (p.a=a)with
  |none=>valD ah (.inr (St a):Key)=none
  |some p=>∃d,valD ah (.inr (St a):Key)=some d/\Rp W A d (chD p.c):=by
 induction h with
|nil=>rfl
|@cons d ah q qs r t ih=>
  unfold valD;rw[eR,eR]
  by_cases hq:q.a=a
  .simp_all
  .rw[aN hq,aN (λz=>hq (jku (Sum.inr.inj z)))];exact ih
def KV.no(h:KV W A ah qs)(hq:∀q∈qs,q.a≠a):valD ah (.inr (St a):Key)=none:=by
 have:=h.val a;grind
def jCj{k:Key}(h:valD ah k=none):jr5 ah k d=ah++[(k,d)]:=by
 unfold valD at h;rw[Option.map_eq_none_iff,List.find?_eq_none]at h;unfold jr5;grind
variable {dn du dl:D}{l:PD}{dt dp y z:Option D}
def jCu(hW:LtW W A)(rn:Rp W A dn (.lst (nmD aa)))(ru:Rp W A du (sT u))(rl:Rp W A dl l)(h:PtOk aa u p)(hq:∀q∈qs,q.a≠p.a)(hl:qs.length<=1000)(hΩ:A[n]?=some (.dK ah))(kv:KV W A ah qs):
  Ev (jcw [some dn,some du,dt,some dl,some (.obj n),dp,some (.str (St (ptL p))),y,z]) A λo A'=>∃y z kvs',o=.nx [some dn,some du,dt,some dl,some (.obj n),dp,some (.str (St (ptL p))),y,z]/\St1 n A A'/\A'[n]?=some (.dK kvs')/\KV W A' kvs' (qs++[p]):=by have al:=h.nm.le;have xl:=h.len;refine jag (jax (jp2 jlu (jab rfl ⟨_,rfl,ev_c ⟨hW,_,_,.str,(jjr (jhr h.nm rfl) (by simp;lia)),λd7 A1 l1 r7=>?_⟩⟩)));have ee:=hW.le l1.length_le;refine jag (jcl (ev_l (jaa (jn1 (ev_2 (jdp rfl r7 rfl rfl rfl λd ra=>jab rfl (jBa (jdl (jhu ra) (jhu (rn.grow l1)) (jOw _ _) rfl ⟨_,rfl,?_⟩))))))));rw[aD (aX h.mem)];refine ev_2 (jdp rfl r7 rfl rfl rfl λd ra=>jab rfl ?_);cases ra;refine jIx (jaf l1 hΩ) rfl ?_;rw[kv.no hq];refine jaa (jab rfl (jac (jau jbc ee (.cons .bl (.cons (rl.grow l1) .nil)) (jg6 l) λd A2 l2 w=>?_)));have bq:=ee.le l2.length_le;have r7:=r7.grow l2;have be:=l1.trans l2;refine jag (jax (ev_l (jaa (ev_l (jaa (jab rfl (jac (jcg (by grind[sizeLine]) (jaa (jdp rfl (r7.grow (aA ..)) rfl rfl rfl λd rx=>jaa (jab rfl (jac (jau jhx (LtW.le bq (aA ..).length_le) (.cons (jgo bq (.cons (ru.grow be) .nil)) (.cons rx (.cons (rl.grow (be.trans (aA ..))) .nil))) (jln (by simp) h.tx (by lia) l) λd A3 l3 r8=>?_)))))))))))));have c4:=be.trans ((aA ..).trans l3);refine jDg (ev_l (jaa (ev_2 (jdp rfl r8 rfl rfl rfl λd r=>ev_c (jx2 r rfl rfl λdi ri=>jaa (jdp rfl r8 rfl rfl rfl λdj rj=>jac (jcg (by grind[sizeLine]) (jab rfl (jdp rfl ((r7.grow ((aA ..).trans l3)).grow (aA ..)) rfl rfl rfl λd ra=>?_)))))))));cases ra;have l4:=c4.trans (aA A3 [.tup [di,dj]]);refine⟨n,ah,_,rfl,jaf l4 hΩ,rfl,by rw[kv.len,bG];lia,_,_,_,rfl,(St1.pre l4).trans (St1.putD (jaf l4 hΩ)),zcz (zcx (zbb.mp hΩ).1 l4.length_le),?_⟩;rw[jCj (kv.no hq)];exact((kv.tu (.pre l4)).add (jb5 (hW.le c4.length_le) (.cons ri (.cons rj .nil)))).tu (St1.putD (jaf l4 hΩ)).tu
def jlw{ds:List D}{as:LL}(h:Rps W A ds (nmD as)):ds=as.map λa=>.str (St a):=by
 induction as generalizing ds with
 |nil=>cases h;rfl
 |cons a as ih=>cases h with
  |cons r t=>cases r;rw[ih t];rfl
theorem js7(hW:LtW W A0)(rn:Rp W A0 dn (.lst (nmD aa)))(ru:Rp W A0 du (sT u))(rl:Rp W A0 dl l)(hk:k≠A0.length):∀(ps qs:List Pt)(t:Nat)(x y z:Option D)(A:Sto)(ah:List (Key×D)),ds.drop t=ps.map (λp=>.str (St (ptL p)))->(∀p∈ps,PtOk aa u p)->((qs++ps).map (·.a)).Nodup->qs.length+ps.length<=1000->Kept A0.length A0 A->A[k]?.bind lsO=some ds->A[A0.length]?=some (.dK ah)->KV W A ah qs ->
  Ev (forS (wkS true k) (jhz 6) jcw (ps.length+1) t [some dn,some du,dt,some dl,some (.obj A0.length),dp,x,y,z]) A λo A'=>∃x y z kvs',o=.nx [some dn,some du,dt,some dl,some (.obj A0.length),dp,x,y,z]/\Kept A0.length A0 A'/\A'[A0.length]?=some (.dK kvs')/\KV W A' kvs' (qs++ps)
|[],qs,t,x,y,z,A,ah,hd,_,_,_,kp,hk,hn,kv=>by
  refine jk7 ?_ ⟨x,y,z,ah,rfl,kp,hn,by simp_all⟩;unfold wkS side;simp_all
|p::ps,qs,t,x,y,z,A,ah,hd,h,hu,hl,kp,cp,hn,kv=>by
  rw[aI]at hl;have hx:ds[t]?=some (.str (St (ptL p))):=by rw[<- dQ,hd];rfl
  refine jk8 (by unfold wkS side;rw[aD rfl,cp,bJ,hx]) rfl ?_;refine(jCu (hW.le kp.le) (kp.rp rn) (kp.rp ru) (kp.rp rl) (h p zaa) (λq hq e=>by clear hl h rn;grind) (by clear h;lia) hn kv).imp λo A1 z=>?_
  obtain⟨y1,z1,kvs1,rfl,s1,h1,kv1⟩:=z;have:=js7 hW rn ru rl hk ps _ (t+1) (some (.str (St (ptL p)))) y1 z1 A1 _ (by rw[<- cJ,hd];rfl) (λq hq=>h q (zaw _ hq)) (by simp_all) (by simp;lia) (kp.trans (s1.kept (zac _) kp.le)) (by
   have ay:k<A.length:=by
    rcases Nat.lt_or_ge k _ with z|z
    .exact z
    .simp_all
   rw[s1.at' k ay hk];exact cp) h1 kv1
  simp_all
theorem jpt(hW:LtW W A0)(hn:A0[n]?=some (.dK ah))(hk:A0[k]?.bind lsO=some ds)(hi:i=A0.length):∀(as done:LL)(t:Nat)(x:Option D)(A:Sto)(ys:List D),ds.drop t=as.map (λa=>.str (St a))->done.length+as.length<=1000->Kept A0.length A0 A->KTu A0 A->KV W A0 ah ps->A[i]?=some (.lst ys)->Rps W A ys (done.map λa=>chD (jhp ps a)) ->
  Ev (jd6 (wkS true k) (jhz 0) sYes jel i (as.length+1) t [x,some (.obj n)]) A λd A'=>Kept A0.length A0 A'/\Rp W A' d (.lst ((done++as).map λa=>chD (jhp ps a)))
|[],done,t,x,A,ys,hd,_,kp,kt,kv,h1,h2=>by refine jDd (by unfold wkS side;rw[aD rfl,((kp.kp).bd aK hk),bJ,bK (eL.mp hd)]) ⟨kp,?_⟩;rw[aO];exact .lst (λz=>by grind) (by rw[h1];rfl) h2 (.inr ⟨_,h1⟩)
|a::as,done,t,x,A,ys,hd,hl,kp,kt,kv,h1,h2=>by
  rw[aI]at hl;have hx:ds[t]?=some (.str (St a)):=by rw[<- dQ,hd];rfl
  have c9:=(kp.at' n ((zbb.mp hn).1)).trans hn;have l1:=aA A [SO.tup [.int 0,.int 0]];refine jDe (by unfold wkS side;rw[aD rfl,((kp.kp).bd aK hk),bJ,hx]) rfl ?_;refine jx1 (jab rfl ⟨n,ah,rfl,c9,jab rfl (ev_l (jaa (ev_c (jaa (ev_c (jac (jcg (by decide) ⟨_,ah,jaf l1 c9,rfl,ys,jaf l1 h1,?_,?_⟩)))))))⟩)
  .rw[<- h2.length,zav,bG];clear l1;grind
  have r0:Rp W (A++[SO.tup [.int 0,.int 0]]) ((valD ah (.inr (St a))).getD (.obj A.length)) (chD (jhp ps a)):=by
   have:=(kv.tu kt).val a;unfold jhp
   cases e:ps.find? _ with
   |none=>rw[e]at this;rw[this];exact jb5 (hW.le kp.le) (.cons .int (.cons .int .nil))
   |some p=>rw[e]at this;obtain⟨d,e1,r1⟩:=this;rw[e1];exact r1.grow l1
  have ks:KTu _ ((A++[SO.tup _]).set i (.lst (ys++[(valD ah (.inr (St a))).getD (.obj A.length)]))):=.set (jaf l1 h1) λy z=>nomatch z
  have tu:∀ls:List _,tuVs (ls.map λa=>chD (jhp ps a))=true:=λls=>by
   induction ls with
   |nil=>rfl
   |cons a t ih=>rw[aE];unfold tuVs;rw[aC];exact⟨rfl,ih⟩
  have:=jpt hW hn hk hi as (done++[a]) (t+1) (some (.str (St a))) _ _ (by rw[<- cJ,hd];rfl) (by simp;lia) (kp.trans ⟨λj hj=>by clear l1;grind,by simp⟩) ((kt.trans (.pre l1)).trans ks) kv (zcz ((zbb.mp (jaf l1 h1)).1)) (by rw[bA];exact je3 ((h2.grow l1).tu ks (tu _)) (.cons (r0.tu ks rfl) .nil))
  clear hi;simp_all
theorem ju3:∀{as:LL},okVs (nmD as)=true
|[]=>rfl
|a::as=>by show(true&&okVs (nmD as))=true;rw[ju3];rfl
set_option tactic.hygienic true in
def jLl(hn:aa.length<=1000)(h:∀p∈ps,PtOk aa u p)(hd:(ps.map (·.a)).Nodup)(hl:ps.length<=6)(l:PD)(ho:okV l=true):jft [.lst (nmD aa),sT u,sT (chT ps),l]=oK (.tup (aa.map λa=>chD (jhp ps a))):=by
 refine jLb (by show(okVs _&&(true&&(true&&(okV l&&true))))=true;rw[ju3,ho];rfl) λ{W A ds} hW rs=>?_
 cases rs with|cons rn rs =>
 cases rs with|cons ru rs =>
 cases rs with|cons rt rs =>
 cases rs with|cons rl rs =>
 cases rs;rename_i dn du dt dl;have rn':=rn;cases rt;cases rn with|lst hk ek rk fk =>
 rename_i k ds;refine jIw ?_;rw[ji1];refine jdf rfl (jag (jax (jDf ?_)));have l0:=aA A [SO.dK []];have g5:Ev (sIf (sT2 (lO DL.gEq) (sVar 2) (sC (.str "-"))) (sL (gNew .lst) sNil) (sSm gSplitS (sVar 2) (sC (.str ", "))) [some (.obj k),some du,some (.str (St (chT ps))),some dl,some (.obj A.length),none,none,none,none]) (A++[.dK []]) λd A'=>A++[.dK []]<+:A'/\∃j,d=.obj j/\A'[j]?.bind lsO=some (ps.map λp=>.str (St (ptL p))):=by
  refine jBb (jdu (jab rfl (ev_c (jdl jbe jbe (jx0 _ [45]) rfl ⟨_,rfl,?_⟩))))
  cases ps with
  |nil=>exact ev_l (jac (jcg (by decide) ⟨aA ..,_,rfl,by rw[aL (zac _),cF];rfl⟩))
  |cons p ps=>
   have h0:chT (p::ps)=jai _ _:=aJ (by simp);rw[h0,aN (jzd (h p zaa)),aJ nofun];have sp:=jin (u:=[32]) rfl (λq hq=>by
    obtain⟨r,hr,rfl⟩:=zcv.mp hq;exact jPw (h r hr)) (by simp) (by
    have:=jij (ps:=(p::ps).map ptL) (k:=6100) λq hq=>by
     obtain⟨r,hr,rfl⟩:=zcv.mp hq;have a1:=(h r hr).nm.le;have a2:=(h r hr).len
     clear hk rk;grind[ptL]
    clear h;grind) (by clear l0;grind)
   refine jp2 jjx (jab rfl ⟨_,rfl,ev_c ⟨(LtW.le hW l0.length_le),_,_,.str,sp,λd A1 l1 r=>⟨l1,?_⟩⟩⟩);cases r with|lst hj ej rj fj=>exact⟨_,rfl,by rw[ej,jlw rj,aP];rfl⟩
 refine jag (jax (g5.imp λd5 A1 hzz=>?_));obtain⟨l1,j,e5,hj⟩:=hzz;subst e5;have de:A1[A.length]?=some (.dK []):=jaf l1 (by simp);have b0:Kept _ A A1:=⟨λi hi=>by
  have:=jaf (l0.trans l1) (zax hi)
  simp_all,(l0.trans l1).length_le⟩
 refine jag (jk9 (Ev.b (jab rfl ⟨wkS true j,A1,?_,ps.length+1,?_⟩)))
 .have e:sdO A1 (.obj j)=some _:=aD (by unfold side;simp_all);dsimp only;rw[e];rfl
 refine(js7 hW rn' ru rl (λz=>by subst z;rw[de]at hj;cases hj) ps [] 0 _ _ _ A1 [] rfl h (by simp_all) (by simp;omega) b0 hj de .nil).imp λo A2 z=>?_
 obtain⟨x,y,z,ah,rfl,kp2,h2,kv⟩:=z;have hb:=(kp2.kp).bd aK ek;refine jfr (ev_l (jaa (jIv (Ev.b (jab rfl ⟨wkS true k,A2,?_,aa.length+1,?_⟩)))))
 .have e:sdO A2 (.obj k)=some _:=aD (by unfold side;simp_all);dsimp only;rw[e];rfl
 have bq:=LtW.le hW kp2.le;have l3:=aA A2 [SO.lst []];refine(jpt bq h2 hb rfl _ [] 0 _ _ [] (jlw rk) (by simp;omega) ⟨λi hi=>aS hi,l3.length_le⟩ (.pre l3) kv (by simp) .nil).imp λd A3 z=>?_
 obtain⟨kp3,r3⟩:=z;refine jac (jIu jiu (LtW.le bq kp3.le) (.cons r3 .nil) rfl λd A4 l4 r4=>⟨(kp2.trans ⟨λi hi=>kp3.at' i (zcx hi kp2.le),kp3.le⟩).pref.trans l4,r4⟩)
end
end MyLaw
namespace MyLaw
open L2 DL PySem.NumText
def ddT(a u:Aa)(lo hi:Int):Aa:=jai [32] [a,u,numT lo,numT hi]
def jxr:ddT a u lo hi=a++([32]++(u++([32]++(numT lo++([32]++numT hi))))):=rfl
def jzg(hn:aa.length<=1000)(ha:Nm a)(hu:Nm u)(h1:lo.natAbs<10^31)(h2:hi.natAbs<10^31)(h:∀p∈ps,PtOk aa u p)(hd:(ps.map (·.a)).Nodup)(hl:ps.length<=6)(l:D)(hz:SI.okV l=true):jgl [.lst (nmD aa),sT (ddT a u lo hi++([58,32]++chT ps)),l]=oK (dedD ⟨a,lo,hi,aa.map (jhp ps)⟩):=by
 have la:=ha.le;have lu:=hu.le;have n1:=jgp h1;have n2:=jgp h2;have hc:(chT ps).length<=40000:=by
  unfold chT
  split
  .decide
  .have:=jij (ps:=ps.map ptL) (k:=6100) λq hq=>by
    obtain⟨r,hr,rfl⟩:=zcv.mp hq;have a1:=(h r hr).nm.le;have a2:=(h r hr).len
    grind[ptL]
   grind
 have dl:(ddT a u lo hi).length<=100:=by
  show(a++([32]++(u++([32]++(numT lo++([32]++numT hi)))))).length<=100;simp;lia
 have ce:58∉ddT a u lo hi:=λz=>by
  have z':58∈a++([32]++(u++([32]++(numT lo++([32]++numT hi))))):=z;simp only[zdy,zdx]at z';rcases z' with z|z|z|z|z|z|z
  .exact jhr ha rfl z
  .cases z
  .exact jhr hu rfl z
  .cases z
  .exact jh5 (by decide) rfl z
  .cases z
  .exact jh5 (by decide) rfl z
 have p1:=jjr (u:=[32]) (r:=chT ps) ce (by simp;lia);have sp:=jin rfl (λp hp=>by
  simp only[aM,aK,or_false]at hp;rcases hp with rfl|rfl|rfl|rfl
  .exact jhr ha rfl
  .exact jhr hu rfl
  .exact jh5 nofun rfl
  .exact jh5 nofun rfl) (by simp) (zdz dl (by decide)) (by simp)
 refine retM ?_;show jdw [oN _,oS _,some l,none,none,none]=_;generalize St _=tx at p1;unfold jdw;rw[jah (jco 3 (jnk rfl rfl (p1))),jah (jco 4 (jnk rfl rfl (sp)))];have c1:∀Y,Y=[oN aa,oS tx,some l,some (.tup [sT (ddT a u lo hi),sT [58,32],sT (chT ps)]),oN [a,u,numT lo,numT hi],none] ->
   fCall jam (fCons (fAnd _ _) (fCons (vR 2) fNil)) Y=oK _:=λY hδ=>by subst hδ;have:=jgw (fa:=f2 gEq (fL kLen (fCons (vR 4) fNil)) (cI 4)) (fb:=fAnd (fCall jbx (fCons (f2 gIx (vR 4) (cI 0)) fNil)) (fCall jbx (fCons (f2 gIx (vR 4) (cI 1)) fNil))) (Y:=[oN aa,oS tx,some l,some (.tup [sT (ddT a u lo hi),sT [58,32],sT (chT ps)]),oN [a,u,numT lo,numT hi],none]) rfl (jgw (jjn ha) (jjn hu));rw[jix,jcf,this,M.b_ok];rfl
 refine(jah (jri (c1 _ rfl))).trans ?_;have c2:∀Y,Y=[oN aa,oS tx,some l,some (.tup [sT (ddT a u lo hi),sT [58,32],sT (chT ps)]),oN [a,u,numT lo,numT hi],none] ->
   fCall jam (fCons (fAnd _ _) (fCons (vR 2) fNil)) Y=oK _:=λY hδ=>by subst hδ;have:=jgw (fa:=fCall jb3 (fCons (f2 gIx (vR 4) (cI 2)) fNil)) (fb:=fCall jb3 (fCons (f2 gIx (vR 4) (cI 3)) fNil)) (Y:=[oN aa,oS tx,some l,some (.tup [sT (ddT a u lo hi),sT [58,32],sT (chT ps)]),oN [a,u,numT lo,numT hi],none]) (jlh h1) (jlh h2);rw[jix,jcf,this,M.b_ok];rfl
 refine(jah (jri (c2 _ rfl))).trans ?_;rw[jah (jju rfl (jLl hn h hd hl l hz))];refine jbq ?_;have m1:∀Y,Y[4]?=some (oN _)->fCall ja1 (fCons (f2 gIx _ _) fNil) Y=oK _/\fCall ja1 (fCons (f2 gIx _ _) fNil) Y=oK _/\f2 gIx _ _ Y=oK _:=λY hδ=>by
  have v:vR 4 Y=oK (.lst (nmD [a,u,numT lo,numT hi])):=by unfold vR;rw[hδ];rfl
  have w:∀(i:Int)(z:D),gIx _ _=some z->f2 gIx (vR 4) (cI i) Y=oK z:=λi z hz=>by unfold f2;rw[v,M.b_ok];show M.o _=_;rw[hz];rfl
  refine⟨?_,?_,w 0 _ rfl⟩
  .rw[jix,jcf,w 2 _ rfl,M.b_ok];exact joq h1
  .rw[jix,jcf,w 3 _ rfl,M.b_ok];exact joq h2
 obtain⟨m2,m3,m4⟩:=m1 _ (show(List.set [oN _,oS tx,some l,some _,oN _,none] 5 _)[4]?=_ from rfl);dsimp only [fA2,fA3,fA4];rw[e_L,jcf,m4,M.b_ok,jcf,m2,M.b_ok,jcf,m3,M.b_ok]
 unfold dedD;rw[aP];rfl
end MyLaw
namespace MyLaw
section
open L2 DL PySem.NumText
inductive NL:List D->LL->Prop
| nil:NL [] []
| cons {d:D}{a:Aa}{ds:List D}{as:LL} (h:gIx d (.int 0)=some (sT a)) (t:NL ds as):NL (d::ds) (a::as)
def NL.len{ds:List D}{as:LL}(h:NL ds as):ds.length=as.length:=by
 induction h with
 |nil=>rfl
 |cons _ t ih=>exact congrArg _ ih
def NL.app{ds:List D}{as:LL}{d:D}{a:Aa}(k:NL ds as)(h:gIx d (.int 0)=some (sT a)):NL (ds++[d]) (as++[a]):=by
 induction k with
 |nil=>exact .cons h .nil
 |cons h0 t ih=>exact .cons h0 ih
theorem juu:∀{ds:List D}{as:LL} (x:Option D),NL ds as->compD (DL.gName 0) tYes jds ds [x]=some (nmD as)
|_,_,_,.nil=>rfl
|d::ds,a::as,x,.cons h t=>by
  have e:jds [some d]=oK (sT a):=by show M.o _=_;rw[h];rfl
  unfold compD;rw[show DL.gName 0 d [x]=some [some d]from rfl];dsimp only [M.p];rw[e,(juu _ t)];rfl
def jqi(h:NL ds as)(hl:as.length<=1000):jcu [.lst ds]=oK (.lst (nmD as)):=by unfold jcu;rw[jer];unfold je8;rw[jbq (by dsimp;simp only[stp,(juu _ h),ja3 (show(nmD as).length<=1000 by grind[nmD,List.length_map])];rfl)];rfl
def jLo(h:jdz [.str t,l]=oK d):jb4 [.lst (nmD aa),.int 0,.str t,l]=oK d:=retM (w_rt (jbq h))
def jLp(h:jgm [.lst (nmD aa),.str t,l]=oK d):jb4 [.lst (nmD aa),.int 1,.str t,l]=oK d:=retM ((jah (Y':=[oN _,oI 1,oS t,some l]) rfl).trans (w_rt (jbq h)))
def jLq(h:jgl [.lst (nmD aa),.str t,l]=oK d):jb4 [.lst (nmD aa),.int 2,.str t,l]=oK d:=retM ((jah rfl).trans ((jah (Y':=[oN _,oI 2,oS t,some l]) rfl).trans (jbq h)))
noncomputable def kwL:Nat->Aa
|0=>[105,116,101,109]
|1=>[114,117,108,101]
|_=>[100,101,101,100]
def jyr(a:Aa)(aa:LL):gNotIn (sT a) (.lst (nmD aa))=some (.bl !(decide (a∈aa))):=by show(if(true&&(nmD _).all _)=true then some _ else none)=_;rw[aD (by rw[fN,aQ];intro x hx;obtain⟨y,_,rfl⟩:=zcv.mp hx;rfl),jn9]
def jyc(hp:p<=2):gIn (sT (kwL p)) (.tup [.str "item",.str "rule",.str "deed"])=some (.bl true):=by
 rcases p with _|_|_|p
 .rfl
 .rfl
 .rfl
 .lia
def jtz(hp:p<=2):idxS (St (kwL p)) ["item","rule","deed"] 0=some p:=by
 rcases p with _|_|_|p
 .rfl
 .rfl
 .rfl
 .simp_all
def jFs(hp:p<=2)(h1:p<=1->C=[])(h0:p=0->B=[]):fL kAll (fCons (fComp 1 [] (iSeqD (fSl (vR 0) (oSome (f2 gCat (vR 4) (cI 1))) oNone)) (DL.gName 0) tYes (f2 gEq (vR 0) (fL gLstD fNil))) fNil) [some (.tup [.lst A,.lst B,.lst C]),none,none,none,oI (p:Nat),none]=oK (.bl true):=by
 rcases p with _|_|_|p
 .rw[h1 (by lia),h0 rfl];rfl
 .rw[h1 (by lia)];rfl
 .rfl
 .rfl
end
section
open L2 SI
section
noncomputable def upL(p:Nat)(L:Nat->List PD)(ds:List PD):Nat->List PD:=λq=>if q=p then L q++ds else L q
structure BL(n:Nat)(A:Sto)(L:Nat->List PD):Prop where
 t:A[n+3]?=some (.tup [.obj n,.obj (n+1),.obj (n+2)])
 l:∀q,q<=2->∃ds,A[n+q]?=some (.lst ds)/\Rps [] A ds (L q)/\tuVs (L q)=true
def ni:¬i∈([]:Aa):=aK
def lt0W:LtW [] A:=λy z=>absurd z ni
variable {n p:Nat}{A A':Sto}{L:Nat->List PD}{na ns:LL}{tx a:Aa}{d:PD}{l:Int}
def BL.rp(h:BL n A L):Rp [] A (.obj (n+3)) (.tup [.lst (L 0),.lst (L 1),.lst (L 2)]):=by
 have f:∀q,q<=2->Rp [] A _ _:=λq hq=>by obtain⟨ds,e,r,_⟩:=h.l q hq;exact .lst ni (by rw[e];rfl) r (.inr ⟨_,e⟩)
 exact .tup ni (by rw[h.t];rfl) (.cons (f 0 (by simp_all)) (.cons (f 1 (by simp_all)) (.cons (f 2 (by simp_all)) .nil)))
def BL.grow(h:BL n A L)(l:A<+:A'):BL n A' L:=⟨jaf l h.t,λq hq=>let ⟨ds,e,r,t⟩:=h.l q hq;⟨ds,jaf l e,r.grow l,t⟩⟩
def BL.ix(h:BL n A L)(hp:p<=2):gSub (.obj (n+3)) (.int (p:Nat)) A=some (.ok (.obj (n+p)),A):=by
 show(sqD A _).bind _=_;have:sqD A (.obj (n+3))=some (false,[.obj n,.obj (n+1),.obj (n+2)]):=by show A[n+3]?.bind sqO=_;rw[h.t];rfl
 rw[this];rcases p with _|_|_|p<;>simp_all
theorem jre:∀{xs ys:List PD},tuVs xs=true->tuVs ys=true->tuVs (xs++ys)=true
|[],_,_,h=>h
|x::xs,ys,h,g=>by simp_all [tuVs,jre]
def BL.add(h:BL n A L)(hp:p<=2)(e:A[n+p]?=some (.lst ds))(ry:Rp [] A y d)(td:tuV d=true):BL n (A.set (n+p) (.lst (ds++[y]))) (upL p L [d]):=by
 have k:KTu A (A.set _ (.lst (ds++[y]))):=.set e λw z=>nomatch z
 refine⟨k _ _ h.t,λq hq=>?_⟩;obtain⟨es,e1,r1,t1⟩:=h.l q hq;unfold upL
 by_cases z:q=p
 .subst z;rw[e]at e1;cases e1
  rw[aD rfl];exact⟨_,zcz (zbb.mp e).1,je3 (r1.tu k t1) (.cons (ry.tu k td) .nil),jre t1 (by grind[tuVs])⟩
 .rw[aJ z];exact⟨es,by grind,r1.tu k t1,t1⟩
def jFt:SmE 6 [] (sL (lC DL.kAll) (jar (sCmp 1 [] (iSq (sSl (sVar 0) (sPa (s2 gCatS (sVar 4) (sC (.int 1)))) sNo)) (jhz 0) sYes jh3) sNil)) (DL.fL DL.kAll (DL.fCons (DL.fComp 1 [] (DL.iSeqD (DL.fSl (DL.vR 0) (DL.oSome (DL.f2 DL.gCat (DL.vR 4) (DL.fC (.int 1)))) DL.oNone)) (DL.gName 0) DL.tYes (DL.f2 DL.gEq (DL.vR 0) (DL.fL DL.gLstD DL.fNil))) DL.fNil)):=
 sm_l (jrm (g:=DL.kAll) λz z e=>jAx e) (jb6 (SmF.e (jg8 (jjw (jMi (jdi rfl) (jq5 (sm_2 jou (jdi rfl) (sm_c λz z=>.int))) jBx)) rfl (jim rfl) (λ{F Y p A r} s e=>by cases e;exact tQ.it rfl) (sm_2 (jd9 (g:=DL.gEq) λz z z e=>jIr e) (jdi rfl) (SmF.e (jlt jfu))))) jfu)
def jHf(hp:p<=2)(hB:BL n A L)(h1:p<=1->L 2=[])(h0:p=0->L 1=[])(hA:NL (L 0) na)(lA:na.length<=1000)(hS:NL (L p) ns)(lS:ns.length<=1000)
  (ht:tx.length<=45000) (rp:jb4 [.lst (nmD na),.int (p:Nat),sT tx,.int l]=oK d) (td:tuV d=true) (hd:DL.gIx d (.int 0)=some (sT a)) (hm:a∉ns):
  Ev (jfz [.obj (n+3),.str (St (kwL p++([32]++tx))),.int l]) A λy A'=>y=.non/\BL n A' (upL p L [d])/\St1 (n+p) A A':=by
 have hk:32∉kwL p/\(kwL p).length=4:=by
  rcases p with _|_|_|p
  .decide
  .decide
  .decide
  .lia
 rw[jmj];refine jdf rfl (jag (jax (jp2 jlu (jab rfl ⟨_,rfl,ev_c ⟨lt0W,_,_,.str,(jjr hk.1 (by grind)),λdH A1 l1 rH=>?_⟩⟩))));refine jag (jcl (ev_l (jaa (ev_1 (jdp rfl rH rfl rfl rfl λdk rk=>jDh (jhu rk) (jyc hp) rfl (jaa (jab rfl (jac (jau jbc lt0W (.cons .bl (.cons .int .nil)) (jg6 _) λw A2 l2 w=>?_)))))))));have rH:=rH.grow l2;refine jag (jax (ev_1 (jdp rfl rH rfl rfl rfl λdk rk=>?_)));cases rk;refine⟨_,A2,by show(DL.idxS _ _ 0).map _=_;rw[jtz hp];rfl,?_⟩;have ao:=hB.grow (l1.trans l2);refine jag (jcl (ev_l (jaa (jx3 jFt (.yes ao.rp (.no (.no (.no (.yes .int (.no .nil)))))) lt0W (jFs hp h1 h0) λdb A3 l3 rb=>jaa (jab rfl (jac (jau jbc lt0W (.cons rb (.cons .int .nil)) (jg6 _) λw A4 l4 w=>?_)))))));have eu:=ao.grow (l3.trans l4);refine jag (jax (ev_l (jaa (ev_l (jaa (jdp rfl eu.rp rfl rfl rfl λd0 r0=>jac (jau jh8 lt0W (.cons r0 .nil) (jqi hA lA) λdn A5 l5 rn=>jaa (jab rfl (jaa (jdp rfl ((rH.grow (l3.trans l4)).grow l5) rfl rfl rfl λdt rt=>jaa (jab rfl (jac (jau jlr lt0W (.cons rn (.cons .int (.cons rt (.cons .int .nil)))) rp λd5 A6 l6 r5=>?_)))))))))))));have eh:=eu.grow (l5.trans l6);refine jag (jcl (ev_l (jaa (ev_2 (ev_2 (jab rfl (ev_c (jI2 jh6 lt0W r5 .int hd λy A7 l7 r7=>ev_l (jaa (ev_2 (jab rfl (jab rfl (jx2 (eh.grow l7).rp rfl (by grind) λdp rp=>jac (jau jh8 lt0W (.cons rp .nil) (jqi hS lS) λdn A8 l8 rn=>jBa (jdl (jhu (r7.grow l8)) (jhu rn) (jyr a ns) rfl (jaa (jab rfl (jac (jau jbc lt0W (.cons (by rw[aN hm];exact .bl) (.cons .int .nil)) (jg6 _) λw A9 l9 w=>?_)))))))))))))))))));have ba:=l7.trans (l8.trans l9);have cu:=eh.grow ba;obtain⟨ds,e9,r9,t9⟩:=cu.l p hp;refine jcl (jIz (ev_2 (jab rfl (jab rfl ⟨_,A9,cu.ix hp,_,ds,rfl,e9,jaa (jab rfl (jac ⟨ds,_,_,e9,aD ?_,rfl,cu.add hp e9 (r5.grow ba) td,(St1.pre (l1.trans (l2.trans (l3.trans (l4.trans (l5.trans (l6.trans ba))))))).trans ⟨by simp,λk w h=>zbw (cE h),.set e9 λw z=>nomatch z⟩⟩))⟩))));rw[<- r9.length,hS.len,bG];lia
end
section
structure Ln where
 tx:Aa
 d:PD
 a:Aa
structure LnOk(p:Nat)(aa:LL)(q:Ln):Prop where
 rd:∀(na:LL)(l:Int),(p≠0->na=aa)->na.length<=1000->jb4 [.lst (nmD na),.int (p:Nat),sT q.tx,.int l]=oK q.d
 nm:DL.gIx q.d (.int 0)=some (sT q.a)
 tu:tuV q.d=true
 len:q.tx.length<=45000
 no:10∉q.tx
def lnL(p:Nat)(q:Ln):Aa:=kwL p++([32]++q.tx)
variable {p n k:Nat}{aa:LL}{q:Ln}{dt:D}{ds:List D}{Q:Out->Sto->Prop}
def jPa:Str.ofString "\n"=St [10]:=by rfl
def jEc(hp:p<=2)(h:LnOk p aa q):10∉lnL p q:=λz=>by
 rcases zdy.mp z with z|z
 .rcases p with _|_|_|p
  .revert z;decide
  .revert z;decide
  .revert z;decide
  .simp_all
 .rcases zdy.mp z with z|z
  .trivial
  .exact h.no z
theorem jqy(hp:p<=2)(hk:∀q,q<=2->n+q≠k):∀(ls:List Ln)(m t:Nat)(L:Nat->List PD)(na ns:LL)(x y:Option D)(A:Sto)(es:List D),(∀q∈ls,LnOk p aa q)->BL n A L->(p<=1->L 2=[])->(p=0->L 1=[])->NL (L 0) na->(p≠0->na=aa)->NL (L p) ns->(ns++ls.map (·.a)).Nodup->na.length+ls.length<=1000->ns.length+ls.length<=1000->A[k]?.bind lsO=some ds->ds.drop t=(ls.map λq=>.str (St (lnL p q)))++es ->
  (∀x y A',BL n A' (upL p L (ls.map (·.d)))->NL (upL p L (ls.map (·.d)) p) (ns++ls.map (·.a))->Kept n A A'->A'[k]?.bind lsO=some ds->ds.drop (t+ls.length)=es->Ev (forS (wkE true k) (tTup [2,3]) jcc m (t+ls.length) [some dt,some (.obj (n+3)),x,y]) A' Q) ->
  Ev (forS (wkE true k) (tTup [2,3]) jcc (ls.length+m) t [some dt,some (.obj (n+3)),x,y]) A Q
|[],m,t,L,na,ns,x,y,A,es,_,hB,_,_,_,_,hS,_,_,_,hΩ,hd,c=>by
  have u:upL p L []=L:=by funext q;unfold upL;rw[aO];split<;>rfl
  have:=c x y A (by simp_all) (by simp_all) ⟨λw w=>rfl,zac _⟩ hΩ hd;simp_all
|q::ls,m,t,L,na,ns,x,y,A,es,h,hB,h1,h0,hA,hN,hS,hd,l1,l2,hΩ,hdr,c=>by
  have hq:=h q zaa;have hx:ds[t]?=some (.str (St (lnL p q))):=by rw[<- dQ,hdr];rfl
  have g1:=aA A [SO.tup [.int (t),.str (St (lnL p q))]];have e0:(q::ls).length+m=(ls.length+m)+1:=by rw[aI];lia
  rw[e0];refine jk8 (Y1:=[some dt,some (.obj (n+3)),some (.int (t)),some (.str (St (lnL p q)))]) (by unfold wkE side;rw[aD rfl,hΩ,bJ,hx]) ?_ ?_
  .unfold SI.tTup;dsimp only;rw[aL (zac _),cF];rfl
  refine jcl (ev_l (jaa (jab rfl (jaa (jab rfl (jaa (jab rfl (jac ((jHf hp (hB.grow g1) h1 h0 hA (by clear e0 l2;lia) hS (by lia) hq.len (hq.rd na _ hN (by lia)) hq.tu hq.nm (λz=>(List.nodup_append.mp hd).2.2 q.a z q.a zaa rfl)).imp λd A2 z=>?_)))))))));obtain⟨_,ao,s2⟩:=z;have s3:=(St1.pre g1).trans s2;have hΩ2:A2[k]?.bind lsO=some ds:=by
   have ay:k<A.length:=by
    rcases Nat.lt_or_ge k _ with z|z
    .exact z
    .simp_all
   rw[s3.at' k ay (hk p hp).symm];exact hΩ
  have uu:upL p (upL p L [q.d]) (ls.map (·.d))=upL p L ((q::ls).map (·.d)):=by
   funext r
   unfold upL
   by_cases e:r=p
   .grind
   .clear e0 hB;grind
  have c7:upL p L _ p=L p++[q.d]:=aD rfl;refine jqy hp hk ls m _ _ (if p=0 then na++[q.a]else na) _ _ _ A2 es (λr hr=>h r (zaw _ hr)) ao
   (λz=>by unfold upL;clear hdr c7;grind) (λz=>by unfold upL;clear s2 hd hx;grind)
   (by
    unfold upL
    by_cases e:p=0
    .subst e;exact hA.app hq.nm
    clear s2 hq;grind)
   (λz=>by simp_all) (by rw[c7];exact hS.app hq.nm) (by simp_all) (by grind) (by simp;clear c s2 hk;lia) hΩ2 (by rw[<- cJ,hdr];rfl) λx y A3 b3 n3 k3 o3 d3=>?_
  rw[uu]at b3 n3;rw[aU]at n3;have e1:t+1+ls.length=t+(q::ls).length:=by clear c g1 hk;lia
  rw[e1]at d3 |-
  exact c x y A3 b3 n3 ((s3.kept (by simp_all) (by have:=(zbb.mp hB.t).1;clear hdr l2;lia)).trans k3) o3 d3
def jav(li lr ld:List Ln):LL:=li.map (lnL 0)++(lr.map (lnL 1)++ld.map (lnL 2))
structure LsOk(li lr ld:List Ln):Prop where
 i:∀q∈li,LnOk 0 (li.map (·.a)) q
 r:∀q∈lr,LnOk 1 (li.map (·.a)) q
 d:∀q∈ld,LnOk 2 (li.map (·.a)) q
 ni:(li.map (·.a)).Nodup
 nr:(lr.map (·.a)).Nodup
 nd:(ld.map (·.a)).Nodup
 zi:li.length<=100
 zr:lr.length<=100
 zd:ld.length<=100
noncomputable def bk3(li lr ld:List Ln):Nat->List PD
|0=>li.map (·.d)
|1=>lr.map (·.d)
|2=>ld.map (·.d)
|_=>[]
def juj(h:LsOk li lr ld)(hk:∀q,q<=2->n+q≠k)(hB:BL n A λw=>[])(hΩ:A[k]?.bind lsO=some ((jav li lr ld).map λx=>.str (St x))):Ev (forS (wkE true k) (tTup [2,3]) jcc (li.length+(lr.length+(ld.length+1))) 0 [some dt,some (.obj (n+3)),none,none]) A λo A'=>∃x y,o=.nx [some dt,some (.obj (n+3)),x,y]/\BL n A' (bk3 li lr ld)/\Kept n A A':=by
 have g1:=h.zi;have g2:=h.zr;have g3:=h.zd;have el:((jav li lr ld).map λx=>D.str (St x))=(li.map λq=>.str (St (lnL 0 q)))++((lr.map λq=>.str (St (lnL 1 q)))++((ld.map λq=>.str (St (lnL 2 q)))++[])):=by unfold jav;simp[Function.comp_def]
 rw[el]at hΩ;refine jqy (by simp_all) hk li _ 0 _ [] [] _ _ A _ h.i hB (λw=>rfl) (λw=>rfl) .nil (λz=>absurd rfl z) .nil h.ni (by simp;lia) (by simp;lia) hΩ rfl λx1 y1 A1 b1 s1 k1 o1 d1=>?_
 refine jqy (by clear h;lia) hk lr _ _ _ _ [] x1 y1 A1 _ h.r b1 (λw=>rfl) (λz=>by simp_all) s1 (λw=>rfl) .nil h.nr (by simp;clear hΩ b1;lia) (by simp;lia) o1 d1 λx2 y2 A2 b2 s2 k2 o2 d2=>?_
 refine jqy (by simp_all) hk ld _ _ _ _ [] x2 y2 A2 _ h.d b2 (λz=>by rfl) (λz=>by trivial) s1 (λw=>rfl) .nil h.nd (by simp;lia) (by simp;lia) o2 d2 λx3 y3 A3 b3 s3 k3 o3 d3=>?_
 refine jk7 (by unfold wkE side;simp_all) ⟨x3,y3,rfl,⟨b3.t,λq hq=>?_⟩,k1.trans (k2.trans k3)⟩;obtain⟨ds,z⟩:=b3.l q hq;refine⟨ds,?_⟩;rcases q with _|_|_|q
 .exact z
 .exact z
 .exact z
 .assumption
end
end
open L2 DL PySem.NumText
def jPg{as:LL}(h:as.Nodup):(as.map St).Nodup:=by unfold List.Nodup;rw[List.pairwise_map];exact h.imp λaj e=>aj (jku e)
noncomputable def jaw(b:Bk):Ae:=b.its.map (·.2)
def jnm(h:BkOk k b):∀s∈jaw b,Bt 100 s:=λs hs=>by obtain⟨p,hp,rfl⟩:=zcv.mp hs;exact h.st p hp
def jgs(b:Bk){fe:DSt->M D}(hf:∀a,fe [some a]=M.o (gIx a (.int 1))):compD (DL.gName 0) tYes fe (b.its.map itD) [none]=some ((jaw b).map .int):=by
 have:=ja7 (fe:=fe) (K:=itD) b.its none λp z=>by rw[hf];rfl
 simp_all [jaw]
def jhy(h:BkOk k b):((jaw b).map D.int).length<=1000:=by
 unfold jaw;rw[zav,zav];have:=h.i4;lia
def jAw{α:Type}(xs:List α):(xs.all λz=>true)=true:=aQ.mpr λz z=>rfl
def jCg{fe:DSt->M D}{c:DSt}{α:Type}{K:α->D}{f:α->Bool}(xs:List α)(h:∀x∈xs,fe (some (K x)::c)=oK (.bl (f x))):(∃ds,compD (DL.gName 0) tYes fe (xs.map K) (none::c)=some ds/\ds.length=xs.length/\kAll [.lst ds]=some (.bl (xs.all f))):=by simp_all [ja7,jAv]
def jqh{α:Type}{f:α->Aa}{xs:List α}(h:∀i x,xs[i]?=some x->f x=nmS i m):xs.map f=(List.range xs.length).map λi=>nmS i m:=by
 refine fA λi=>?_;grind
def jfg{α:Type}{f:α->Aa}{K:α->D}{xs:List α}(hK:∀x,gIx (K x) (.int 0)=some (sT (f x)))(h:∀i x,xs[i]?=some x->f x=nmS i m)(h7:xs.length<=7):jc6 [.lst (xs.map K),.int (n:Nat)]=oK (.bl (decide (1<=xs.length)&&decide (xs.length<=n))):=by
 have ec:=ja7 (c:=[]) (fe:=jds) (K:=K) xs none λx z=>by show M.o _=_;rw[hK];rfl
 have em:(xs.map λx=>D.str (St (f x)))=nmD (xs.map f):=by unfold nmD;rw[aP];rfl
 rw[em]at ec;have ln:(nmD (xs.map f)).length<=1000:=by unfold nmD;rw[zav,zav];lia
 have nl:jcu [.lst (xs.map K)]=oK (.lst (nmD (xs.map f))):=by unfold jcu;rw[jer];unfold je8;rw[jbq (by dsimp;simp only[stp,ec,ja3 ln];rfl)];rfl
 have ne:=jqh h;have nd:(xs.map f).Nodup:=by rw[ne];exact jqk (by omega) m
 have en:nmD (xs.map f)=((xs.map f).map St).map .str:=by unfold nmD;rw[aP,aP,aP];rfl
 obtain⟨ds,a1,a2,a3⟩:=jCg (fe:=jdc) (c:=[]) (K:=λa=>D.str (St a)) (f:=λz=>true) (xs.map f) (λs hs=>by rw[ne]at hs;obtain⟨i,hi,rfl⟩:=zcv.mp hs;have:=zcc.mp hi;unfold jdc;simp[(jjn ((juv m).1 i (by clear hs ne;omega)))])
 unfold jc6;rw[jde];unfold jf3;rw[jah (Y':=[oL _,oI _,oN _]) (by rw[jco 2 (d:=.lst (nmD (xs.map f))) (by assumption)];rfl),jbq ?_]
 .rfl
 .have c2:fL kAll (fCons (fComp 1 [] (iSeqD (vR 2)) (DL.gName 0) tYes jdc) fNil) [oL (xs.map K),oI (n),oN (xs.map f)]=oK (.bl true):=by
   unfold oN nmD;dsimp;simp only[stp,a1,ja3 (show ds.length<=1000 by clear nl;grind),a3,jAw];rfl
  have c3:f2 gEq (f1 gLenS (vR 2)) (fL kLen (fCons (vR 2) fNil)) [oL (xs.map K),oI (n),oN (xs.map f)]=oK (.bl true):=by
   unfold oN;rw[en]
   dsimp;simp only[stp,(jyk (jPg nd) (by rw[zav,zav];clear ln;lia)),zav,fP];rfl
  have:=jgw (js8 (fa:=fC (.int 1)) (fb:=fL kLen (fCons (vR 2) fNil)) (fc:=vR 1) rfl (by unfold oN nmD;dsimp;simp only[stp,zav];rfl) rfl) (jgw c2 c3);rw[Bool.and_self,Bool.and_true]at this;rw[this];simp only[show decide ((1:Int)<=(xs.length))=decide (1<=xs.length)from by clear em;lia,show decide ((xs.length:Int)<=(n))=decide (xs.length<=n)from by simp_all]
noncomputable def jjd(b:Bk):Bool:=(decide (1<=b.its.length)&&decide (b.its.length<=4))&&(((decide (1<=b.rls.length)&&decide (b.rls.length<=5))&&true)&&((decide (1<=b.dds.length)&&decide (b.dds.length<=6))&&b.dds.all λd=>decide (d.lo<=d.hi)))
def jho(hb:BkOk k b):jch [bkD b]=oK (.bl (jjd b)):=by
 obtain⟨m1,h1⟩:=hb.im;obtain⟨m2,h2⟩:=hb.rl;obtain⟨m3,h3⟩:=hb.dd;have i4:=hb.i4;have r5:=hb.r5;have d6:=hb.d6;have ar:jgg [bkD b]=oK (.bl ((decide (1<=b.rls.length)&&decide (b.rls.length<=5))&&true)):=by
  obtain⟨ds,a1,a2,a3⟩:=jCg (fe:=jdd) (c:=[oI (b.its.length)]) (K:=rulD) b.rls (λr hr=>by obtain⟨i,hi⟩:=eK hr;unfold jdd;simp[rl1,zav,((h2 i r hi).len),fP];rfl)
  have e2:fL kAll (fCons (fComp 1 [("width",1)] (iSeqD (f2 gIx (vR 0) (fC (.int 1)))) (DL.gName 0) tYes jdd) fNil) [some (bkD b),oI (b.its.length)]=oK (.bl true):=by dsimp;simp only[stp,a1,ja3 (show ds.length<=1000 by clear a1;lia),a3,jAw];rfl
  unfold jgg;rw[jer];unfold jf4;rw[jah (Y':=[some _,oI _]) (by rw[jco 1 (by simp[zav];rfl)];rfl)];exact jvv (jgw (jfg rl0 (λi r h=>(h2 i r h).nm) (by lia)) e2)
 have ad:jgf [bkD b]=oK (.bl ((decide (1<=b.dds.length)&&decide (b.dds.length<=6))&&b.dds.all λd=>decide (d.lo<=d.hi))):=by
  obtain⟨ds,a1,a2,a3⟩:=jCg (fe:=jeg) b.dds (λd hr=>by
   obtain⟨i,hi⟩:=eK hr;have e3:gIx (dedD d) (.int 3)=some _:=rfl;have:=jgw (fa:=f2 gEq (fL kLen (fCons (f2 gIx (vR 0) (fC (.int 3))) fNil)) (vR 1)) (fb:=f2 gLe (f2 gIx (vR 0) (fC (.int 1))) (f2 gIx (vR 0) (fC (.int 2)))) (Y:=[some (dedD d),oI (b.its.length)]) (by
    simp[e3,zav,((h3 i d hi).len),fP];rfl) (by rfl)
   exact this)
  have e2:fL kAll (fCons (fComp 1 [("width",1)] (iSeqD (f2 gIx (vR 0) (fC (.int 2)))) (DL.gName 0) tYes jeg) fNil) [some (bkD b),oI (b.its.length)]=oK (.bl (b.dds.all λd=>decide (d.lo<=d.hi))):=by dsimp;simp only[stp,a1,ja3 (show ds.length<=1000 by lia),a3];rfl
  unfold jgf;rw[jer];unfold jf2;rw[jah (Y':=[some _,oI _]) (by rw[jco 1 (by simp[zav];rfl)];rfl)];exact jvv (jgw (jfg (λx=>rfl) (λi r h=>(h3 i r h).nm) (by omega)) e2)
 exact jvv (jgw (jfg (λx=>rfl) h1 (by lia)) (jgw ar ad))
def jia(hb:BkOk k b):jgn [bkD b]=oK (.tup ((jaw b).map .int)):=by unfold jgn;rw[jer];unfold jgd;rw[jbq (by dsimp;simp only[stp,(jgs b (fe:=jh2) λa=>rfl),ja3 (jhy hb)];rfl)];rfl
end MyLaw
namespace MyLaw
section
open L2 SI
section
variable {k n i:Nat}{b:Bk}{r:Rul}{A A':Sto}{bb:D}{d:D}
def bkN(b:Bk):Nat->List PD
|0=>b.its.map itD
|1=>b.rls.map rulD
|2=>b.dds.map dedD
|_=>[]
abbrev BB(n:Nat)(A:Sto)(b:Bk):Prop:=BL n A (bkN b)
def lt0(i:Int):DL.gLt (.int i) (.int 0)=some (.bl (decide (i<0))):=rfl
structure BrkE(x:Aa)(A A':Sto)(y:D):Prop where
 ex:∃i j,y=.obj i/\A'[i]?=some (.exc "Broken" (some j) false)/\A'[j]?=some (.xd [("name",.str (St x))])
 kp:Kept A.length A A'
def jky(hb:BkOk k b)(hS:BB n A b)(rs:Rp [] A bb (.tup ((jaw b).map .int)))(rr:Rp [] A d (rulD r))(hr:b.rls[i]?=some r):Ev (sT2 (lO DL.gLt) (sL jnw (jar (sVar 0) (jar (sVar 2) (jar (sVar 1) sNil)))) (sC (.int 0)) [some (.obj (n+3)),some bb,some (.int (i:Nat)),some d]) A λc A'=>c=decide (spF r (jaw b)<0)/\A<+:A':=by obtain⟨_,h2⟩:=hb.rl;have R:=h2 i r hr;refine jdu (ev_l (jaa (jab rfl (jaa (jab rfl (jaa (jab rfl (jac (jau jv8 lt0W (.cons hS.rp (.cons .int (.cons rs .nil))) (jz4 hr R.bt (jnm hb) (by rw[R.len];exact hb.i4)) λy A1 l1 r1=>?_)))))))));cases r1;exact ev_c (jdl jcq jcq (lt0 _) rfl ⟨_,rfl,rfl,l1⟩)
def jxk(rd:Rp [] A d (sT e))(hi:A[i]?=some (.exc "Broken" none true)):Ev (jcy [.obj i,d]) A λy A'=>y=.non/\A'=(A++[SO.xd [("name",.str (St e))]]).set i (.exc "Broken" (some A.length) true):=by cases rd;rw[jib];exact jdf rfl (jDk (jab rfl (jab rfl ⟨i,_,_,rfl,hi,rfl,rfl,rfl⟩)))
def jC6(hΩ:A[k]?=some (.lst ds))(hx:ds[t]?=some x):wkE true k t A=some (.ok (some (.obj A.length)),A++[.tup [.int (t:Nat),x]]):=by unfold wkE side;grind[lsO]
def jC7{i:Int}:tTup [2,3] (.obj A.length) [u,v,x,y] (A++[.tup [.int i,d]])=some [u,v,some (.int i),some d]:=by unfold SI.tTup;dsimp only;rw[aL (zac _),cF];rfl
theorem jAz(hb:BkOk k b):∀(m i:Nat)(x y:Option D)(A:Sto),i+m=b.rls.length->(∀j r,b.rls[j]?=some r->i<=j->¬spF r (jaw b)<0)->BB n A b->Rp [] A bb (.tup ((jaw b).map .int)) ->
  Ev (forS (wkE true (n+1)) (tTup [2,3]) jcj (m+1) i [some (.obj (n+3)),some bb,x,y]) A λo A'=>(∃Y,o=.nx Y)/\A<+:A'
|0,i,x,y,A,h,_,hS,rs=>by obtain⟨ds,e,r,_⟩:=hS.l 1 (by simp_all);refine jk7 ?_ ⟨⟨_,rfl⟩,aF _⟩;unfold wkE side;rw[aD rfl,e];dsimp only [Option.bind_some,lsO];rw[bJ,bK (by rw[<- r.length];show(b.rls.map _).length<=i;simp_all)]
|m+1,i,x,y,A,h,hn,hS,rs=>by
  obtain⟨ds,e,rd,_⟩:=hS.l 1 (by simp_all);obtain⟨r,hr⟩:∃r,b.rls[i]?=some r:=⟨_,zax (by clear e;lia)⟩
  obtain⟨d,e1,r1⟩:=rd.get (show(bkN b 1)[i]?=some _ by show(b.rls.map _)[i]?=_;rw[zba,hr];rfl);have g:=aA A [SO.tup [.int (i),d]];refine jk8 (jC6 e e1) jC7 (jcm ((jky hb (hS.grow g) (rs.grow g) (r1.grow g) hr).imp λc A1 z=>?_));obtain⟨rfl,l1⟩:=z;rw[aN (hn i r hr (zac _)),aJ nofun];refine jhh ((jAz hb m _ _ _ A1 (by lia) (λj r h1 h2=>hn j r h1 (by lia)) (hS.grow (g.trans l1)) (rs.grow (g.trans l1))).imp λo A2 z=>⟨z.1,(g.trans l1).trans z.2⟩)
theorem jsw(hb:BkOk k b)(hr:b.rls[i]?=some r)(hs:spF r (jaw b)<0):∀(m j:Nat)(x y:Option D)(A:Sto),j+m=i->(∀q r,b.rls[q]?=some r->q<i->¬spF r (jaw b)<0)->BB n A b->Rp [] A bb (.tup ((jaw b).map .int)) ->
  Er (forS (wkE true (n+1)) (tTup [2,3]) jcj (m+1) j [some (.obj (n+3)),some bb,x,y]) A (λy A'=>BrkE r.nm A A' y)
|0,j,x,y,A,h,_,hS,rs=>by
  have hj:j=i:=by lia
  subst hj;obtain⟨ds,e,rd,_⟩:=hS.l 1 (by lia);obtain⟨d,e1,r1⟩:=rd.get (show(bkN b 1)[j]?=some _ by show(b.rls.map _)[j]?=_;rw[zba,hr];rfl);have g:=aA A [SO.tup [.int (j),d]];refine jDa (jC6 e e1) jC7 (jIs ((jky hb (hS.grow g) (rs.grow g) (r1.grow g) hr).imp λc A1 z=>?_));obtain⟨rfl,l1⟩:=z;rw[aD (aX hs)];have gl:=g.trans l1;refine jp0 (jx4 (jaa (jdp rfl (r1.grow gl) rfl rfl rfl λdn rn=>jac ((jxk (rn.grow (aA ..)) (by simp)).imp λy A2 z=>?_))));obtain⟨rfl,rfl⟩:=z;have ll:=gl.length_le;refine⟨rfl,_,_,_,rfl,(zcz (by simp)),rfl,⟨_,_,rfl,zcz (by simp),?_⟩,λq hq=>?_,by simp;lia⟩
  .simp_all
  .rw[zbw (by lia),zbw (by lia),aS (by simp;lia),aS (by lia)];exact(St1.pre (i:=q+1) gl).at' q hq (by lia)
|m+1,j,x,y,A,h,hn,hS,rs=>by
  have hi:=(zbb.mp hr).1;obtain⟨ds,e,rd,_⟩:=hS.l 1 (by lia);obtain⟨r',av⟩:∃r,b.rls[j]?=some r:=⟨_,zax (by lia)⟩
  obtain⟨d,e1,r1⟩:=rd.get (show(bkN b 1)[j]?=some _ by show(b.rls.map _)[j]?=_;rw[zba,av];rfl);have g:=aA A [SO.tup [.int (j),d]];refine jDb (jC6 e e1) jC7 (jcm ((jky hb (hS.grow g) (rs.grow g) (r1.grow g) av).imp λc A1 z=>?_));obtain⟨rfl,l1⟩:=z;rw[aN (hn j r' av (by lia)),aJ nofun];exact jhh ⟨_,rfl,(jsw hb hr hs m _ _ _ A1 (by lia) hn (hS.grow (g.trans l1)) (rs.grow (g.trans l1))).imp λo A2 z=>⟨z.ex,(Kept.trans ⟨λq hq=>(St1.pre (i:=q+1) (g.trans l1)).at' q hq (by lia),(g.trans l1).length_le⟩ ⟨λq hq=>z.kp.at' q (zcx hq (g.trans l1).length_le),z.kp.le⟩)⟩⟩
end
section
variable {k n i:Nat}{b:Bk}{r:Rul}{A A':Sto}{L:Nat->List PD}{li lr ld:List Ln}
def Kept.pre(l:A<+:A'):Kept A.length A A':=⟨λq hq=>(St1.pre (i:=q+1) l).at' q hq (by simp_all),l.length_le⟩
def Kept.into(a:Kept n A A1)(b:Kept A1.length A1 A2)(h:n<=A.length):Kept n A A2:=a.trans ⟨λq hq=>b.at' q (zcx hq (zdz h a.le)),b.le⟩
structure NoB(A A':Sto)(y:D):Prop where
 ex:∃i,y=.obj i/\A'[i]?=some (.exc "NoBook" none false)
 kp:Kept A.length A A'
def jk1(hS:BL n A L)(h:jch [.tup [.lst (L 0),.lst (L 1),.lst (L 2)]]=oK (.bl c)):Ev (sNot (sTru (sL jiy (jar (sVar 0) sNil))) [some (.obj (n+3))]) A λd A'=>d=!c/\A<+:A' :=
 jI1 (jtt (ev_l (jaa (jab rfl (jac (jau jo6 lt0W (.cons hS.rp .nil) h λy A1 l1 r1=>by cases r1;exact⟨c,rfl,rfl,l1⟩))))))
def jH7(hS:BL n A L)(h:jch [.tup [.lst (L 0),.lst (L 1),.lst (L 2)]]=oK (.bl false)):Er (jce [.obj (n+3)]) A (λy A'=>NoB A A' y):=by rw[jdt];refine jmk rfl (jn0 (jIs ((jk1 hS h).imp λc A1 z=>?_)));obtain⟨rfl,l1⟩:=z;refine jp0 (jDl ⟨_,_,_,rfl,(by simp),rfl,⟨_,rfl,zcz (by simp)⟩,?_⟩);have ll:=l1.length_le;refine⟨λq hq=>?_,by simp;lia⟩;rw[zbw (by lia),aS (by lia)];exact(Kept.pre l1).at' q hq
def ls1(hS:BB n A b):∃ds,A[n+1]?=some (.lst ds):=let ⟨ds,e,_⟩:=hS.l 1 (by lia);⟨ds,e⟩
def jvo{bb:D}(hS:BB n A b){q:Itr->Sto->Prop}(h:q (wkE true (n+1)) A):Ev (iEnS true (jar (s2 gSub (sVar 0) (sC (.int 1))) sNil) [some (.obj (n+3)),some bb,none,none]) A q:=by
 obtain⟨ds,e⟩:=ls1 hS;refine Ev.b (jaa (ev_2 (jab rfl (ev_c ⟨_,A,hS.ix (by simp_all),jac ⟨_,A,?_,h⟩⟩))));have:sdO A (.obj _)=some _:=aD (by unfold side;rw[aD rfl,e];rfl);simp_all
def jH8(hb:BkOk k b)(hS:BB n A b)(hg:jjd b=true)(hn:∀(j:Nat) r,b.rls[j]?=some r->¬spF r (jaw b)<0):Ev (jce [.obj (n+3)]) A λy A'=>A<+:A':=by
 have is:=jho hb;rw[hg]at is;rw[jdt];refine jdf rfl (jag (jcm ((jk1 hS is).imp λc A1 z=>?_)));obtain⟨rfl,l1⟩:=z;refine jhh (jcl (ev_l (jaa (jab rfl (jaa (ev_l (jaa (jab rfl (jac (jau jg7 lt0W (.cons (hS.grow l1).rp .nil) (jia hb) λd A2 l2 r=>jac ?_))))))))));have bu:=hS.grow (l1.trans l2);rw[jd4];refine jdf rfl (jk9 (jvo bu ⟨_,(jAz hb b.rls.length 0 _ _ A2 (by lia) (λj r h w=>hn j r h) bu r).imp λo A3 z=>?_⟩));grind
def jCv(hb:BkOk k b)(hS:BB n A b)(hg:jjd b=true)(hr:b.rls[i]?=some r)(hs:spF r (jaw b)<0)(hn:∀(j:Nat) r,b.rls[j]?=some r->j<i->¬spF r (jaw b)<0):Er (jce [.obj (n+3)]) A (λy A'=>BrkE r.nm A A' y):=by have is:=jho hb;rw[hg]at is;rw[jdt];refine jmk rfl (ji2 (jcm ((jk1 hS is).imp λc A1 z=>?_)));obtain⟨rfl,l1⟩:=z;refine jhh ⟨_,rfl,jnz (er_l (jaa (jab rfl (jaa (ev_l (jaa (jab rfl (jac (jau jg7 lt0W (.cons (hS.grow l1).rp .nil) (jia hb) λd A2 l2 rd=>jac ?_)))))))))⟩;have be:=l1.trans l2;have bu:=hS.grow be;rw[jd4];exact jmk rfl (jDc (jvo bu ⟨_,(jsw hb hr hs i 0 _ _ A2 (by lia) hn bu rd).imp λo A3 z=>⟨z.ex,((Kept.pre be).into z.kp (zac _))⟩⟩))
structure LsB(b:Bk)(li lr ld:List Ln):Prop where
 ok:LsOk li lr ld
 ei:li.map (·.d)=b.its.map itD
 er:lr.map (·.d)=b.rls.map rulD
 ed:ld.map (·.d)=b.dds.map dedD
def jAy(h:LsB b li lr ld):bk3 li lr ld=bkN b:=by
 funext q
 rcases q with _|_|_|q
 .exact h.ei
 .exact h.er
 .exact h.ed
 .rfl
def jvp(A:Sto):Ev (oSet 1 (sL (gNew .tup) (jar (sL (gNew .lst) sNil) (jar (sL (gNew .lst) sNil) (jar (sL (gNew .lst) sNil) sNil)))) [some dt,none,none,none]) A λo A'=>o=.nx [some dt,some (.obj (A.length+3)),none,none]/\BL A.length A' (λy=>[])/\Kept A.length A A'/\A'.length=A.length+4:=by
 have z:0<=sizeLine:=aY _;refine jax (ev_l (jaa (ev_l (jac (jcg z (jaa (ev_l (jac (jcg z (jaa (ev_l (jac (jcg z (jac (jcg (by grind[sizeLine]) ?_)))))))))))))));have e:A++[SO.lst []]++[SO.lst []]++[SO.lst []]++[SO.tup [.obj A.length,.obj (A++[SO.lst []]).length,.obj (A++[SO.lst []]++[SO.lst []]).length]]=A++[SO.lst [],.lst [],.lst [],.tup [.obj A.length,.obj (A.length+1),.obj (A.length+2)]]:=by simp
 have e2:(A++[SO.lst []]++[SO.lst []]++[SO.lst []]).length=A.length+3:=by simp
 rw[e,e2];have at':∀q,(A++[SO.lst [],.lst [],.lst [],.tup _])[A.length+q]?=([SO.lst [],.lst [],.lst [],.tup [.obj A.length,.obj (A.length+1),.obj (A.length+2)]])[q]?:=λq=>by rw[aL (by lia),gF]
 refine⟨rfl,⟨(at' 3).trans rfl,λq hq=>⟨[],?_,.nil,rfl⟩⟩,Kept.pre (aA ..),by simp⟩;rw[at' q];rcases q with _|_|_|q<;>grind
def jov(h:LsOk li lr ld)(aj:jav li lr ld≠[])(hl:(jai [10] (jav li lr ld)).length<=50000)(hB:BL n A (λw=>[]))(hn:A.length=n+4):Ev (jka (iEnS true (jar (sSm gSplitS (sVar 0) (sC (.str "\n"))) sNil)) (tTup [2,3]) jcc [some (.str (St (jai [10] (jav li lr ld)))),some (.obj (n+3)),none,none]) A λo A'=>∃x y,o=.nx [some (.str (St (jai [10] (jav li lr ld)))),some (.obj (n+3)),x,y]/\BL n A' (bk3 li lr ld)/\Kept n A A':=by
 have g1:=h.zi;have g2:=h.zr;have g3:=h.zd;have sp:=jin rfl (λp hp=>by
  rcases zdy.mp hp with hp|hp
  .obtain⟨q,hq,rfl⟩:=zcv.mp hp;exact jEc (by lia) (h.i q hq)
  .rcases zdy.mp hp with hp|hp
   .obtain⟨q,hq,rfl⟩:=zcv.mp hp;exact jEc (by lia) (h.r q hq)
   .obtain⟨q,hq,rfl⟩:=zcv.mp hp;exact jEc (by lia) (h.d q hq)) aj hl (by grind[jav])
 refine jk9 (Ev.b (jaa (jp2 jjx (jab rfl ⟨_,rfl,ev_c ⟨lt0W,_,_,.str,sp,λd A1 l1 r=>jac ?_⟩⟩))));obtain⟨j,ds,rfl,hj,rj⟩:∃j ds,d=.obj j/\A1[j]?.bind lsO=some ds/\Rps [] A1 ds _:=by cases r with|lst hj ej rj fj=>exact⟨_,_,rfl,ej,rj⟩
 have sd:sdO A1 (.obj j)=some _:=aD (by unfold side;simp_all);have hk:∀q,q<=2->n+q≠j:=λq hq z=>by obtain⟨es,e,re,_⟩:=(hB.grow l1).l q hq;cases re;rw[<- z,e]at hj;cases hj;exact aj (by have:=jlw rj;simp_all)
 refine⟨_,A1,by simp_all,_,(juj h hk (hB.grow l1) (by rw[hj,jlw rj])).imp λo A2 z=>?_⟩;obtain⟨x,y,rfl,h1,h2⟩:=z;exact⟨x,y,rfl,h1,Kept.trans ⟨λq hq=>(Kept.pre l1).at' q (by lia),l1.length_le⟩ h2⟩
def jCp(h:LsOk li lr ld)(aj:jav li lr ld≠[])(hl:(jai [10] (jav li lr ld)).length<=50000)(hi:jch [.tup [.lst (li.map (·.d)),.lst (lr.map (·.d)),.lst (ld.map (·.d))]]=oK (.bl false))(A:Sto):Er (jc0 [.str (St (jai [10] (jav li lr ld)))]) A (λy A'=>NoB A A' y):=by rw[jeu];refine jmk rfl (ji2 ((jvp A).imp λo A1 z=>?_));obtain⟨rfl,hB,k1,n1⟩:=z;refine⟨_,rfl,ji2 ((jov h aj hl hB n1).imp λo A2 z=>?_)⟩;obtain⟨x,y,rfl,ao,k2⟩:=z;refine⟨_,rfl,jn0 (jnz (er_l (jaa (jab rfl (jac ((jH7 ao hi).imp λy A3 z=>⟨z.ex,(k1.trans k2).into z.kp (zac _)⟩))))))⟩
def jxh(hb:BkOk k b)(h:LsB b li lr ld)(aj:jav li lr ld≠[])(hl:(jai [10] (jav li lr ld)).length<=50000)(hg:jjd b=true)(hr:b.rls[i]?=some r)(hs:spF r (jaw b)<0)(hn:∀(j:Nat) r,b.rls[j]?=some r->j<i->¬spF r (jaw b)<0)(A:Sto):Er (jc0 [.str (St (jai [10] (jav li lr ld)))]) A (λy A'=>BrkE r.nm A A' y):=by rw[jeu];refine jmk rfl (ji2 ((jvp A).imp λo A1 z=>?_));obtain⟨rfl,hB,k1,n1⟩:=z;refine⟨_,rfl,ji2 ((jov h.ok aj hl hB n1).imp λo A2 z=>?_)⟩;obtain⟨x,y,rfl,ao,k2⟩:=z;rw[jAy h]at ao;refine⟨_,rfl,jn0 (jnz (er_l (jaa (jab rfl (jac ((jCv hb ao hg hr hs hn).imp λy A3 z=>⟨z.ex,(k1.trans k2).into z.kp (zac _)⟩))))))⟩
def jxi(hb:BkOk k b)(h:LsB b li lr ld)(aj:jav li lr ld≠[])(hl:(jai [10] (jav li lr ld)).length<=50000)(hg:jjd b=true)(hn:∀(j:Nat) r,b.rls[j]?=some r->¬spF r (jaw b)<0)(A:Sto):Ev (jc0 [.str (St (jai [10] (jav li lr ld)))]) A (λy A'=>Rp [] A' y (bkD b)/\Kept A.length A A'):=by rw[jeu];refine jdf rfl (jag ((jvp A).imp λo A1 z=>?_));obtain⟨rfl,hB,k1,n1⟩:=z;refine jag ((jov h.ok aj hl hB n1).imp λo A2 z=>?_);obtain⟨x,y,rfl,ao,k2⟩:=z;rw[jAy h]at ao;refine jag (jcl (ev_l (jaa (jab rfl (jac ((jH8 hb ao hg hn).imp λy A3 l3=>jfr (jab rfl ⟨(ao.grow l3).rp,(k1.trans k2).into (Kept.pre l3) (zac _)⟩)))))))
end
end
open L2 DL PySem.NumText
theorem jqc(ag:Aa):∀ps:LL,Str.join (St ag) (ps.map St)=St (jai ag ps)
|[]=>rfl
|[p]=>rfl
|p::q::r=>by have ih:=jqc ag (q::r);rw[aE]at ih;show St p++St ag++Str.join _ (St q::r.map St)=_;rw[ih,jg9,jg9,aU];rfl
def jqb(h:(ps.map (·.length)).sum+ps.length*ag.length<=16777216):gJoin (St ag) (.lst (nmD ps))=some (sT (jai ag ps)):=by
 show(match strsD _ with|some ys=>_|none=>none)=_;rw[jwo];dsimp only;have e:((ps.map St).map (·.length))=ps.map (·.length):=by rw[aP];exact List.map_congr_left λp z=>jay p
 rw[aD (by grind[List.length_map,jay]),show Txt.join _ _=St _ from(StrLaws.glued_eq_join _ _).trans (jqc ag ps)]
theorem jrc:∀{ps:LL},(∀p∈ps,p.length<=k)->(ps.map (·.length)).sum<=ps.length*k
|[],_=>aY _
|p::ps,h=>by
  have a:=h p zaa;have b:=jrc λq hq=>h q (zaw _ hq)
  rw[aE,gq,aI,Nat.succ_mul];lia
def jJo:Str.ofString "item "=St (kwL 0++[32]):=by rfl
def jJp:Str.ofString "rule "=St (kwL 1++[32]):=by rfl
def jJn:Str.ofString "deed "=St (kwL 2++[32]):=by rfl
def l_n:Str.ofString "n"=St [110]:=by rfl
def itX(p:List Nat×Int):Aa:=p.1++(32::numT p.2)
def chQ(q:List Nat×(Int×Int)):D:=.tup [sT q.1,chD q.2]
def jH6(aa:LL)(chs:List (Int×Int)):zipD (nmD aa) (chs.map chD)=(aa.zip chs).map chQ:=jj3 _ chD _ chs
noncomputable def addO(ps:LL):Option Aa->LL
|some t=>ps++[t]
|none=>ps
theorem juk{g:DSt->M Out}{tg:D->DSt->Option DSt}{mk:LL->Option D->Option D->DSt}{F:List Nat×(Int×Int)->Option Aa}(c8:∀q ps x y,tg (chQ q) (mk ps x y)=some (mk ps (some (sT q.1)) (some (chD q.2)))):
  ∀(qs:List (List Nat×(Int×Int))) (ps:LL) (x y:Option D),(∀q∈qs,∀ps:LL,ps.length<=100->g (mk ps (some (sT q.1)) (some (chD q.2)))=nX (mk (addO ps (F q)) (some (sT q.1)) (some (chD q.2))))->ps.length+qs.length<=100 ->
  ∃x' y',forD g tg (qs.map chQ) (mk ps x y)=nX (mk (ps++qs.filterMap F) x' y')
|[],ps,x,y,_,_=>⟨x,y,by rw[List.filterMap_nil,aO];rfl⟩
|q::qs,ps,x,y,h,hl=>by
  rw[aI]at hl;have ll:(addO ps (F q)).length<=ps.length+1:=by
   cases F q with
   |none=>exact eE _
   |some t=>show(ps++[t]).length<=_;simp_all
  obtain⟨x',y',ih⟩:=juk c8 qs (addO ps (F q)) _ _ (λr hr=>h r (zaw _ hr)) (by lia);refine⟨x',y',?_⟩;have e2:addO ps (F q)++qs.filterMap F=ps++(q::qs).filterMap F:=by
   cases hF:F q with
   |none=>rw[List.filterMap_cons_none hF];rfl
   |some t=>show(ps++[t])++_=_;simp_all
  rw[aE,jih (c8 q ps x y) (h q zaa ps (by lia)),ih,e2]
def jPi(c:Int×Int):gNe (chD c) (.tup [.int 0,.int 0])=some (.bl !(decide (c=(0,0)))):=by
 show some (D.bl !(((c.1==0)&&((c.2==0)&&true))))=_;obtain⟨a,b⟩:=c
 by_cases h1:a=0<;>by_cases h2:b=0<;>simp[h1,h2]
def shF(u:Aa)(c:Int×Int):Aa:=jb1 [u] ([c.1],c.2)
structure CkOk(aa:LL)(chs:List (Int×Int)):Prop where
 n10:aa.length<=10
 nl:∀a∈aa,Nm a
 cn:∀c∈chs,c.1.natAbs<10^31/\c.2.natAbs<10^31
def CkOk.at'(h:CkOk aa chs)(hq:q∈aa.zip chs):Nm q.1/\FOk 1 ([q.2.1],q.2.2):=by have c:=h.cn _ (zca hq).2;exact⟨h.nl _ (zca hq).1,⟨rfl,λx hx=>by simp_all,c.2⟩⟩
def jBw(hu:Nm u)(h:FOk 1 ([c.1],c.2)):(shF u c).length<=5000:=jnh (by simp) (λa ha=>by rw[zdx.mp ha];exact zdz hu.le (by decide)) h
def nm_n:Nm [110]:=jjo rfl
def jCx{m:List D->M D}{Y:DSt}{fu fc:DSt->M D}{u:Aa}{c:Int×Int}(hm:m [.lst [sT u],.tup [.tup [.int c.1],.int c.2]]=oK (sT (shF u c)))(h1:fu Y=oK (sT u))(h2:fc Y=oK (chD c)):
  fCall m (fCons (fL gLstD (fCons fu fNil)) (fCons (fL gTupD (fCons (fL gTupD (fCons (f2 gIx fc (cI 0)) fNil)) (fCons (f2 gIx fc (cI 1)) fNil))) fNil)) Y=oK (sT (shF u c)):=jI4 (jkf h1 rfl) (jI5 (jkf (jd8 h2 rfl rfl) rfl) (jd8 h2 rfl rfl)) hm
def jPn(h:(Y[i]?).join=some (chD c)):t2 gNe (vR i) (fL gTupD (fCons (cI 0) (fCons (cI 0) fNil))) Y=oK (!(decide (c=(0,0)))):=by unfold t2;rw[jB9 h,M.b_ok];show(match gNe (chD c) (.tup [.int 0,.int 0])with|some (.bl b)=>M.p b|_=>none)=_;rw[jPi];rfl
structure DkOk(aa:LL)(d:Ded):Prop where
 ck:CkOk aa d.chs
 nm:Nm d.nm
 lo:d.lo.natAbs<10^31
 hi:d.hi.natAbs<10^31
noncomputable def nmsB(b:Bk):LL:=b.its.map (·.1)
def itL(p:List Nat×Int):Aa:=kwL 0++([32]++itX p)
structure ShOk(b:Bk):Prop where
 nm:∀p∈b.its,Nm p.1
 it:∀p∈b.its,p.2.natAbs<10^31
 n10:b.its.length<=10
 rn:∀r∈b.rls,Nm r.nm
 rf:∀r∈b.rls,FOk (nmsB b).length (r.cs,r.rest)
 dd:∀d∈b.dds,DkOk (nmsB b) d
 r10:b.rls.length<=10
 d10:b.dds.length<=10
def jBl(h:ShOk b):∀a∈nmsB b,Nm a:=λa ha=>by obtain⟨p,hp,rfl⟩:=zcv.mp ha;exact h.nm p hp
def jBd{i:Nat}{fa:DSt->M D}{Y:DSt}{xs ys:List D}(h:fa Y=some (.ok (.lst ys)))(hd:(Y[i]?).join=oL xs)(hl:xs.length+ys.length<=1000):gExt i fa Y=nX (Y.set i (oL (xs++ys))):=by unfold gExt;rw[h,M.b_ok,hd];show(if xs.length+ys.length<=sizeLine then M.p _ else none)=_;rw[aD (by rw[bG];lia)];rfl
def jO7(hu:Nm u)(h:FOk 1 ([c.1],c.2)):jdq [.lst [sT u],.tup [.tup [.int c.1],.int c.2]]=oK (sT (shF u c)):=
 jwq (aa:=[u]) (f:=([c.1],c.2)) (by simp) (by simp) (λa ha=>by rw[zdx.mp ha];exact zdz hu.le (by decide)) (λa ha=>by rw[zdx.mp ha];exact hu.ne) h
def jPe(hw:(Y[i]?).join=oN ws):f2 gMul (cS "-") (fL kIntT (fCons (f2 gEq (vR i) (fL gLstD fNil)) fNil)) Y=oK (sT (if ws=[]then [45]else [])):=by
 rw[(jd8 (kC joi) (jkf (jd8 (jB9 hw) rfl (jtr ws)) rfl) (jBj _))];simp_all
def jHe{fj:DSt->M D}{ws:LL}{jo:Aa}{Y:DSt}{i:Nat}(hj:fj Y=some (.ok (sT jo)))(hw:(Y[i]?).join=oN ws)(hl:jo.length<=80000):
  f2 gCat fj (f2 gMul (cS "-") (fL kIntT (fCons (f2 gEq (vR i) (fL gLstD fNil)) fNil))) Y=oK (sT (jo++if ws=[]then [45]else [])):=jd8 hj (jPe hw) (jiv (by grind))
def okc(c:Nat):Bool:=isL c || isG c || c==32 || c==42 || c==43 || c==45
def jnb(h:okc c=true):c≠10/\c≠44/\c≠62:=by refine⟨?_,?_,?_⟩<;>(rintro rfl;revert h;decide)
def okL(h:isL c=true):okc c=true:=by grind[okc]
def okG(h:isG c=true):okc c=true:=by grind[okc,isL]
def jA6(h:c∈dg n):okc c=true:=okG (jkm (jfl n) c h)
def jxg(ha:∀c∈a,isL c=true)(h:c∈jir v a):okc c=true:=by
 unfold jir at h
 split at h
 .exact okL (ha c h)
 .rcases zdy.mp h with h|h
  .exact jA6 h
  .rcases aM.mp h with rfl|h
   .decide
   .exact okL (ha c h)
def jsn(hx:∀c∈x,okc c=true)(hb:∀c∈b,okc c=true)(h:c∈addP x s b):okc c=true:=by
 unfold addP at h
 split at h
 .split at h
  .rcases aM.mp h with rfl|h
   .decide
   .exact hb c h
  .exact hb c h
 .rcases zdy.mp h with h|h
  .exact hx c h
  .rcases zdy.mp h with h|h
   .cases s<;>(revert h;simp;rintro (rfl|rfl|rfl)<;>decide)
   .exact hb c h
theorem jp4:∀(ps:List (List Nat×Int)) (x:Aa),(∀p∈ps,∀c∈p.1,isL c=true)->(∀c∈x,okc c=true)->∀c∈ps.foldl jea x,okc c=true
|[],x,_,hx=>hx
|p::ps,x,h,hx=>jp4 ps _ (λq hq=>h q (zaw _ hq)) λc hc=>by
  unfold jea at hc
  split at hc
  .exact hx c hc
  .exact jsn hx (λd hd=>jxg (h p zaa) hd) hc
def jjv(hN:∀a∈aa,Nm a)(f:Fm):∀c∈jb1 aa f,okc c=true:=λc hc=>by
 have fc:=jp4 (aa.zip f.1) [] (λp hp=>(hN _ (zca hp).1).al) (λc h=>by cases h);unfold jb1 at hc;dsimp only at hc
 split at hc
 .split at hc
  .cases zdx.mp hc;decide
  simp_all
 .split at hc
  .cases zdx.mp hc;decide
  .exact jsn fc (λd hd=>jA6 hd) hc
theorem jB5:∀{cs:List (Int×Int)},SI.tuVs (cs.map chD)=true
|[]=>rfl
|_::_=>by rw[aE];unfold SI.tuVs;rw[aC];exact⟨rfl,jB5⟩
def jB6:SI.tuV (rulD r)=true:=by show(true&&(SI.tuVs _&&(true&&true)))=true;rw[SI.tu_ints];rfl
def jwu:SI.tuV (dedD d)=true:=by show(true&&(true&&(true&&(SI.tuVs _&&true))))=true;rw[jB5];rfl
def jEb(h1:Nm p.1)(h2:p.2.natAbs<10^31):LnOk 0 aa ⟨itX p,itD p,p.1⟩:=by
 have nl:=h1.le;have n2:=jgp h2;refine⟨λna l y y=>jLo (jzk h1 h2 _),rfl,rfl,?_,?_⟩
 .show (p.1++(32::numT p.2)).length<=45000;simp
  lia
 .intro z;rcases zdy.mp (z)with z|z
  .exact jhr h1 rfl z
  .rcases aM.mp z with z|z
   .cases z
   .exact jh5 (by decide) rfl z
noncomputable def rlX(a L R:Aa):Aa:=a++([58,32]++(L++([62,61]++R)))
def juh(hn:aa.length<=1000)(ha:Nm a)(hL:TxS aa L f)(hR:TxS aa R g)(cL:∀c∈L,okc c=true)(cR:10∉R)(l1:L.length<=20000)(l2:R.length<=20000)(hf:f.1.length<=1000)(er:r=⟨a,subL f.1 g.1,f.2-g.2⟩):LnOk 1 aa ⟨rlX a L R,rulD r,a⟩:=by
 have al:=ha.le;subst er;refine⟨λna l hna y=>?_,rfl,jB6,?_,?_⟩
 .rw[hna nofun];exact jLp (jzm hn ha hL hR (λz=>(jnb (cL _ z)).2.2 rfl) l1 l2 hf _)
 .show (a++([58,32]++(L++([62,61]++R)))).length<=45000;simp
  clear hf ha;lia
 .intro z;rcases zdy.mp z with z|z
  .exact jhr ha rfl z
  .rcases zdy.mp z with z|z
   .trivial
   .rcases zdy.mp z with z|z
    .exact (jnb (cL _ z)).1 rfl
    simp_all
theorem jt9(hs:c∉ag):∀{ps:LL},(∀p∈ps,c∉p)->c∉jai ag ps
|[],_=>λz=>by cases z
|[p],h=>h p zaa
|p::q::ps,h=>λz=>by
  rcases zdy.mp (z)with z|z
  .grind
  .rcases zdy.mp z with z|z
   .exact hs z
   .exact jt9 hs (λr hr=>h r (zaw _ hr)) z
def jug(hn:aa.length<=1000)(ha:Nm d.nm)(hu:Nm u)(h1:d.lo.natAbs<10^31)(h2:d.hi.natAbs<10^31)(h:∀p∈ps,PtOk aa u p)(h10:∀p∈ps,10∉p.x)(hd:(ps.map (·.a)).Nodup)(hl:ps.length<=6)(hc:aa.map (jhp ps)=d.chs):LnOk 2 aa ⟨ddT d.nm u d.lo d.hi++([58,32]++chT ps),dedD d,d.nm⟩:=by
 have la:=ha.le;have lu:=hu.le;have n1:=jgp h1;have n2:=jgp h2;have cl:(chT ps).length<=40000:=by
  unfold chT
  split
  .decide
  .have:=jij (ps:=ps.map ptL) (k:=6100) λq hq=>by
    obtain⟨r,hr,rfl⟩:=zcv.mp hq;have a1:=(h r hr).nm.le;have a2:=(h r hr).len
    grind[ptL]
   grind
 refine⟨λna l hna y=>?_,rfl,jwu,?_,?_⟩
 .have e:=jzg hn ha hu h1 h2 h hd hl (.int l) rfl
  simp_all [jLq]
 .rw[jxr];simp only[zcb,aI,bZ]
  lia
 .intro z;rcases zdy.mp z with z|z
  .rw[jxr]at z;simp only[zdy,zdx]at z;rcases z with z|z|z|z|z|z|z
   .exact jhr ha rfl z
   .cases z
   .exact jhr hu rfl z
   .cases z
   .exact jh5 (by decide) rfl z
   .cases z
   .exact jh5 (by decide) rfl z
  .rcases zdy.mp z with z|z
   .revert z;decide
   .unfold chT at z
    split at z
    .revert z;decide
    .refine jt9 (by decide) (λp hp=>?_) z;obtain⟨q,hq,rfl⟩:=zcv.mp hp;intro z;rcases zdy.mp z with z|z
     .exact jhr (h q hq).nm rfl z
     simp_all
def jEd(hd:(ps.map (·.a)).Nodup)(hp:p∈ps):jhp ps p.a=p.c:=by
 induction ps with
 |nil=>cases hp
 |cons q ps ih=>
  rw[aE,cP]at hd;unfold jhp;rw[eR]
  by_cases e:q.a=p.a
  .grind
  .rw[aN e];rcases aM.mp hp with rfl|hp
   .trivial
   .exact ih hd.2 hp
def jym(h:a∉ps.map (·.a)):jhp ps a=(0,0):=by unfold jhp;rw[List.find?_eq_none.mpr λp hp z=>h (by simp_all)];rfl
def jyl{aa:LL}(hN:aa.Nodup)(hl:chs.length=aa.length)(hd:(ps.map (·.a)).Nodup)(h1:∀p∈ps,(p.a,p.c)∈aa.zip chs)(h2:∀q∈aa.zip chs,q.2≠(0,0)->q.1∈ps.map (·.a)):aa.map (jhp ps)=chs:=by
 refine dL (by simp_all) λi hi1 hi2=>?_
 rw[List.getElem_map]
 by_cases hm:aa[i]∈ps.map (·.a)
 .obtain⟨p,hp,e⟩:=zcv.mp hm;rw[<- e,jEd hd hp];obtain⟨j,hj,ej⟩:=dF.mp (h1 p hp);rw[List.getElem_zip]at ej;have:=(List.getElem_inj hN).mp ((congrArg Prod.fst ej).trans e)
  clear h2;clear e;simp_all
 .rw[jym hm]
  by_cases hc:chs[i]=(0,0)
  .exact hc.symm
  .exact absurd (h2 _ (dF.mpr ⟨i,by simp_all,List.getElem_zip⟩) hc) hm
def shl(hN:∀a∈aa,a.length<=40)(h:FOk aa.length f):(jb1 aa f).length<=100*aa.length+100:=by
 have fl:=jlb _ [] (jxc hN h);have dl:=jfm h.r;have al:=jkw ((aa.zip f.1).foldl jea []) (decide (f.2<0)) (dg f.2.natAbs);have z:(aa.zip f.1).length<=aa.length:=by rw[cG];exact Nat.min_le_left ..
 unfold jb1;dsimp only;simp only[bZ]at fl
 split<;>split<;>first|lia|(simp only[aI,bZ];lia)
theorem jmx:∀{ps:LL},(∀p∈ps,p.length<=k)->(jai ag ps).length<=ps.length*(k+ag.length)
|[],_=>aY _
|[p],h=>by have:=h p zaa;show p.length<=1*(k+ag.length);lia
|p::q::ps,h=>by
  have h2:=jmx (ag:=ag) λr hr=>h r (zaw _ hr)
  show(p++(ag++jai ag _)).length<=((q::ps).length+1)*(k+ag.length);grind
def jEp{α:Type}{f:α->Aa}{xs:List α}(h:∀i x,xs[i]?=some x->f x=nmS i m)(hl:xs.length<=7):(∀x∈xs,Nm (f x))/\(xs.map f).Nodup:=by
 refine⟨λx hx=>?_,by rw[jqh h];exact jqk hl m⟩;obtain⟨i,hi,e⟩:=dF.mp hx;have:xs[i]?=some x:=by rw[zax hi,e]
 rw[h i x this];exact(juv m).1 i (by lia)
structure DrOk(b:Bk):Prop where
 sh:ShOk b
 ni:(nmsB b).Nodup
 nr:(b.rls.map (·.nm)).Nodup
 nd:(b.dds.map (·.nm)).Nodup
 rl:∀r∈b.rls,r.cs.length=(nmsB b).length
 dl:∀d∈b.dds,d.chs.length=(nmsB b).length
 r25:∀r∈b.rls,(∀c∈r.cs,c.natAbs<10^23)/\r.rest.natAbs<10^25
def jOg(hb:BkOk 206 b):DrOk b:=by
 obtain⟨m1,h1⟩:=hb.im;obtain⟨m2,h2⟩:=hb.rl;obtain⟨m3,h3⟩:=hb.dd;have i4:=hb.i4;have r5:=hb.r5;have d6:=hb.d6;have nl:(nmsB b).length=b.its.length:=by unfold nmsB;rw[zav]
 have a1:=jEp h1 (by lia);have a2:=jEp (λi r h=>(h2 i r h).nm) (by lia);have a3:=jEp (λi d h=>(h3 i d h).nm) (by lia);have R:∀r∈b.rls,∃i,RulOk _ m2 206 i r:=λr hr=>by obtain⟨i,hi,e⟩:=dF.mp hr;exact⟨i,h2 i r (by rw[zax hi,e])⟩
 have Dd:∀d∈b.dds,∃i,DedOk _ m3 i d:=λd hd=>by obtain⟨i,hi,e⟩:=dF.mp hd;exact⟨i,h3 i d (by rw[zax hi,e])⟩
 refine⟨⟨a1.1,λp hp=>bC (hb.sn p hp) (by decide),by lia,a2.1,λr hr=>?_,λd hd=>?_,by lia,by lia⟩,a1.2,a2.2,a3.2,λr hr=>?_,λd hd=>?_,λr hr=>?_⟩
 .obtain⟨i,q⟩:=R r hr;exact⟨by rw[nl];exact q.len,λc hc=>bC (q.cn c hc) (by decide),bC q.rn (by decide)⟩
 .obtain⟨i,q⟩:=Dd d hd;refine⟨⟨by lia,λa ha=>?_,λc hc=>⟨bC (q.cn c hc).1 (by decide),bC (q.cn c hc).2 (by decide)⟩⟩,a3.1 d hd,bC q.ln (by decide),bC q.hn (by decide)⟩;obtain⟨p,hp,rfl⟩:=zcv.mp ha
  grind
 .obtain⟨i,q⟩:=R r hr;rw[nl];exact q.len
 .obtain⟨i,q⟩:=Dd d hd;rw[nl];exact q.len
 .obtain⟨i,q⟩:=R r hr;exact⟨q.cn,q.rn⟩
def ju5(hu:Nm u):(∀a∈[u],Nm a)/\[u].Nodup:=⟨λa ha=>by simp_all,by simp⟩
def jQv(hu:Nm u)(h:FOk 1 ([c.1],c.2)):TxS [u] (shF u c) ([c.1],c.2):=TxS.shown (by simp) (ju5 hu).1 (ju5 hu).2 h
def jMb(hu:Nm u)(c:Int×Int):∀x∈shF u c,okc x=true:=jjv (ju5 hu).1 _
def liB(b:Bk):List Ln:=b.its.map λp=>⟨itX p,itD p,p.1⟩
theorem jik(b:Bk):(liB b).map (·.a)=nmsB b:=by unfold liB nmsB;simp_all
theorem jyn(hb:BkOk 206 b)(h:DrOk b):∀q∈liB b,LnOk 0 (nmsB b) q:=λq hq=>by obtain⟨p,hp,rfl⟩:=zcv.mp hq;exact jEb (h.sh.nm p hp) (h.sh.it p hp)
def ju7(h:∀c∈x,okc c=true):∀c∈List.replicate m 32++(x++List.replicate n 32),okc c=true:=λc hc=>by
 rcases zdy.mp hc with hc|hc
 .rw[(gC.mp hc).2];decide
 .rcases zdy.mp hc with hc|hc
  .exact h c hc
  .rw[(gC.mp hc).2];decide
def n10B(hb:BkOk 206 b):(nmsB b).length<=10/\1<=(nmsB b).length:=by
 have:=hb.i4;have:=hb.i1
 grind[nmsB,List.length_map]
def jDo:FOk n (List.replicate n 0,0):=⟨dB,λc hc=>by simp_all,show(0:Int).natAbs<10^31 by simp_all⟩
def jPx(hu:Nm u)(hk:DkOk aa d)(hq:q∈aa.zip d.chs)(m n:Nat)(hm:m+n<=100):PtOk aa u ⟨q.1,List.replicate m 32++(shF u q.2++List.replicate n 32),q.2⟩/\10∉(List.replicate m 32++(shF u q.2++List.replicate n 32)):=by
 obtain⟨h1,h2⟩:=hk.ck.at' hq;have pc:=ju7 (m:=m) (n:=n) (jMb hu q.2);have sl:=jBw hu h2;refine⟨⟨h1,(zca hq).1,(jQv hu h2).pad m n,λz=>(jnb (pc _ z)).2.1 rfl,?_⟩,λz=>(jnb (pc _ z)).1 rfl⟩;simp;lia
def jBk:∀t∈List.range 3,isS (gMul (sT [32]) (.int (t:Nat))) (List.replicate t 32)=true:=by decide +kernel
noncomputable def midK:Nat->Nat×Nat
|0=>(0,0)
|1=>(1,1)
|2=>(2,0)
|_=>(0,3)
def midL(s:Nat):Aa:=List.replicate (midK s).1 32++([62,61]++List.replicate (midK s).2 32)
noncomputable def midD:D:=.lst [.str ">=",.str " >= ",.str "  >=",.str ">=   "]
def jJ1:∀s∈List.range 4,isS (gIx midD (.int (s:Nat))) (midL s)=true:=by decide +kernel
def jJ2:∀s,(midK s).1<=2/\(midK s).2<=3
|0=>by decide
|1=>by decide
|2=>by decide
|_+3=>⟨aY _,zac _⟩
noncomputable def moreF(n:Nat)(m:Int):Ae:=(List.range n).map λk:Nat=>m / ((k:Int)+1) % 5-2
def juq:∀c∈moreF n m,c.natAbs<=2:=λc hc=>by
 obtain⟨k,_,rfl⟩:=zcv.mp hc;lia
noncomputable def plusL(xs ys:Ae):Ae:=(xs.zip ys).map λp=>p.1+p.2
theorem jqs:∀(xs ys:Ae),xs.length=ys.length->subL (plusL xs ys) ys=xs
|[],[],_=>rfl
|[],_::_,h=>by cases h
|_::_,[],h=>by cases h
|x::xs,y::ys,h=>by
  have ih:=jqs xs ys (Nat.succ.inj h)
  grind[subL,plusL,List.zip_cons_cons]
def jFb(h:c∈plusL xs ys):∃x∈xs,∃y∈ys,c=x+y:=by obtain⟨p,hp,rfl⟩:=zcv.mp h;exact⟨p.1,(zca hp).1,p.2,(zca hp).2,rfl⟩
abbrev lr4(b:Bk)(r:Rul)(m:Int)(x y z:Option D):DSt:=[oN (nmsB b),some (rulD r),oI m,some (.tup ((moreF (nmsB b).length m).map .int)),x,y,z]
def jJu(hb:BkOk 206 b)(h:DrOk b)(hr:r∈b.rls):∃q:Ln,jda [.lst (nmD (nmsB b)),rulD r,.int m]=oK (sT (lnL 1 q))/\LnOk 1 (nmsB b) q/\q.d=rulD r/\q.a=r.nm/\q.tx.length<=2000:=by
 have n10:=(n10B hb).1;have n1:=(n10B hb).2;have n4:(nmsB b).length<=5:=by have:=hb.i4;unfold nmsB;rw[zav];omega
 have hN:=jBl h.sh;have cb:∀a∈nmsB b,a.length<=40:=λa ha=>zdz (hN a ha).le (by decide)
 have nl:=(h.sh.rn r hr).le;obtain⟨c25,r25⟩:=h.r25 r hr;have cl:=h.rl r hr;have ml:(moreF (nmsB b).length m).length=(nmsB b).length:=by unfold moreF;rw[zav,dJ]
 have pl:(plusL r.cs (moreF (nmsB b).length m)).length=(nmsB b).length:=by unfold plusL;rw[zav,cG];simp_all
 have F:FOk _ (plusL _ _,r.rest+7):=⟨pl,λc hc=>by obtain⟨x,hx,y,hy,rfl⟩:=jFb hc;have:=c25 x hx;have:=juq y hy;omega,by omega⟩
 have G:FOk _ (moreF _ m,7):=⟨ml,λc hc=>by have:=juq c hc;lia,show(7:Int).natAbs<10^31 by decide⟩
 have sf:=shl cb F;have sg:=shl cb G;have og:=jwq n1 n10 cb (λa ha=>(hN a ha).ne) G;have a4:=md (i:=m / 64) (j:=4) (by decide);have a3:=md (i:=m / 256) (j:=3) (by decide);have e4:(((m / 64 % 4).toNat))=m / 64 % 4:=bE a4.1;have e3:(((m / 256 % 3).toNat))=m / 256 % 3:=bE a3.1;have ix:gIx _ _=some (sT (midL (m / 64 % 4).toNat)):=jkn (jJ1 _ (jb9 a4.1 a4.2));have mu:gMul _ (.int (((m / 256 % 3).toNat)))=some _:=jkn (jBk _ (jb9 a3.1 a3.2));rw[e4]at ix;rw[e3]at mu;have ht:(m / 256 % 3).toNat<=2:=by clear mu a3;lia
 generalize (m / 256 % 3).toNat=t at mu ht;generalize (m / 64 % 4).toNat=s at ix;have mk:=jJ2 s;refine⟨⟨rlX r.nm (List.replicate t 32++(jb1 (nmsB b) (plusL r.cs (moreF (nmsB b).length m),r.rest+7)++List.replicate (midK s).1 32)) (List.replicate (midK s).2 32++((40::(jb1 (nmsB b) (moreF (nmsB b).length m,7)++[41]))++List.replicate 0 32)),_,_⟩,?_,?_,rfl,rfl,?_⟩
 .have cf:=ja7 (c:=[oI m]) (fe:=jck) (K:=λo:Nat=>D.int (o)) (List.range (nmsB b).length) none (λk hk=>by have cp:=zcc.mp hk;unfold jck;simp[(fdiv_int (j:=(k)+1) (by simp_all) (by lia))];rfl)
  rw[<- jvm,show((List.range _).map λk=>D.int _)=(moreF _ m).map _ from(aP ..).symm]at cf;have cc:=jem (c:=[]) (fe:=jd3) (K:=λp=>(D.int p.1,D.int p.2)) (r.cs.zip (moreF (nmsB b).length m)) none none λp w=>rfl
  have em:((r.cs.zip (moreF (nmsB b).length m)).map λp=>D.int (p.1+p.2))=(plusL r.cs (moreF (nmsB b).length m)).map .int:=by unfold plusL;rw[aP];rfl
  rw[em]at cc;have l1:((moreF (nmsB b).length m).map D.int).length<=1000:=by rw[zav];clear sg ix;lia
  have l2:((plusL r.cs (moreF (nmsB b).length m)).map D.int).length<=1000:=by rw[zav];simp_all
  unfold jda;rw[jfp];unfold jc2;rw[jah (jco 3 (by dsimp;simp only[stp,jg5,cf,ja3 l1];rfl)),jah (jco 4 (by dsimp;simp only[stp,rl1,cc,ja3 l2];rfl)),jah (jco 5 (jd8 rfl (by dsimp;simp only[stp,(fdiv_int (j:=64) (by decide) (by decide))];rfl) ix))];refine(congrArg (·.b outD) (jah (jco 6 (cats [(f2 gIx _ _,r.nm),(cS _,[58,32]),(f2 _ _ _,List.replicate t 32)] (Y:=lr4 b r m (of (plusL _ _,r.rest+7)) _ _) (kC jJp) ⟨jd8 rfl rfl (rl0 r),kC jJw,jd8 (kC joj) (by dsimp;simp only[stp,(fdiv_int (j:=256) (by decide) (by decide))];rfl) mu,trivial⟩ (by simp[flt,kwL];clear r25 hN;lia))))).trans ?_;have ml':(midL s).length<=7:=by unfold midL;simp;lia
  refine Eq.trans (jvv (cats [(fCall _ _,jb1 _ _),(vR 5,midL s),(cS "(",[40]),(fCall _ _,jb1 _ _),(cS ")",[41])] rfl ⟨(jwq n1 n10 cb (λa ha=>(hN a ha).ne) F),rfl,kC jul,og,kC jEg,trivial⟩ (by simp[flt,kwL];clear a4 F;lia))) ?_;unfold lnL rlX midL;simp only[flt,aU,cV,dP,gm]
 .refine juh (by lia) (h.sh.rn r hr) ((TxS.shown n10 hN h.ni F).pad t _) (((TxS.shown n10 hN h.ni G).paren).pad _ 0) (ju7 (jjv hN _)) (λz=>?_) (by simp;clear c25;lia) (by simp;clear a3 mu;lia) (by clear a4 ix c25;grind) ?_
  .rcases zdy.mp z with z|z
   .grind
   .rw[gm,aO]at z;rcases aM.mp z with z|z
    .cases z
    .rcases zdy.mp z with z|z
     .exact (jnb (jjv hN _ _ z)).1 rfl
     trivial
  .rw[jqs _ _ (by simp_all),show r.rest+7-7=r.rest by lia]
 .show (r.nm++([58,32]++((List.replicate t 32++(jb1 (nmsB b) (plusL r.cs (moreF (nmsB b).length m),r.rest+7)++List.replicate _ 32))++([62,61]++(List.replicate _ 32++((40::(jb1 _ _++[41]))++List.replicate 0 32)))))).length<=2000;simp
  clear hN;lia
def dPt(al:Bool)(e:Nat)(u:Aa)(q:List Nat×(Int×Int)):Option Pt:=if al=false/\q.2=(0,0)then none else some ⟨q.1,List.replicate e 32++shF u q.2,q.2⟩
theorem jpu(h:dPt al e u q=some p):p=⟨q.1,List.replicate e 32++shF u q.2,q.2⟩:=by
 unfold dPt at h;simp_all
set_option tactic.hygienic true in
theorem jBu{G:List Nat×(Int×Int)->Option Pt}(hG:∀q p,G q=some p->p.a=q.1):∀{l:List (List Nat×(Int×Int))},(l.map (·.1)).Nodup->((l.filterMap G).map (·.a)).Nodup
|[],_=>gc
|q::l,h=>by
  rw[aE,cP]at h;have ih:=jBu hG h.2;rw[eX]
  split
  .exact ih
  .rename_i p e;rw[aE,cP];refine⟨λz=>?_,ih⟩;obtain⟨p',hp,e'⟩:=zcv.mp z;obtain⟨q',hq,e2⟩:=dA.mp hp;have e3:q.1=q'.1:=by rw[<- hG _ _ e,<- hG _ _ e2];exact e'.symm
   exact h.1 (e3 ▸ List.mem_map_of_mem hq)
noncomputable def padT(t:Nat):List Pt->List Pt
|[]=>[]
|[p]=>[p]
|p::q::ps=>⟨p.a,p.x++List.replicate t 32,p.c⟩::padT t (q::ps)
theorem jqo(t:Nat):∀ps:List Pt,jai (List.replicate t 32++[44,32]) (ps.map ptL)=jai [44,32] ((padT t ps).map ptL)
|[]=>rfl
|[p]=>rfl
|[p,q]=>by show ptL p++((List.replicate t 32++[44,32])++ptL q)=(p.a++([32]++(p.x++List.replicate t 32)))++([44,32]++ptL q);unfold ptL;simp only[aU]
|p::q::r::ps=>by show ptL p++((List.replicate t 32++[44,32])++jai _ ((q::r::ps).map ptL))=(p.a++([32]++(p.x++List.replicate t 32)))++([44,32]++jai _ ((padT t (q::r::ps)).map ptL));rw[(jqo t _)];unfold ptL;simp only[aU]
theorem ju8:∀{ps:List Pt},p∈padT t ps->∃q∈ps,∃k,k<=t/\p=⟨q.a,q.x++List.replicate k 32,q.c⟩
|[],h=>by cases h
|[q],h=>⟨q,zaa,0,aY _,by cases zdx.mp h;simp⟩
|q::r::ps,h=>by
  rcases aM.mp h with rfl|h
  .grind
  .obtain⟨s,hs,k⟩:=ju8 h;exact⟨s,zaw _ hs,k⟩
theorem jEy:∀ps:List Pt,(padT t ps).map (·.a)=ps.map (·.a)
|[]=>rfl
|[p]=>rfl
|p::q::ps=>congrArg (p.a::·) (jEy _)
noncomputable def rotL{α:Type}(k:Nat)(xs:List α):List α:=xs.drop k++xs.take k
def jlo(k:Nat)(xs:List α):(rotL k xs).Perm xs:=List.perm_append_comm.trans (by simp_all)
def dPs(b:Bk)(d:Ded)(u:Aa)(al:Bool)(e t k:Nat):List Pt:=padT t (rotL k (((nmsB b).zip d.chs).filterMap (dPt al e u)))
def jth(h:p∈dPs b d u al e t k):∃q∈(nmsB b).zip d.chs,∃n,n<=t/\p=⟨q.1,List.replicate e 32++(shF u q.2++List.replicate n 32),q.2⟩:=by
 obtain⟨p1,h1,n,hn,rfl⟩:=ju8 h;obtain⟨q,hq,e1⟩:=dA.mp ((jlo _ _).mem_iff.mp h1)
 grind[jpu,List.append_assoc]
def dln(hb:BkOk 206 b)(h:DrOk b)(hd:d∈b.dds)(hu:Nm u)(al:Bool)(k:Nat)(he:e+t<=100):LnOk 2 (nmsB b) ⟨ddT d.nm u d.lo d.hi++([58,32]++chT (dPs b d u al e t k)),dedD d,d.nm⟩:=by
 have hk:=h.sh.dd d hd;have i4:=hb.i4;have nl:(nmsB b).length=b.its.length:=by unfold nmsB;rw[zav]
 have P:∀p∈dPs b d u al e t k,PtOk _ u p/\10∉p.x:=λp hp=>by obtain⟨q,hq,n,hn,rfl⟩:=jth hp;exact jPx hu hk hq e n (by clear nl hd;lia)
 have ea:((dPs b d u al e t k).map (·.a)).Perm ((((nmsB b).zip d.chs).filterMap (dPt al e u)).map (·.a)):=by unfold dPs;rw[jEy];exact(jlo _ _).map _
 have nd:=ea.nodup_iff.mpr (jBu (λq p e=>by rw[jpu e]) (by rw[List.map_fst_zip (by rw[h.dl d hd];simp)];exact h.ni));refine jug (by lia) hk.nm hu hk.lo hk.hi (λp hp=>(P p hp).1) (λp hp=>(P p hp).2) nd ?_ ?_
 .have:=ea.length_eq
  grind
 .refine jyl h.ni (h.dl d hd) nd (λp hp=>?_) (λq hq hz=>?_)
  .obtain⟨q,hq,n,_,rfl⟩:=jth hp;exact hq
  .refine ea.mem_iff.mpr (zcv.mpr ⟨⟨q.1,List.replicate e 32++shF u q.2,q.2⟩,dA.mpr ⟨q,hq,?_⟩,rfl⟩);unfold dPt
   clear P i4;grind
abbrev dl(b:Bk)(d:Ded)(m:Int)(u:Aa)(ws:LL)(x y z w:Option D):DSt:=[oN (nmsB b),some (dedD d),oI m,some (sT u),oN ws,x,y,z,w]
def jIb(xs:List α)(k:Nat)(h:k<=xs.length):cutL xs (some (k:Int)) none=xs.drop k:=by unfold cutL;rw[HT.sIx_none,HT.sIx_nat,Nat.min_eq_left h,List.take_of_length_le (by simp_all)]
def jIa(xs:List α)(k:Nat)(h:k<=xs.length):cutL xs none (some (k:Int))=xs.take k:=by grind[cutL,HT.sIx_none,HT.sIx_nat,Nat.min_eq_left]
theorem jrb(ag:Aa):∀ws:LL,(ws.map (·.length)).sum<=(jai ag ws).length
|[]=>zac _
|[w]=>zac _
|w::v::ws=>by
  have ih:=jrb ag (v::ws);show w.length+((v::ws).map _).sum<=(w++(ag++jai ag _)).length;grind
def l_k:Str.ofString "k"=St [107]:=by rfl
def l_aj:Str.ofString "abcdefghij"=St [97,98,99,100,101,102,103,104,105,106]:=by rfl
def jO0:Str.ofString " , "=St [32,44,32]:=by rfl
def jJq(hb:BkOk 206 b)(h:DrOk b)(hd:d∈b.dds):∃q:Ln,jc7 [.lst (nmD (nmsB b)),dedD d,.int m]=oK (sT (lnL 2 q))/\LnOk 2 (nmsB b) q/\q.d=dedD d/\q.a=d.nm:=by
 have n1:=(n10B hb).2;have i4:=hb.i4;have nl:(nmsB b).length=b.its.length:=by unfold nmsB;rw[zav]
 have hk:=h.sh.dd d hd;have hN:=jBl h.sh;obtain⟨a0,rest,en⟩:∃a0 rest,nmsB b=a0::rest:=by cases e:nmsB b<;>simp_all
 have Uq:∃u,Nm u/\gIx (.lst [.str (Str.ofString "n"),.str (Str.ofString "k"),.str (Str.ofString "abcdefghij"),sT a0]) (.int (m % 4))=some (sT u):=by
  have a4:=md (i:=m) (j:=4) (by decide);obtain⟨k,hk⟩:∃k:Nat,m % 4=(k:Int):=⟨(m % 4).toNat,(bE a4.1).symm⟩
  have k4:k<4:=by have:=a4.2;clear a4 i4 hd;lia
  rw[hk,ix_l,l_n,l_k,l_aj]
  match k,k4 with
  |0,_=>exact⟨_,nm_n,atI_get rfl⟩
  |1,_=>exact⟨_,jjo (by decide),atI_get rfl⟩
  |2,_=>exact⟨_,jjo (by decide),atI_get rfl⟩
  |3,_=>exact⟨_,hN a0 (by simp_all),atI_get rfl⟩
 obtain⟨u,hu,gu⟩:=Uq;have d4:=fdiv_int (i:=m) (j:=4) (by decide) (by decide);have d8:=fdiv_int (i:=m) (j:=8) (by decide) (by decide);have fq:=fdiv_int (i:=m) (j:=16) (by decide) (by decide);have bv:=fdiv_int (i:=m) (j:=128) (by decide) (by decide);have m2:=λi=>mod_int (i:=i) (j:=2) (by decide)
 have m4:=mod_int (i:=m) (j:=4) (by decide);have e2:=md (i:=m / 8) (j:=2) (by decide);have aq:=md (i:=m / 128) (j:=2) (by decide);obtain⟨e,he⟩:∃k:Nat,m / 8 % 2=(k:Int):=⟨(m / 8 % 2).toNat,(bE e2.1).symm⟩
 obtain⟨t,ht⟩:∃k:Nat,m / 128 % 2=(k:Int):=⟨(m / 128 % 2).toNat,(bE aq.1).symm⟩
 have le:e<2:=by have:=e2.2;clear e2 gu fq d4 d8 h;lia
 have lt:t<2:=by have:=aq.2;clear aq d4 bv hN h;lia
 have mu:=jkn (jBk e (zcc.mpr (by clear e2 he m2;lia)));have gs:gIx (.lst [.str (Str.ofString ", "),.str (Str.ofString " , ")]) (.int (t:Nat))=some (sT (List.replicate t 32++[44,32])):=by
  rw[ix_l,jO8,jO0]
  match t,lt with
  |0,_=>exact atI_get rfl
  |1,_=>exact atI_get rfl
 generalize ha:decide (m / 4 % 2=0)=al
 let F:List Nat×(Int×Int)->Option Aa:=λq=>(dPt al e u q).map ptL
 let ps:=((nmsB b).zip d.chs).filterMap (dPt al e u)
 have eF:((nmsB b).zip d.chs).filterMap F=ps.map ptL:=(List.map_filterMap ..).symm;obtain⟨x',y',lp⟩:=juk (g:=jbh) (tg:=gTup2 5 6) (mk:=λws x y=>dl b d m u ws x y none none) (F:=F) (λq ps x y=>rfl) ((nmsB b).zip d.chs) [] none none (λq hq ws hw=>by
  obtain⟨h1,h2⟩:=hk.ck.at' hq;have nl:=h1.le;have sl:=jBw hu h2;have t0:=jPn (i:=6) (c:=q.2) (Y:=dl b d m u ws (some (sT q.1)) (some (chD q.2)) none none) rfl;have t1:t2 gEq (f2 gMod (f2 gFdiv (vR 2) (cI 4)) (cI 2)) (cI 0) (dl b d m u ws (some (sT q.1)) (some (chD q.2)) none none)=oK al:=by rw[<- ha];simp[d4,m2];rfl
  have tt:DL.tOr (t2 gNe (vR 6) (fL gTupD (fCons (cI 0) (fCons (cI 0) fNil)))) (t2 gEq (f2 gMod (f2 gFdiv (vR 2) (cI 4)) (cI 2)) (cI 0)) (dl b d m u ws (some (sT q.1)) (some (chD q.2)) none none)=some (.ok !(decide (al=false/\q.2=(0,0)))):=by
   unfold DL.tOr;rw[t0,M.b_ok,t1]
   by_cases hz:q.2=(0,0)<;>cases al<;>simp[hz]<;>rfl
  show jbh _=nX (dl b d m u (addO ws ((dPt al e u q).map ptL)) _ _ _ _);unfold jbh dPt
  by_cases hz:al=false/\q.2=(0,0)
  .rw[aD hz];exact jw4 (by clear e2 t1;grind)
  .rw[aJ hz,w_if (by rw[tt,aN hz]),aD (by decide)];exact jHz (i:=4) (cats [(cS " ",[32]),(f2 gMul (cS " ") (f2 gMod (f2 gFdiv (vR 2) (cI 8)) (cI 2)),List.replicate e 32),(_,shF u q.2)] (fa:=vR 5) (a:=q.1) rfl ⟨kC joj,by dsimp;simp only[stp,d8,m2,he,joj,mu];rfl,jCx (fu:=vR 3) (fc:=vR 6) (jO7 hu h2) rfl rfl,trivial⟩ (by simp[flt];clear e2 t1 he mu i4;lia)) rfl (by lia)) (by clear he hb;grind)
 rw[dP,eF]at lp;have pl:ps.length<=5:=zdz (List.length_filterMap_le _ _) (by clear gs m2 hN;grind);have k1:=md (i:=m / 16) (j:=ps.length+1) (by simp_all);obtain⟨k,hk1⟩:∃k:Nat,m / 16 % ((ps.length+1:Nat):Int)=(k:Int):=⟨(m / 16 % ((ps.length+1:Nat):Int)).toNat,(bE k1.1).symm⟩
 have lk:k<=ps.length:=by have:=k1.2;clear k1 mu;lia
 have mk:=mod_int (i:=m / 16) (j:=((ps.length+1:Nat):Int)) (by simp_all);rw[hk1]at mk;have L:=dln hb h hd hu al k (e:=e) (t:=t) (by clear e2 aq lp ha;lia);have ec:chT (dPs b d u al e t k)=(jai (List.replicate t 32++[44,32]) ((rotL k ps).map ptL)++if(rotL k ps).map ptL=[]then [45]else []):=by
  unfold chT;rw[jqo]
  by_cases z:rotL k ps=[]
  .have:dPs b d u al e t k=[]:=congrArg (padT t) z;rw[aD this,aD (by rw[z];rfl),z];rfl
  .have:dPs b d u al e t k≠[]:=λy=>z (by have:=congrArg (List.map (·.a)) y;unfold dPs at this;rw[jEy]at this;exact dY.mp this)
   rw[aJ this,aJ (λy=>z (dY.mp y)),aO];rfl
 have ll:(ddT d.nm u d.lo d.hi++([58,32]++chT (dPs b d u al e t k))).length<=45000:=L.len;rw[ec]at ll L;refine⟨⟨ddT d.nm u d.lo d.hi++([58,32]++(jai (List.replicate t 32++[44,32]) ((rotL k ps).map ptL)++if(rotL k ps).map ptL=[]then [45]else [])),dedD d,d.nm⟩,?_,L,rfl,rfl⟩;generalize hw:(rotL k ps).map ptL=ws at ll;have lw:ws.length<=5:=by rw[<- hw,zav,(jlo k ps).length_eq];exact pl
 have lh:(ddT d.nm u d.lo d.hi).length+(jai (List.replicate t 32++[44,32]) ws).length<=45000:=by simp at ll;clear L aq;lia
 have jn:gJoin (St (List.replicate t 32++[44,32])) (.lst (nmD ws))=some (sT (jai (List.replicate t 32++[44,32]) ws)):=jqb (by
  have:=jrb (List.replicate t 32++[44,32]) ws;have b':=cX (List.replicate t 32++[44,32]).length lw
  clear ll aq ht m4 n1 pl;grind)
 have ln:(ps.map ptL).length=ps.length:=zav ..;have sl:f2 gCat (fSl (vR 4) (oSome (vR 7)) oNone) (fSl (vR 4) oNone (oSome (vR 7))) (dl b d m u (ps.map ptL) x' y' (oI (k:Nat)) none)=oK (.lst (nmD ws)):=by
  have nd:(nmD (ps.map ptL)).length=ps.length:=by rw[jg5,ln]
  refine jd8 (jsc (x:=.lst (nmD (ps.map ptL))) (lo:=some (k:Int)) (hi:=none) rfl rfl rfl (congrArg (λz=>some (D.lst z)) (jIb _ k (by rw[nd];exact lk)))) (jsc (x:=.lst (nmD (ps.map ptL))) (lo:=none) (hi:=some (k:Int)) rfl rfl rfl (congrArg (λz=>some (D.lst z)) (jIa _ k (by rw[nd];exact lk)))) ((js5 (by clear k1 e2 hk1 i4 n1 hd;grind[List.length_drop,List.length_take,sizeLine_eq])).trans ?_);rw[<- hw];unfold nmD rotL;simp only[bA,List.map_drop,List.map_take]
 have dw:=cats [(f2 gIx (vR 1) (cI 0),d.nm),(cS " ",[32]),(vR 3,u),(cS " ",[32]),(fL kStr (fCons (f2 gIx (vR 1) (cI 1)) fNil),numT d.lo),(cS " ",[32]),(fL kStr (fCons (f2 gIx (vR 1) (cI 2)) fNil),numT d.hi),(cS ": ",[58,32])] (a:=kwL 2++[32]) (Y:=dl b d m u ws x' y' (oI (k:Nat)) none) (kC jJn) ⟨jd8 (x:=dedD d) (y:=.int 0) rfl rfl rfl,kC joj,rfl,kC joj,jkf (jd8 (x:=dedD d) (y:=.int 1) rfl rfl rfl) (jpe hk.lo),kC joj,jkf (jd8 (x:=dedD d) (y:=.int 2) rfl rfl rfl) (jpe hk.hi),kC jJw,trivial⟩ (by rw[jxr]at lh;simp[flt,kwL]at lh |-;clear ll lp m2;lia);rw[show kwL 2++[32]++flt _=kwL 2++([32]++(ddT d.nm u d.lo d.hi++[58,32])) by rw[jxr];simp only[flt,aU]]at dw;have lj:(kwL 2++([32]++(ddT d.nm u d.lo d.hi++[58,32]))).length+(jai (List.replicate t 32++[44,32]) ws).length<=80000:=by simp[kwL];omega
 unfold jc7;rw[jfp];show(jbv [oN (nmsB b),some (dedD d),oI m,none,none,none,none,none,none]).b outD=_;unfold jbv;rw[jah (jco 3 (jd8 (x:=.lst [.str (Str.ofString "n"),.str (Str.ofString "k"),.str (Str.ofString "abcdefghij"),sT a0]) (y:=.int (m % 4)) (by dsimp;simp only[stp,en,nmD];rfl) (by dsimp;(repeat (simp only[m4];try dsimp));rfl) gu))];rw[jah (Y':=dl b d m u [] none none none none) rfl];rw[jah (show gFor _ _ _ _=nX _ from by rw[jAq (ds:=((nmsB b).zip d.chs).map chQ) (by dsimp;simp only[stp,show gIx (dedD d) (.int 3)=some (.tup (d.chs.map chD))from rfl,jH6];rfl)];exact lp)]
 rw[jah (Y':=dl b d m u (ps.map ptL) x' y' (oI (k:Nat)) none) (jco 7 (jd8 (x:=.int (m / 16)) (y:=.int ((ps.length+1:Nat):Int)) (by dsimp;simp only[stp,fq];rfl) (by show some (Except.ok (D.int ((nmD (ps.map ptL)).length+1:Int)))=_;rw[jg5,ln];rfl) mk))]
 rw[jah (Y':=dl b d m u ws x' y' (oI (k:Nat)) none) (jco 4 sl)];refine(congrArg (·.b outD) (jah (jco 8 dw))).trans ?_;have Jq:f2 gCat (vR 8) (fSm gJoin (f2 gIx (fL gLstD (fCons (fC (.str ", ")) (fCons (fC (.str " , ")) fNil))) (f2 gMod (f2 gFdiv (vR 2) (cI 128)) (cI 2))) (vR 4)) (dl b d m u ws x' y' (oI (k:Nat)) (some (sT (kwL 2++([32]++(ddT d.nm u d.lo d.hi++[58,32]))))))=_:=jA2 rfl (jnk (jd8 (y:=.int (t:Nat)) rfl (by dsimp;simp only[stp,bv,m2,ht];rfl) gs) rfl jn) (by lia);refine(congrArg (·.b outD) (jbq (jHe (i:=4) (ws:=ws) Jq rfl (by clear Jq;grind)))).trans ?_;show some (Except.ok (D.str (St _)))=_
 clear L ll ec aq;grind[lnL,List.append_assoc]
structure Lns{α:Type}(p:Nat)(aa:LL)(K:α->D)(nm:α->Aa)(xs:List α)(qs:List Ln):Prop where
 ok:∀q∈qs,LnOk p aa q
 d:qs.map (·.d)=xs.map K
 a:qs.map (·.a)=xs.map nm
theorem jnv{α:Type}{p:Nat}{aa:LL}{K:α->D}{nm:α->Aa}{fe:DSt->M D}{c:DSt}:∀(xs:List α)(k:Nat)(x y:Option D),(∀a∈xs,∀k:Nat,k<=100->∃q:Ln,fe (oI (k:Nat)::some (K a)::c)=oK (sT (lnL p q))/\LnOk p aa q/\q.d=K a/\q.a=nm a)->k+xs.length<=100 ->
  ∃qs:List Ln,compD (gTup2 0 1) tYes fe (enumD (k:Int) (xs.map K)) (x::y::c)=some (nmD (qs.map (lnL p)))/\Lns p aa K nm xs qs
|[],_,_,_,_,_=>⟨[],rfl,⟨(λq hq=>nomatch hq),rfl,rfl⟩⟩
|a::xs,k,x,y,h,hl=>by
  rw[aI]at hl;obtain⟨q,e,h1,h2,h3⟩:=h a zaa k (by lia);obtain⟨qs,e2,g⟩:=jnv xs (k+1) _ _ (λz hz=>h z (zaw _ hz)) (by lia);refine⟨q::qs,?_,⟨λz hz=>?_,?_,?_⟩⟩
  .rw[aE];unfold enumD compD;rw[show gTup2 0 1 _ _=some (oI _::some _::c)from rfl];dsimp only [M.p];rw[e,show((k:Int)+1)=((k+1:Nat))from rfl,e2];rfl
  .rcases aM.mp hz with rfl|hz
   .exact h1
   .exact g.ok z hz
  .rw[aE,aE,g.d,h2]
  .rw[aE,aE,g.a,h3]
def Lns.len(h:Lns p aa K nm xs qs):qs.length=xs.length:=by
 have:=congrArg List.length h.d;simp_all
def jyw(ns:Ae)(hb:BkOk 206 b)(h:DrOk b):∃lr ld,jc9 [scr ns,bkD b]=oK (sT (jai [10] (jav (liB b) lr ld)))/\LsB b (liB b) lr ld/\(jai [10] (jav (liB b) lr ld)).length<=1000000:=by
 have i4:=hb.i4;have r5:=hb.r5;have d6:=hb.d6;have nl:(nmsB b).length=b.its.length:=by unfold nmsB;rw[zav]
 obtain⟨lr,e3,h3⟩:=jnv (fe:=jbi) (c:=[some (scr ns),oN (nmsB b)]) _ 0 _ _ (λr hr k hk=>by obtain⟨q,h1,h2,h3,h4,_⟩:=jJu hb h hr (m:=drF ns (230+k));refine⟨q,?_,h2,h3,h4⟩;unfold jbi;dsimp;simp only[stp,jfv (k:=230+(k)) (by lia) (by lia),h1]) (by lia)
 obtain⟨ld,e4,h4⟩:=jnv (fe:=jbj) (c:=[some (scr ns),oN (nmsB b)]) _ 0 _ _ (λd hd k hk=>by obtain⟨q,h1,h2⟩:=jJq hb h hd (m:=drF ns (240+k));refine⟨q,?_,h2⟩;unfold jbj;dsimp;simp only[stp,jfv (k:=240+(k)) (by lia) (by lia),h1]) (by lia)
 have lr5:=h3.len;have ld6:=h4.len;have li:(liB b).length=b.its.length:=by unfold liB;rw[zav]
 have L:LsB b (liB b) lr ld:=by refine⟨⟨by grind[jik,jyn],by rw[jik];exact h3.ok,by rw[jik];exact h4.ok,by rw[jik];exact h.ni,by rw[h3.a];exact h.nr,by rw[h4.a];exact h.nd,by lia,by lia,by lia⟩,by unfold liB;rw[aP];rfl,h3.d,h4.d⟩
 have ll:∀l∈jav _ lr ld,l.length<=45010:=λl hl=>by
  unfold jav at hl;simp only[zdy,zcv]at hl;rcases hl with ⟨q,hq,rfl⟩|⟨q,hq,rfl⟩|⟨q,hq,rfl⟩
  .have:=(L.ok.i q hq).len;unfold lnL;simp[kwL];lia
  .have:=(L.ok.r q hq).len;unfold lnL;simp[kwL];lia
  .have:=(L.ok.d q hq).len;unfold lnL;simp[kwL];lia
 have ln:(jav (liB b) lr ld).length<=18:=by unfold jav;simp;lia
 have jn:=jqb (ag:=[10]) (ps:=jav (liB b) lr ld) (by
  have js:=jrc ll
  grind)
 refine⟨lr,ld,?_,L,zdz (jmx ll) (zdz (cX _ ln) (by decide))⟩;have c1:=ja7 (c:=[]) (fe:=jd1) (K:=itD) b.its none λp hp=>rfl
 have c2:=jem (c:=[]) (fe:=jd2) (K:=λp=>(D.str _,D.int p.2)) (F:=λp=>sT (itL p)) _ none none λp hp=>by have nl:=(h.sh.nm p hp).le;have n1:=jgp (h.sh.it p hp);exact cats [(vR 0,p.1),(cS " ",[32]),(fL _ (fCons (vR 1) _),numT p.2)] (kC jJo) ⟨rfl,kC joj,jkf rfl (jpe (h.sh.it p hp)),trivial⟩ (by simp[flt,kwL];lia)
 have e1:(b.its.map λp=>D.str (St p.1))=nmD (nmsB b):=by unfold nmD nmsB;rw[aP];rfl
 have e2:(b.its.map λp=>D.str (St (itL p)))=nmD ((liB b).map (lnL 0)):=by unfold nmD liB;rw[aP,aP];rfl
 rw[e1]at c1;rw[e2]at c2;have l1:(nmD (nmsB b)).length<=10:=by rw[jg5];lia
 have l2:(nmD ((liB b).map (lnL 0))).length<=10:=by rw[jg5,zav];lia
 have l3:(nmD (lr.map (lnL 1))).length<=10:=by rw[jg5,zav];lia
 have l4:(nmD (ld.map (lnL 2))).length<=10:=by rw[jg5,zav];lia
 unfold jc9;rw[jde];unfold jc1;rw[jah (jco 2 (by dsimp;simp only[stp,c1,ja3 (zdz l1 (by decide))];rfl)),jah (Y':=[some _,some _,oN _,oN _]) (jco 3 (by show(M.o ((compD _ _ _ (b.its.map λp=>D.tup _) [none,none]).bind _))=_;rw[c2,aW,ja3 (zdz l2 (by decide))];rfl))];have x3:fComp 2 [("_law_script",0),("_law_names",2)] (iArgs enumArgs (fCons (f2 gIx (vR 1) (cI 1)) fNil)) (gTup2 0 1) tYes jbi [some (scr ns),some (bkD b),oN (nmsB b),oN ((liB b).map (lnL 0))]=oK (.lst (nmD (lr.map (lnL 1)))):=by
  dsimp;simp only[stp]
  show(M.o ((compD _ _ _ (enumD ((0:Nat)) _) _).bind _))=_;rw[e3,aW,ja3 (zdz l3 (by decide))];rfl
 rw[jah (jBd x3 rfl (by lia))];have x4:fComp 2 [("_law_script",0),("_law_names",2)] (iArgs enumArgs (fCons (f2 gIx (vR 1) (cI 2)) fNil)) (gTup2 0 1) tYes jbj [some (scr ns),some (bkD b),oN (nmsB b),oL (nmD ((liB b).map (lnL 0))++nmD (lr.map (lnL 1)))]=oK (.lst (nmD (ld.map (lnL 2)))):=by
  dsimp;simp only[stp]
  show(M.o ((compD _ _ _ (enumD ((0:Nat)) _) _).bind _))=_;rw[e4,aW,ja3 (zdz l4 (by decide))];rfl
 refine(congrArg (·.b outD) (jah (jBd (xs:=nmD _++nmD _) x4 rfl (by grind)))).trans ?_;refine(congrArg (·.b outD) (jbq (jnk (kC jPa) ?_ jn))).trans rfl;rw[juw,juw,aU];rfl
section
inductive Pl:Nat->D->Prop
| int (n:Nat) (i:Int):Pl (n+1) (.int i)
| str (n:Nat) (s:Str):Pl (n+1) (.str s)
| tup {n:Nat}{ds:List D} (h:∀d∈ds,Pl n d):Pl (n+1) (.tup ds)
def pl_d(h:Pl n d):okD d=true/\depD d<=n:=by
 induction h with
 |int n i=>exact⟨rfl,aY _⟩
 |str n s=>exact⟨rfl,aY _⟩
 |@tup n ds h ih=>
  have a:=jil (f:=id) λd hd=>(ih d hd).1
  have c:=jgy (f:=id) λd hd=>(ih d hd).2
  rw[List.map_id]at a c;exact⟨a,Nat.succ_le_succ c⟩
def pl0(ds:List D):Prop:=∀d∈ds,Pl 4 d
def pl_b(b:Bk):pl0 (b.its.map itD)/\pl0 (b.rls.map rulD)/\pl0 (b.dds.map dedD):=by
 refine⟨λd hd=>?_,λd hd=>?_,λd hd=>?_⟩<;>obtain⟨x,_,rfl⟩:=zcv.mp hd<;>refine .tup λy hy=>?_<;>simp at hy
 .rcases hy with rfl|rfl
  .exact .str ..
  .exact .int ..
 .rcases hy with rfl|rfl|rfl
  .exact .str ..
  .refine .tup λz hz=>?_
   obtain⟨w,_,rfl⟩:=zcv.mp hz;exact .int ..
  .exact .int ..
 .rcases hy with rfl|rfl|rfl|rfl
  .exact .str ..
  .exact .int ..
  .exact .int ..
  .refine .tup λz hz=>?_
   obtain⟨w,_,rfl⟩:=zcv.mp hz;refine .tup λy hy=>?_
   simp at hy;rcases hy with rfl|rfl<;>exact .int ..
def bk_d(b:Bk):okD (bkD b)=true/\depD (bkD b)<=20:=by
 have P:∀ds,pl0 ds->okDs ds=true/\depDs ds<=4:=λds h=>by
  have a:=jil λd hd=>(pl_d (h d hd)).1
  have c:=jgy λd hd=>(pl_d (h d hd)).2;simp_all
 obtain⟨h1,h2,h3⟩:=pl_b b;have a:=P _ h1;have c:=P _ h2;have d:=P _ h3;show(okDs _&&(okDs _&&(okDs _&&true)))=true/\max (depDs _+1) (max (depDs _+1) (max (depDs _+1) 0))+1<=20;rw[a.1,c.1,d.1];exact⟨rfl,by lia⟩
def jOp(b:Bk):gEq (bkD b) (bkD b)=some (.bl true):=by obtain⟨h1,h2⟩:=bk_d b;unfold gEq;rw[aD (by simp_all),jk4 _ h1]
variable {r:Rul}{st:Ae}{b:Bk}{m m2:Int}{its:List (List Nat×Int)}
def jm6(hc:∀c∈r.cs,Bt 100 c)(hs:∀s∈st,Bt 100 s)(hl:r.cs.length<=5):jba [rulD r,.lst (st.map .int)]=oK (.int (spF r st)):=by
 have ln:((r.cs.zip st).map λp=>D.int (p.1*p.2)).length<=1000:=by rw[zav,cG];clear hs;lia
 unfold jba;rw[jde];unfold jgb;rw[jbq (by dsimp;simp only[stp,rl1,(jIm (fe:=jh1) (λa b=>rfl) hc hs),ja3 ln,jwp];rfl)];rfl
def jJv(hk:k<=5)(m:Int):∃c:Bool,t2 gEq (f2 gMod (f2 gFdiv (vR 1) (f2 gIx (fL gLstD (fCons (fC (.int 1)) (fCons (fC (.int 2)) (fCons (fC (.int 4)) (fCons (fC (.int 8)) (fCons (fC (.int 16)) (fCons (fC (.int 32)) fNil))))))) (vR 4))) (fC (.int 2))) (fC (.int 1)) (some bk::oI m::x::y::oI (k:Nat)::s)=oK c:=by
 have go:∀d:Int,0<d/\d<100->f2 gIx (fL gLstD (fCons (fC (.int 1)) (fCons (fC (.int 2)) (fCons (fC (.int 4)) (fCons (fC (.int 8)) (fCons (fC (.int 16)) (fCons (fC (.int 32)) fNil))))))) (vR 4) (some bk::oI m::x::y::oI (k)::s)=oK _->∃c:Bool,t2 gEq (f2 _ _ _) (fC (.int 1)) _=oK c:=λd hd e=>by refine⟨m / d % 2==1,?_⟩;unfold t2;rw[(jd8 (jd8 (fa:=vR 1) rfl e (fdiv_int hd.1 (Int.lt_trans hd.2 (by decide)))) (fb:=fC (.int 2)) rfl (mod_int (by decide))),M.b_ok];rfl
 obtain rfl|rfl|rfl|rfl|rfl|rfl:k=0\/k=1\/k=2\/k=3\/k=4\/k=5:=by lia
 .exact go 1 (by decide) rfl
 .exact go 2 (by decide) rfl
 .exact go 4 (by decide) rfl
 .exact go 8 (by decide) rfl
 .exact go 16 (by decide) rfl
 .exact go 32 (by decide) rfl
theorem jm1(hi:its.length<=5)(hb:∀p∈its,Bt 100 p.2)(bk:D):∀(rs acc:List Rul)(j:Nat)(x y z:Option D),j+rs.length<=6->(∀i r,rs[i]?=some r->RulOk its m2 206 (j+i) r)->(∀i r,acc[i]?=some r->RulOk its m2 206 i r)->acc.length=j ->
  ∃(az:List Rul) (x' y' z':Option D),forD jec (gTup2 4 5) (enumD (j:Int) (rs.map rulD)) [some bk,oI m,oL (acc.map rulD),oL ((its.map (·.2)).map .int),x,y,z]=nX [some bk,oI m,oL (az.map rulD),oL ((its.map (·.2)).map .int),x',y',z']/\az.length=j+rs.length/\∀i r,az[i]?=some r->RulOk its m2 206 i r
|[],acc,j,x,y,z,_,_,h,hl=>⟨acc,x,y,z,rfl,hl,h⟩
|r::rs,acc,j,x,y,z,hj,hr,h,hl=>by
  rw[aI]at hj;have R:=hr 0 r rfl;obtain⟨c,hc⟩:=jJv (k:=j) (by grind) m
  let r':Rul:=⟨r.nm,r.cs,if c=true then r.rest-spF r (its.map (·.2))-1-m / 64 % 3 else r.rest⟩
  have av:RulOk its m2 206 j r':=by
   have dn:=R.dn;have rn:r'.rest.natAbs<10^25:=by
    show(if c=true then _ else _:Int).natAbs<_
    split
    .unfold spF;omega
    .exact R.rn
   exact⟨R.nm,R.len,R.bt,bC rn (by simp_all),R.cn,rn,R.dn⟩
  obtain⟨az,x',y',z',e,l',h'⟩:=jm1 hi hb bk rs (acc++[r']) (j+1) _ _ _ (by lia) (λi q hq=>by have:=hr (i+1) q hq;grind) (λi q hq=>by
   by_cases ay:i<acc.length
   .simp_all [aS]
   .rw[aL (fZ ay)]at hq;have:i-acc.length=0:=by have:=(zbb.mp hq).1;simp at this;omega
    rw[this]at hq;cases hq
    grind) (by simp_all)
  refine⟨_,x',y',z',?_,by grind,h'⟩;rw[aE];unfold enumD;rw[jih rfl ?_]
  .exact e
  .have s2:gIf (t2 gEq (f2 gMod (f2 gFdiv (vR 1) (f2 gIx (fL gLstD (fCons (fC (.int 1)) (fCons (fC (.int 2)) (fCons (fC (.int 4)) (fCons (fC (.int 8)) (fCons (fC (.int 16)) (fCons (fC (.int 32)) fNil))))))) (vR 4))) (fC (.int 2))) (fC (.int 1))) (gSet 6 (f2 gSub (f2 gSub (f2 gSub (vR 6) (fCall jba (fCons (vR 5) (fCons (vR 3) fNil)))) (fC (.int 1))) (f2 gMod (f2 gFdiv (vR 1) (fC (.int 64))) (fC (.int 3))))) gNx [some bk,oI m,oL (acc.map rulD),oL ((its.map (·.2)).map .int),oI (j),some (rulD r),oI r.rest]=nX [some bk,oI m,oL (acc.map rulD),oL ((its.map (·.2)).map .int),oI (j),some (rulD r),oI r'.rest]:=by
    rw[w_if hc]
    cases c with
    |false=>rfl
    |true=>rw[aD rfl,jco 6 (by dsimp;simp only[stp,(jm6 R.bt (λs hs=>by obtain⟨p,hp,rfl⟩:=zcv.mp hs;exact hb p hp) (by rw[R.len];exact hi)),(fdiv_int (j:=64) (by decide) (by decide))];rfl)];rfl
   refine(jah s2).trans ?_;have:=jpf 2 (fa:=fL gTupD (fCons (f2 gIx (vR 5) (fC (.int 0))) (fCons (f2 gIx (vR 5) (fC (.int 1))) (fCons (vR 6) fNil)))) (Y:=[some bk,oI m,oL (acc.map rulD),oL ((its.map (·.2)).map .int),oI (j),some (rulD r),oI r'.rest]) (by rfl) rfl (by clear s2 h';grind);rw[this,bA];rfl
def jD9{k:Nat}(hb:BkOk 206 b)(m:Int):∃rls:List Rul,jdn [bkD b,.int m]=oK (bkD ⟨b.its,rls,b.dds⟩)/\rls.length=b.rls.length/\BkOk 206 ⟨b.its,rls,b.dds⟩:=by
 obtain⟨m2,h2⟩:=hb.rl;have r5:=hb.r5;obtain⟨rls,x,y,z,e,l,h⟩:=jm1 hb.i4 hb.st _ b.rls [] 0 _ _ _ (by simp_all) (λi r hr=>by rw[dG];exact h2 i r hr) (λi r hr=>by cases hr) rfl;refine⟨rls,?_,by simp_all,hb.i1,hb.i4,by simp_all,hb.d6,hb.st,hb.sn,hb.im,⟨m2,h⟩,hb.dd⟩;unfold jdn;rw[jde];unfold jdm;rw[jah (jco 2 rfl),jah (Y':=[some _,oI m,oL [],oL _,none,none,none]) (by rw[jco 3 (by dsimp;simp only[stp,(jgs b (fe:=jei) λa=>rfl),ja3 (jhy hb)];rfl)];rfl),jah (by exact e),jbq rfl];rfl
end
end MyLaw
namespace MyLaw
section
open L2 SI
section
variable {A A':Sto}{ns:Ae}{b:Bk}{q:D->Sto->Prop}{Y:DSt}{m:Int}{i:Nat}
abbrev S0(ns:Ae)(A:Sto):Prop:=A[0]?=some (.fro (ns.map .int))
def jFx(h:S0 ns A):Rp [] A (.obj 0) (scr ns):=.lst ni (by rw[h];rfl) jqw (.inl rfl)
def jBs(h:S0 ns A)(e:A[i]?=some (.lst ds)):S0 ns (A.set i o):=by grind
def jts{p:Int}(h:S0 ns A)(hd:Y[0]?=some (some (.obj 0)))(h0:0<=p)(hp:p<=1000)(c:∀A1,A<+:A1->q (.int (mixF (atF ns 0) p)) A1):Ev (sL jep (jar (sL jgz (jar (sVar 0) (jar (sC (.int 0)) sNil))) (jar (sC (.int p)) sNil)) Y) A q:=by
 refine ev_l (jaa (ev_l (jaa (jab hd (jaa (ev_c (jac (jau jsb lt0W (.cons (jFx h) (.cons .int .nil)) (w_at (by decide) (by decide)) λd A1 l1 r1=>?_))))))));cases r1;refine jaa (ev_c (jac (jau jo7 lt0W (.cons .int (.cons .int .nil)) (jHi h0 hp) λd A2 l2 r2=>?_)));cases r2;grind
def jp1{x y:Int}(h:∀A',A<+:A'->q (.int (x+y)) A'):Ev (gCatS (.int x) (.int y)) A q:=
 jI2 jou lt0W .int .int rfl λd A' l r=>by cases r;exact h A' l
def jf0{x y:Int}(hy:0<y)(h:q (.int (x % y)) A):Ev (lO DL.gMod (.int x) (.int y)) A q:=jdl jcq jcq (DL.mod_int hy) rfl h
def jk6{x y:Int}(hy:0<y)(hz:y<2^200)(h:q (.int (x / y)) A):Ev (lO DL.gFdiv (.int x) (.int y)) A q:=jdl jcq jcq (DL.fdiv_int hy hz) rfl h
def jml{x y:Int}{qb:Bool->Sto->Prop}(h:qb (x==y) A):Ev (lO DL.gEq (.int x) (.int y)) A λd A'=>∃c,d=.bl c/\qb c A':=jdl jcq jcq (eq_i x y) rfl ⟨_,rfl,h⟩
def jIy{x y:Int}{qb:Bool->Sto->Prop}(h:qb (decide (x<y)) A):Ev (lO DL.gLt (.int x) (.int y)) A λd A'=>∃c,d=.bl c/\qb c A':=jdl jcq jcq rfl rfl ⟨_,rfl,h⟩
def jH9(h:S0 ns A):Ev (jeo [.obj 0]) A λd A'=>∃(i:Nat) (a b c:Nat),d=.obj i/\A'[i]?=some (.lst [.int (a:Nat),.int (b:Nat),.int (c:Nat)])/\((1<=a/\a<=4)/\(1<=b/\b<=5)/\(1<=c/\c<=6))/\A<+:A':=by
 rw[jk5];refine jdf rfl (jag (jax (jts h rfl (by decide) (by decide) λA1 l1=>?_)));generalize mixF _ 1=m;obtain⟨a,ha⟩:=bU (md (j:=4) (by decide)).1;obtain⟨b,hb⟩:=bU (md (j:=5) (by decide)).1;obtain⟨c,hc⟩:=bU (md (j:=6) (by decide)).1;have ha':m % 4=(a):=ha;have dz:m / 4 % 5=(b):=hb;have hc':m / 20 % 6=(c):=hc;refine jfr (ev_l (jaa (ev_2 (ev_c (ev_2 (jab rfl (ev_c (jf0 (by decide) (jp1 λA2 l2=>jaa (ev_2 (ev_c (ev_2 (ev_2 (jab rfl (ev_c (jk6 (by decide) (by decide) (ev_c (jf0 (by decide) (jp1 λA3 l3=>jaa (ev_2 (ev_c (ev_2 (ev_2 (jab rfl (ev_c (jk6 (by decide) (by decide) (ev_c (jf0 (by decide) (jp1 λA4 l4=>jac (jcg (by grind[sizeLine]) ?_))))))))))))))))))))))))))))));refine⟨_,1+a,1+b,1+c,rfl,?_,by clear hb;lia,(l1.trans (l2.trans (l3.trans l4))).trans (aA ..)⟩;simp_all
end
section
variable {A A':Sto}{ns:Ae}{b:Bk}{m w:Int}{i j:Nat}{db:D}{qo:Out->Sto->Prop}
structure Cw(w:Int)(a b c:Nat):Prop where
 a:(1<=a/\a<=5)/\(a<=4↔w≠0)
 b:(1<=b/\b<=6)/\(b<=5↔w≠1)
 c:(1<=c/\c<=7)/\(c<=6↔w≠2)
def jFn{a b c:Nat}{x4 x5 x6:Option D}(h:S0 ns A)(e:A[i]?=some (.lst [.int (a:Nat),.int (b:Nat),.int (c:Nat)]))(hz:(1<=a/\a<=4)/\(1<=b/\b<=5)/\(1<=c/\c<=6))(w0:0<=w)(k:∀A' (a b c:Nat),S0 ns A'->A'[i]?=some (.lst [.int (a:Nat),.int (b:Nat),.int (c:Nat)])->Cw w a b c->qo (.nx [some (.obj 0),some (.int m),some (.obj i),some (.int w),x4,x5,x6]) A'):
  Ev (oIf (sT2 (lO DL.gLt) (sVar 3) (sC (.int 3))) (jkb (sVar 2) (sVar 3) (s2 gSub (sL (gNew .lst) (jar (sC (.int 5)) (jar (sC (.int 6)) (jar (sC (.int 7)) sNil)))) (sVar 3))) oNx [some (.obj 0),some (.int m),some (.obj i),some (.int w),x4,x5,x6]) A qo:=by
 refine jcm (jdu (jab rfl (ev_c (jIy ?_))))
 by_cases hw:w<3
 .have l1:=aA A [SO.lst [.int 5,.int 6,.int 7]];have go:∀(n:Nat)(v:Int)(a' b' c':Nat),w=(n)->n<=2->([D.int 5,.int 6,.int 7])[n]?=some (.int v)->([D.int (a),.int (b),.int (c)]).set n (.int v)=[.int (a'),.int (b'),.int (c')]->Cw w a' b' c'->Ev (jkb (sVar 2) (sVar 3) (s2 gSub (sL (gNew .lst) (jar (sC (.int 5)) (jar (sC (.int 6)) (jar (sC (.int 7)) sNil)))) (sVar 3)) [some (.obj 0),some (.int m),some (.obj i),some (.int w),x4,x5,x6]) A qo:=λn v a' b' c' hn h2 hv hs hc=>by
   subst hn
   have hx:ixN 3 (n)=some n:=match n,h2 with
    |0,_=>rfl
    |1,_=>rfl
    |2,_=>rfl
   refine jBc (ev_2 (ev_l (jaa (ev_c (jaa (ev_c (jaa (ev_c (jac (jcg (by decide) (jab rfl (⟨.int v,A++[SO.lst [.int 5,.int 6,.int 7]],?_,jab rfl (jab rfl ⟨_,?_,k _ a' b' c' (jBs (jaf l1 h) (jaf l1 e)) (zcz (zbb.mp (jaf l1 e)).1) hc⟩)⟩))))))))))))
   .show (sqD _ _).bind _=_;have:sqD (A++[SO.lst [.int 5,.int 6,.int 7]]) (.obj A.length)=some (true,[.int 5,.int 6,.int 7]):=by show((A++[SO.lst _])[A.length]?).bind sqO=_;rw[aL (zac _),cF];rfl
    clear l1 hw;grind[DL.atI_get]
   .unfold putI
    grind
  have:w=0\/w=1\/w=2:=by lia
  rcases this with rfl|rfl|rfl
  .exact go 0 5 5 b c rfl (by decide) rfl rfl ⟨by decide,by clear go k;lia,by clear go l1;lia⟩
  .exact go 1 6 a 6 c rfl (by decide) rfl rfl ⟨by lia,by decide,by lia⟩
  .exact go 2 7 a b 7 rfl (by decide) rfl rfl ⟨by lia,by clear k e;lia,by decide⟩
 .rw[aJ (by simp_all)];exact jhh (k A a b c h e ⟨by grind,by lia,by lia⟩)
structure BI(A:Sto)(db:D)(b:Bk)(i2:Nat)(ds:List D):Prop where
 ex:∃ib i0 i1,db=.obj ib/\A[ib]?=some (.tup [.obj i0,.obj i1,.obj i2])/\Rp [] A (.obj i0) (.lst (b.its.map itD))/\Rp [] A (.obj i1) (.lst (b.rls.map rulD))/\i0≠i2/\i1≠i2
 l:A[i2]?=some (.lst ds)
 r:Rps [] A ds (b.dds.map dedD)
noncomputable def lenT:PD->Nat
|.tup xs=>xs.length
|_=>0
def jOa(h:S0 ns A)(r:Rp [] A db (bkD b))(hd:1<=b.dds.length):∃i2 ds,BI A db b i2 ds:=by
 obtain⟨d,dds,ed⟩:∃d dds,b.dds=d::dds:=by cases e:b.dds<;>simp_all
 cases r with|tup _ et rt =>
 cases rt with|cons r0 rt =>
 cases rt with|cons r1 rt =>
 cases rt with|cons r2 rt =>
 cases rt;have r0':=r0;have r1':=r1;cases r0 with|@lst i0 ds0 _ _ e0 s0 f0 =>
 cases r1 with|@lst i1 ds1 _ _ e1 s1 f1 =>
 cases r2 with|@lst i2 ds2 _ _ e2 s2 f2 =>
 have n0:i0≠i2:=λz=>by
  subst z;rw[e0]at e2;cases e2
  have:=Rps.det s0 s2;rw[ed]at this
  cases hi:b.its with
  |nil=>rw[hi]at this;cases this
  |cons p its=>rw[hi,aE,aE]at this;exact absurd (congrArg lenT (cZ this).1) nofun
 have n1:i1≠i2:=λz=>by
  subst z;rw[e1]at e2;cases e2
  have:=Rps.det s1 s2;rw[ed]at this
  cases hi:b.rls with
  |nil=>rw[hi]at this;cases this
  |cons p its=>rw[hi,aE,aE]at this;exact absurd (congrArg lenT (cZ this).1) nofun
 refine⟨i2,ds2,⟨_,i0,i1,rfl,jB4 et,r0',r1',n0,n1⟩,?_,s2⟩;rcases f2 with rfl|⟨es,f2⟩
 .rw[h]at e2;cases e2;rw[ed,aE]at s2
  cases ns with
  |nil=>cases s2
  |cons x xs=>cases s2 with|cons a _=>cases a
 .rw[f2]at e2 |-
  cases e2;rfl
theorem jrf{α:Type}{K:α->PD}(hK:∀x,tuV (K x)=true):∀(xs:List α),tuVs (xs.map K)=true
|[]=>rfl
|x::xs=>by rw[aE];unfold tuVs;rw[hK,jrf hK xs];rfl
def jvt(h:Rp [] A (.obj i) (.lst xs))(t:tuVs xs=true)(e:A[i2]?=some (.lst ds))(hn:i≠i2):Rp [] (A.set i2 (.lst ys)) (.obj i) (.lst xs):=by
 cases h with|lst _ e1 r f =>
 exact .lst ni (by grind) (r.tu (.set e λy z=>nomatch z) t) (f.imp id λ⟨es,z⟩=>⟨es,by grind⟩)
def jH3(h:BI A db b i2 ds)(ry:Rp [] A y (dedD d))(j:Nat):Rp [] (A.set i2 (.lst (ds.set j y))) db (bkD ⟨b.its,b.rls,b.dds.set j d⟩):=by
 obtain⟨ib,i0,i1,rfl,eb,r0,r1,n0,n1⟩:=h.ex;have k:KTu A (A.set i2 (.lst (ds.set j y))):=.set h.l λw z=>nomatch z
 have es:(A.set i2 (.lst (ds.set j y)))[i2]?=some _:=zcz ((zbb.mp h.l).1);refine .tup ni (by rw[k _ _ eb];rfl) (.cons (jvt r0 (jrf (λw=>rfl) _) h.l n0) (.cons (jvt r1 (jrf (λw=>jB6) _) h.l n1) (.cons (.lst ni (by rw[es];rfl) ?_ (.inr ⟨_,es⟩)) .nil)));have:=jFw (ry.tu k jwu) j (h.r.tu k (jrf (λw=>jwu) _));simp_all
end
section
variable {A A':Sto}{ns:Ae}{b:Bk}{q:D->Sto->Prop}{Y:DSt}{m:Int}{i j:Nat}{db:D}{qo:Out->Sto->Prop}
def BI.grow(h:BI A db b i2 ds)(l:A<+:A'):BI A' db b i2 ds:=by obtain⟨ib,i0,i1,e,eb,r0,r1,n0,n1⟩:=h.ex;exact⟨⟨ib,i0,i1,e,jaf l eb,r0.grow l,r1.grow l,n0,n1⟩,jaf l h.l,h.r.grow l⟩
def BI.two{i2:Nat}{ds:List D}{x:Nat}(h:BI A db b i2 ds)(hd:Y[x]?=some (some db))(c:q (.obj i2) A):Ev (s2 gSub (sVar x) (sC (.int 2)) Y) A q:=by
 obtain⟨ib,i0,i1,rfl,eb,_⟩:=h.ex;refine ev_2 (jab hd (ev_c ⟨_,A,?_,c⟩));show(sqD A _).bind _=_;have:sqD A (.obj ib)=some (false,[.obj i0,.obj i1,.obj i2]):=by show(A[ib]?).bind sqO=_;rw[eb];rfl
 rw[this];rfl
def BI.rp(h:BI A db b i2 ds):Rp [] A (.obj i2) (.lst (b.dds.map dedD)):=.lst ni (by rw[h.l];rfl) h.r (.inr ⟨_,h.l⟩)
structure Same(b b':Bk):Prop where
 i:b'.its.length=b.its.length
 r:b'.rls.length=b.rls.length
 d:b'.dds.length=b.dds.length
noncomputable def lhB(b:Bk):Bool:=b.dds.all λd=>decide (d.lo<=d.hi)
def way3{x2 x3 x5 x6:Option D}(h:S0 ns A)(r:Rp [] A db (bkD b))(hb:BkOk 206 b)(hd:1<=b.dds.length)(k:∀A' x5 x6 b',S0 ns A'->Rp [] A' db (bkD b')->BkOk 206 b'->Same b b'->lhB b'=false->qo (.nx [some (.obj 0),some (.int m),x2,x3,some db,x5,x6]) A'):
  Ev (oSeq (oSet 5 (s2 (lO DL.gMod) (s2 (lO DL.gFdiv) (sVar 1) (sC (.int 64))) (sL kLen (jar (s2 gSub (sVar 4) (sC (.int 2))) sNil))))
  (oSeq (oSet 6 (s2 gSub (s2 gSub (sVar 4) (sC (.int 2))) (sVar 5)))
  (jkb (s2 gSub (sVar 4) (sC (.int 2))) (sVar 5) (sL (gNew .tup) (jar (s2 gSub (sVar 6) (sC (.int 0))) (jar (s2 gCatS (s2 gSub (sVar 6) (sC (.int 2))) (sC (.int 1))) (jar (s2 gSub (sVar 6) (sC (.int 2))) (jar (s2 gSub (sVar 6) (sC (.int 3))) sNil))))))) [some (.obj 0),some (.int m),x2,x3,some db,x5,x6]) A qo:=by
 obtain⟨i2,ds,I⟩:=jOa h r hd;have hl:ds.length=b.dds.length:=by rw[<- I.r.length,zav]
 obtain⟨j,hj⟩:=bU (md (i:=m / 64) (j:=ds.length) (by lia)).1;have hj2:=(md (i:=m / 64) (j:=ds.length) (by lia)).2;have jl:j<b.dds.length:=by simp_all
 obtain⟨d,hdj⟩:∃d,b.dds[j]?=some d:=⟨_,zax jl⟩
 refine jag (jax (ev_2 (ev_2 (jab rfl (ev_c (jk6 (by decide) (by decide) (ev_l (jaa (I.two rfl (jac ⟨_,A,jqe (by show(A[i2]?).bind sqO=_;rw[I.l];rfl),jf0 (by clear hdj;grind) ?_⟩))))))))));rw[hj];refine jag (jax (ev_2 (I.two rfl (jab rfl (jx2 I.rp rfl (by rw[zba,hdj];rfl) λd6 r6=>?_)))));refine jBc (ev_l (jaa (jdp rfl r6 rfl rfl rfl λda ra=>jaa (ev_2 (jdp rfl r6 rfl rfl rfl λdh rh=>?_)))));cases rh;refine ev_c (jp1 λA1 l1=>jaa (jdp rfl (r6.grow l1) rfl rfl rfl λdh rh=>jaa (jdp rfl (r6.grow l1) rfl rfl rfl λdc rc=>jac (jcg (by clear hdj r;grind[sizeLine]) ?_))));have l2:=aA A1 [SO.tup [da,.int (d.hi+1),dh,dc]];have I2:=I.grow (l1.trans l2);refine I2.two rfl (jab rfl ⟨_,?_,k _ _ _ _ (jBs (jaf (l1.trans l2) h) I2.l) (jH3 (d:=⟨_,d.hi+1,_,_⟩) I2 (jb5 lt0W (.cons (ra.grow l1) (.cons .int (.cons rh (.cons rc .nil))))) j) ?_ ⟨rfl,rfl,List.length_set ..⟩ ?_⟩)
 .unfold putI;dsimp only;rw[I2.l];have:ixN ds.length ((j))=some j:=by unfold ixN;rw[aD (by simp_all),aD (by simp_all)];rfl
  simp_all
 .obtain⟨m3,h3⟩:=hb.dd;refine⟨hb.i1,hb.i4,hb.r5,by rw[List.length_set];exact hb.d6,hb.st,hb.sn,hb.im,hb.rl,m3,λi e he=>?_⟩
  by_cases z:i=j
  .subst z;have:(b.dds.set i ⟨d.nm,d.hi+1,d.hi,d.chs⟩)[i]?=some _:=zcz jl;rw[this]at he;cases he;have H:=h3 i d hdj;have hn:=H.hn;exact⟨H.nm,H.len,by clear hd;lia,H.hn,H.cn⟩
  clear k ra h;grind
 .rw[Bool.eq_false_iff];intro z;have:=aQ.mp z _ (List.mem_iff_getElem?.mpr ⟨j,zcz jl⟩)
  grind
end
section
variable {A A':Sto}{ns:Ae}{m w:Int}{db:D}
structure DW(ns:Ae)(A:Sto)(db:D)(b:Bk):Prop where
 s:S0 ns A
 r:Rp [] A db (bkD b)
 b:BkOk 206 b
noncomputable def cut4(w:Int)(b:Bk):Bk:=if w=4 then⟨b.its,b.rls,[]⟩else b
noncomputable def cut5(w:Int)(b:Bk):Bk:=if w=5 then⟨b.its,[],b.dds⟩else b
def jya(C:Cw w a b c)(ct:Cnt a b c bk)(s:Same bk b3)(hl:lhB b3=decide (w≠3))(w0:0<=w):jjd (cut5 w (cut4 w b3))=!(decide (w<6)):=by
 have e1:=ct.i;have e2:=ct.r;have e3:=ct.d;have s1:=s.i;have s2:=s.r;have s3:=s.d;have c1:=C.a;have c2:=C.b;have c3:=C.c;unfold lhB at hl
 by_cases h5:w=5
 .grind[cut5,jjd]
 by_cases h4:w=4
 .grind[cut5,cut4,jjd]
 rw[show cut5 w (cut4 w b3)=b3 by unfold cut5 cut4;rw[aJ h5,aJ h4]];unfold jjd;rw[hl]
 clear ct s C hl;grind
def jxw(h:S0 ns A)(m:Int):Ev (jfx [.obj 0,.int m]) A λd A'=>∃t db b z,d=.obj t/\A'[t]?=some (.tup [db,.bl z])/\DW ns A' db b/\jjd b=!z:=by
 rw[jmi];refine jdf rfl (jag (jax (ev_l (jaa (jab rfl (jac ((jH9 h).imp λd A1 z=>?_)))))));obtain⟨i,a,b,c,rfl,e1,hz,l1⟩:=z;refine jag (jax (ev_2 (jab rfl (ev_c (jf0 (by decide) ?_)))));have w0:=(md (i:=m) (j:=16) (by decide)).1;generalize m % 16=w at w0;refine jag (jFn (jaf l1 h) e1 hz w0 λA2 a b c h2 e2 C=>?_);obtain⟨bk,eb,hb,ct⟩:=jCq ns C.a.1 C.b.1 C.c.1;refine jag (jax (ev_l (jaa (jab rfl (jaa (jab rfl (jac (jau jni lt0W (.cons (jFx h2) (.cons (.lst ni (by rw[e2];rfl) (.cons .int (.cons .int (.cons .int .nil))) (.inr ⟨_,e2⟩)) .nil)) eb λdb A3 l3 r3=>?_))))))));have h3:=jaf l3 h2;refine jag (Ev.imp (Q:=λo A'=>∃db bk,o=.nx [some (.obj 0),some (.int m),some (.obj i),some (.int w),some db,none,none]/\DW ns A' db bk/\Cnt a b c bk) ?_ λo A4 z=>?_)
 .refine jcm (jdu (ev_2 (ev_2 (jab rfl (ev_c (jk6 (by decide) (by decide) (ev_c (jf0 (by decide) (ev_c (jml ?_))))))))))
  split
  .obtain⟨rls,e,el,dz⟩:=jD9 (k:=0) hb _;refine jax (ev_l (jaa (jab rfl (jaa (jts h3 rfl (by decide) (by decide) λA4 l4=>jac (jau jif lt0W (.cons (r3.grow l4) (.cons .int .nil)) e λd A5 l5 r5=>⟨d,_,rfl,⟨jaf (l4.trans l5) h3,r5,dz⟩,ct.i,el.trans ct.r,ct.d,ct.lh⟩))))))
  .exact jhh ⟨db,bk,rfl,⟨h3,r3,hb⟩,ct⟩
 obtain⟨db,bk,rfl,D4,ct⟩:=z;refine jag (Ev.imp (Q:=λo A'=>∃x5 x6 bk',o=.nx [some (.obj 0),some (.int m),some (.obj i),some (.int w),some db,x5,x6]/\DW ns A' db bk'/\Same bk bk'/\lhB bk'=decide (w≠3)) ?_ λo A5 z=>?_)
 .refine jcm (jdu (jab rfl (ev_c (jml ?_))))
  by_cases w3:w=3
  .subst w3;exact way3 D4.s D4.r D4.b (by rw[ct.d];exact C.c.1.1) λA' x5 x6 b' g1 g2 g3 g4 g5=>⟨x5,x6,b',rfl,⟨g1,g2,g3⟩,g4,g5⟩
  .rw[aJ (by simp_all)];exact jhh ⟨_,_,bk,rfl,D4,⟨rfl,rfl,rfl⟩,by unfold lhB;rw[aX w3,aQ];exactλd hd=>aX (ct.lh d hd)⟩
 obtain⟨x5,x6,b3,rfl,D5,sm,hlh⟩:=z;refine jag (Ev.imp (Q:=λo A'=>∃db,o=.nx [some (.obj 0),some (.int m),some (.obj i),some (.int w),some db,x5,x6]/\DW ns A' db (cut4 w b3)) ?_ λo A6 z=>?_)
 .refine jcm (jdu (jab rfl (ev_c (jml ?_))))
  by_cases w4:w=4
  .subst w4;refine jax (ev_l (jaa (jdp rfl D5.r rfl rfl rfl λd0 r0=>jaa (jdp rfl D5.r rfl rfl rfl λd1 r1=>jaa (ev_l (jac (jcg (aY _) (jac (jcg (by show 3<=sizeLine;decide) ⟨_,rfl,?_⟩)))))))));have l6:=aA A5 [SO.lst []];refine⟨jaf (l6.trans (aA ..)) D5.s,jb5 lt0W (.cons (r0.grow l6) (.cons (r1.grow l6) (.cons (jgo lt0W .nil) .nil))),D5.b.i1,D5.b.i4,D5.b.r5,aY _,D5.b.st,D5.b.sn,D5.b.im,D5.b.rl,0,λi d hd=>by cases hd⟩
  .rw[aJ (by simp_all)];unfold cut4;rw[aJ w4];exact jhh ⟨db,rfl,D5⟩
 obtain⟨db,rfl,D6⟩:=z;refine jag (Ev.imp (Q:=λo A'=>∃db,o=.nx [some (.obj 0),some (.int m),some (.obj i),some (.int w),some db,x5,x6]/\DW ns A' db (cut5 w (cut4 w b3))) ?_ λo A7 z=>?_)
 .refine jcm (jdu (jab rfl (ev_c (jml ?_))))
  by_cases w5:w=5
  .subst w5;refine jax (ev_l (jaa (jdp rfl D6.r rfl rfl rfl λd0 r0=>jaa (ev_l (jac (jcg (aY _) (jaa (jdp rfl (D6.r.grow (aA ..)) rfl rfl rfl λd2 r2=>jac (jcg (by show 3<=sizeLine;decide) ⟨_,rfl,?_⟩)))))))));have l7:=aA A6 [SO.lst []];refine⟨jaf (l7.trans (aA ..)) D6.s,jb5 lt0W (.cons (r0.grow l7) (.cons (jgo lt0W .nil) (.cons r2 .nil))),D6.b.i1,D6.b.i4,aY _,D6.b.d6,D6.b.st,D6.b.sn,D6.b.im,⟨0,λi d hd=>by cases hd⟩,D6.b.dd⟩
  .rw[aJ (by simp_all)];unfold cut5;rw[aJ w5];exact jhh ⟨db,rfl,D6⟩
 obtain⟨db,rfl,D7⟩:=z;refine jfr (ev_l (jaa (jab rfl (jaa (ev_2 (jab rfl (ev_c (jdl jcq jcq rfl rfl (jac (jcg (by clear D7 hb;grind[sizeLine]) ⟨_,db,_,_,rfl,by simp_all,⟨jaf (aA ..) D7.s,D7.r.grow (aA ..),D7.b⟩,jya C ct sm hlh w0⟩))))))))))
end
end
section
open L2 DL PySem.NumText
def lr0:Ln:=⟨rlX [97] [48,32] [32,48],rulD ⟨[97],[],0⟩,[97]⟩
def ld0:Ln:=⟨ddT [97] [110] 0 1++([58,32]++chT []),dedD ⟨[97],0,1,[]⟩,[97]⟩
def nm_a:Nm [97]:=jjo rfl
def jI7:LsOk [] [lr0] [ld0]:=by have T:=TxS.shown (aa:=[]) (by decide) (λa ha=>nomatch ha) gc jDo;exact⟨(λq hq=>nomatch hq),λq hq=>by rw[zdx.mp hq];exact(juh (by decide) nm_a (T.pad 0 1) (T.pad 1 0) (λc hc=>by revert c;decide) nofun (by decide) (by decide) (by simp_all) rfl),λq hq=>by rw[zdx.mp hq];exact(jug (d:=⟨_,0,1,[]⟩) (by decide) nm_a nm_n (by simp_all) (by simp_all) (λp hp=>nomatch hp) (λp hp=>nomatch hp) gc (by decide) rfl),gc,by decide,by decide,by decide,by decide,by decide⟩
def jN5{fa fb:DSt->M D}{Y:DSt}(h:fa Y=oK (.bl false)):fAnd fa fb Y=oK (.bl false):=by unfold fAnd;rw[h,M.b_ok];rfl
def jI6:jch [.tup [.lst (([]:List Ln).map (·.d)),.lst ([lr0].map (·.d)),.lst ([ld0].map (·.d))]]=oK (.bl false):=by unfold jch;rw[jer];have:=jfg (K:=itD) (xs:=[]) (n:=4) (m:=0) (λx=>rfl) (λi x h=>by cases h) (by decide);exact jvv (jN5 this)
theorem jps{α:Type}{K:α->D}{F:α->D}{f:α->Bool}{t:DSt->M Bool}{fe:DSt->M D}{c:DSt}:∀(xs:List α)(x:Option D),(∀a∈xs,t (some (K a)::c)=oK (f a))->(∀a∈xs,fe (some (K a)::c)=oK (F a))->compD (DL.gName 0) t fe (xs.map K) (x::c)=some ((xs.filter f).map F)
|[],_,_,_=>rfl
|a::xs,x,h,g=>by
  have ih:=jps xs (some (K a)) (λb hb=>h b (zaw _ hb)) λb hb=>g b (zaw _ hb)
  rw[aE];unfold compD;rw[show DL.gName 0 _ _=some _ from rfl];grind
theorem jmn{α:Type}{f:α->Bool}:∀(xs:List α) {r:α}{tl:List α},xs.filter f=r::tl->∃i,xs[i]?=some r/\f r=true/\∀(j:Nat) q,xs[j]?=some q->j<i->f q=false
|[],_,_,h=>by cases h
|a::xs,r,tl,h=>by
  by_cases ha:f a=true
  .rw[List.filter_cons_of_pos ha]at h;cases h;exact⟨0,rfl,ha,λj q z hj=>absurd hj (Nat.not_lt_zero _)⟩
  .rw[List.filter_cons_of_neg ha]at h;obtain⟨i,h1,h2,h3⟩:=jmn xs h;refine⟨i+1,h1,h2,λj q hq hj=>?_⟩
   grind
def brkL(b:Bk):LL:=(b.rls.filter λr=>decide (spF r (jaw b)<0)).map (·.nm)
def jxj(hb:BkOk 206 b):fComp 1 [("_law_starts",8)] (iSeqD (f2 gIx (vR 2) (fC (.int 1)))) (DL.gName 0) (t2 gLt (fCall jba (fCons (vR 0) (fCons (vR 1) fNil))) (fC (.int 0))) (f2 gIx (vR 0) (fC (.int 0))) [s0,s1,some (bkD b),s3,s4,s5,s6,s7,some (.lst ((jaw b).map .int)),s9]=oK (.lst (nmD (brkL b))):=by
 obtain⟨m2,h2⟩:=hb.rl;have r5:=hb.r5;have cc:=jps (K:=rulD) (t:=t2 gLt (fCall jba (fCons (vR 0) (fCons (vR 1) fNil))) (fC (.int 0))) (fe:=f2 gIx (vR 0) (fC (.int 0))) (c:=[some (.lst ((jaw b).map .int))]) _ none (λr hr=>by obtain⟨i,hi⟩:=eK hr;have R:=h2 i r hi;have:=jm6 R.bt (jnm hb) (by rw[R.len];exact hb.i4);simp[this];rfl) (λr hr=>by rfl)
 have em:((b.rls.filter λr=>decide (spF r (jaw b)<0)).map λr=>sT r.nm)=nmD (brkL b):=by unfold brkL nmD;rw[aP];rfl
 have ln:(nmD (brkL b)).length<=1000:=by
  rw[<- em,zav];have:=List.length_filter_le (λr=>decide (spF r (jaw b)<0)) b.rls;lia
 rw[em]at cc;dsimp;simp only[stp,cc,ja3 ln];rfl
def jG4(hb:BkOk 206 b):fComp 1 [] (iSeqD (f2 gIx (vR 2) (fC (.int 0)))) (DL.gName 0) tYes (f2 gIx (vR 0) (fC (.int 1))) [s0,s1,some (bkD b),s3,s4,s5,s6,s7,s8,s9]=oK (.lst ((jaw b).map .int)):=by
 dsimp;simp only[stp,(jgs b (fe:=f2 gIx (vR 0) (fC _)) λa=>rfl),ja3 (jhy hb)];rfl
end
section
open L2 SI
section
variable {A A':Sto}{ns:Ae}{b:Bk}{z:Bool}{tx:Aa}{m:Int}{db dk df:D}{d8 d9:Option D}
structure TX(tx:Aa)(z:Bool)(b:Bk):Prop where
 ex:∃li lr ld,tx=jai [10] (jav li lr ld)/\LsOk li lr ld/\jav li lr ld≠[]/\(z=true->jch [.tup [.lst (li.map (·.d)),.lst (lr.map (·.d)),.lst (ld.map (·.d))]]=oK (.bl false))/\(z=false->LsB b li lr ld/\jjd b=true)
def jQf:SmE 10 [] (sCmp 1 [] (iSq (s2 gSub (sVar 2) (sC (.int 0)))) (jhz 0) sYes jA0) (DL.fComp 1 [] (DL.iSeqD (DL.f2 DL.gIx (DL.vR 2) (DL.fC (.int 0)))) (DL.gName 0) DL.tYes (DL.f2 DL.gIx (DL.vR 0) (DL.fC (.int 1)))):=
 SmF.e (jg8 (jjw (sm_2 jh6 (jdi rfl) (sm_c λz z=>.int))) rfl (jim rfl) (λ{F Y p A r} s e=>by cases e;exact tQ.it rfl) (sm_2 jh6 (jdi rfl) (sm_c λz z=>.int)))
def jPc(e:DL.gLt x y=some v):(un v).isSome:=jma e
def jH4:SmE 10 [] (sCmp 1 [("_law_starts",8)] (iSq (s2 gSub (sVar 2) (sC (.int 1)))) (jhz 0) (sT2 (lO DL.gLt) (sL jfy (jar (sVar 0) (jar (sVar 1) sNil))) (sC (.int 0))) jA1) (DL.fComp 1 [("_law_starts",8)] (DL.iSeqD (DL.f2 DL.gIx (DL.vR 2) (DL.fC (.int 1)))) (DL.gName 0) (DL.t2 DL.gLt (DL.fCall jba (DL.fCons (DL.vR 0) (DL.fCons (DL.vR 1) DL.fNil))) (DL.fC (.int 0))) (DL.f2 DL.gIx (DL.vR 0) (DL.fC (.int 0)))):=
 SmF.e (jg8 (jjw (sm_2 jh6 (jdi rfl) (sm_c λz z=>.int))) rfl (jim rfl) (jGt (jd9 (g:=DL.gLt) λz z z e=>jPc e) (jwb jlq (jb6 (jdi rfl) (jb6 (jdi rfl) jfu))) (sm_c λz z=>.int)) (sm_2 jh6 (jdi rfl) (sm_c λz z=>.int)))
def jBh{Y:DSt}{x:Nat}{d:D}{n:Nat}{c:Int}{v:PD}{qb:Bool->Sto->Prop}(hd:Y[x]?=some (some d))(r:Rp [] A d v)(e:DL.kLen [v]=some (.int (n:Int)))(k:∀A',A<+:A'->qb (decide (c<(n:Int))) A'):Ev (sT2 (lO DL.gGt) (sL kLen (jar (sVar x) sNil)) (sC (.int c)) Y) A qb:=by refine jdu (ev_l (jaa (jab hd (jac (jIu js3 lt0W (.cons r .nil) e λd1 A1 l1 r1=>?_)))));cases r1;exact ev_c (jdl jcq jcq rfl rfl ⟨_,rfl,k A1 l1⟩)
def jr7(hb:BkOk 206 b)(h:(b.rls.filter λr=>decide (spF r (jaw b)<0))=r::tl):∃i,b.rls[i]?=some r/\spF r (jaw b)<0/\∀(j:Nat) q,b.rls[j]?=some q->j<i->¬spF q (jaw b)<0:=by
 obtain⟨i,h1,h2,h3⟩:=jmn _ h;grind
def law_true(ns:Ae)(hn:ns.length<=63):∃A,jxx [.obj 0] [.fro (ns.map .int)]=some (.ok (.bl true),A):=by
 suffices hh:Ev (jxx _) _ λd w=>d=.bl true by obtain⟨d,A,e,rfl⟩:=hh;exact⟨A,e⟩
 have h0:S0 ns [SO.fro _]:=rfl;rw[jIq];refine jdf rfl (jag (jax (jts h0 rfl (by decide) (by decide) λA1 l1=>?_)));generalize mixF _ 13=m;have h1:=jaf l1 h0;refine jag (jIt (ev_l (jaa (jab rfl (jaa (jab rfl (jac ((jxw h1 m).imp λd A2 z=>?_))))))));obtain⟨t,db,b,z,rfl,et,W2,hg⟩:=z;refine⟨_,by unfold SI.tTup;dsimp only;rw[et];rfl,?_⟩;obtain⟨lr,ld,eo,L,ll⟩:=jyw ns W2.b (jOg W2.b);refine jag (jax (ev_l (jaa (jab rfl (jaa (jab rfl (jac (jau jhw lt0W (.cons (jFx W2.s) (.cons W2.r .nil)) eo λd3 A3 l3 r3=>?_))))))));cases r3;have rb:=W2.r.grow l3;have hB:=W2.b;have aj:jav (liB b) lr ld≠[]:=by
  intro y;have:=congrArg List.length (fW.mp y).1;unfold liB at this;rw[zav,zav,bZ]at this;have:=hB.i1
  simp_all
 refine jag (Ev.imp (Q:=λo A'=>∃z tx,o=.nx [some (.obj 0),some (.int m),some db,some (.bl z),some (.str (St tx)),none,none,none,none,none]/\Rp [] A' db (bkD b)/\tx.length<=1000000/\TX tx z b) ?_ λo A4 y=>?_)
 .refine jcm (jdu (ev_2 (jab rfl (ev_c (jf0 (by decide) (ev_c (jml ?_)))))))
  split
  .refine jag (jax (ev_c (jax (ev_c ⟨true,_,by rfl,rb,by decide,[],_,_,rfl,jI7,by decide,λw=>jI6,nofun⟩))))
  .exact jhh ⟨z,_,rfl,rb,ll,_,lr,ld,rfl,L.ok,aj,λhz=>by have e:=jho hB;rw[hg,hz]at e;rw[L.ei,L.er,L.ed];exact e,λhz=>⟨L,by grind⟩⟩
 obtain⟨z,tx,rfl,rb,lt,T⟩:=y;refine jag (jcm (jBh rfl (Rp.str) ((aD (by rw[jay,bG];lia)).trans (by rw[jay])) λA5 l5=>?_));have rb:=rb.grow l5
 split
 .exact jfr (ev_c rfl)
 have ai:tx.length<=50000:=by lia
 refine jhh (jag (jax (ev_c (jag (jax (ev_c ?_))))));obtain⟨li,lr,ld,rfl,hL,aj,hz1,hz2⟩:=T.ex
 cases z with
 |true=>refine jag (jtu (jaa (jab rfl (jac ((jCp hL aj ai (hz1 rfl) A5).imp λy A6 N=>?_)))));obtain⟨⟨k,rfl,ek⟩,kp⟩:=N;exact⟨k,_,none,rfl,ek,rfl,jag (jcm (jtt (jab rfl ⟨true,rfl,(jfr (ev_1 (jab rfl ⟨_,A6,by clear h1;clear et aj;grind[gIsX],rfl⟩)))⟩)))⟩
 |false=>
  obtain⟨LB,gb⟩:=hz2 rfl;refine jag (Ev.imp (Q:=λo A'=>∃dk df:D,o=.nx [some (.obj 0),some (.int m),some db,some (.bl false),some (.str (St (jai [10] (jav li lr ld)))),some dk,some df,none,none,none]/\Rp [] A' db (bkD b)/\(brkL b=[]->dk=D.non/\Rp [] A' df (bkD b))/\∀x tl,brkL b=x::tl->∃i j,dk=D.obj i/\A'[i]?=some (.exc "Broken" (some j) false)/\A'[j]?=some (.xd [("name",.str (St x))])) ?_ λo A6 y=>?_)
  .cases hf:b.rls.filter _ with
   |nil=>
    have e0:brkL b=[]:=by unfold brkL;rw[hf];rfl
    refine jDj (jaa (jab rfl (jac ((jxi hB LB aj ai gb (λj r hr=>?_) A5).imp λy A6 N=>⟨_,y,rfl,N.2.rp rb,λw=>⟨rfl,N.1⟩,λx tl e=>by clear h1 et;grind⟩))));have:=List.filter_eq_nil_iff.mp hf r (List.mem_iff_getElem?.mpr ⟨j,hr⟩);simp_all
   |cons r tl=>
    have e0:brkL b=r.nm::tl.map (·.nm):=by unfold brkL;rw[hf];rfl
    obtain⟨i,h1,h2,h3⟩:=jr7 hB hf;refine jtu (jaa (jab rfl (jac ((jxh hB LB aj ai gb h1 h2 h3 A5).imp λy A6 N=>?_))));obtain⟨⟨k,j,rfl,e1,e2⟩,kp⟩:=N;refine⟨k,_,_,rfl,e1,rfl,_,_,rfl,kp.rp rb,λe=>?_,λx tl e=>?_⟩<;>simp_all
  obtain⟨dk,df,rfl,rb6,hno,hyes⟩:=y;refine jag (jcm (jtt (jab rfl ⟨_,rfl,?_⟩)));refine jhh (jag (jax (jx3 jQf (.no (.no (.yes rb6 (.no (.no (.no (.no (.no (.no (.no .nil)))))))))) lt0W (jG4 hB) λd8 A7 l7 r8=>?_)));refine jag (jax (jx3 jH4 (.no (.no (.yes (rb6.grow l7) (.no (.no (.no (.no (.no (.yes r8 (.no .nil)))))))))) lt0W (jxj hB) λd9 A8 l8 r9=>?_));refine jag (jcm (jBh rfl r9 (by show some _=_;rw[jg5]) λA9 l9=>?_));have ba:=l7.trans (l8.trans l9)
  cases hb:brkL b with
  |nil=>obtain⟨rfl,rf6⟩:=hno hb;exact jhh (jfr (jn1 (ev_2 (jab rfl (ev_c ⟨_,A9,rfl,_,rfl,(ev_2 (jab rfl (jab rfl (jdl (jhu (rf6.grow ba)) (jhu (rb6.grow ba)) (jOp b) rfl rfl))))⟩)))))
  |cons x tl=>obtain⟨i,j,rfl,e1,e2⟩:=hyes x tl hb;have e1:=jaf ba e1;have e2:=jaf ba e2;rw[aD (by simp_all)];refine jfr (jn1 (ev_1 (jab rfl ⟨_,A9,by clear h1 hb;clear et eo ll gb;grind[gIsX],true,rfl,?_⟩)));refine ev_2 (ev_1 (jab rfl ⟨_,A9,by unfold jDs;dsimp only;rw[e1];dsimp only;rw[e2];rfl,jdp rfl (r9.grow l9) rfl rfl (by rw[hb];rfl) λd rd=>?_⟩));cases rd;exact jdl jbe jbe (jx0 x x) rfl (by simp_all)
end
end
end MyLaw
end
set_option maxRecDepth 100000 in
set_option maxHeartbeats 0 in
theorem PySem.Challenge.cw_apartbook_k16_whole_books_read_and_check_holds : PySem.Challenge.rw_apartbook_k16_whole_books_read_and_check.Holds := by
 w_on;o_law;z_head;(case hw=>w_witness2)
 k_fill
 refine MyLaw.walkZ (l:=PySem.Challenge.rw_apartbook_k16_whole_books_read_and_check) (fun P=>rfl) rfl rfl ?F MyLaw.law_true
 case F =>
  intro w mg fa h KX G hmg
  refine' ⟨SI.txt_of KX G ?e (MyLaw.tup_mk KX G ?y ?z),hmg⟩
  (case e=>kernel_rfl);(case y=>k_is);(case z=>k_is)