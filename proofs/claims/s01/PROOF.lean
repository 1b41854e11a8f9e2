import PyProof.Rows.All
import Wide.All
import OpenK.AllK
import Wide.FinOn
import PyProof.EqAt
import PyProof.EqKinds
import PyProof.TupleCall
import KE.BitLaws
import Open.SpecLaws
import KE.OsHead
import KE.OsGo
import Open.Tops
import KE.KItemsList
import KE.KDictList
import KE.IntBitsLaws
import KE.KEqDeep
import VauniaSpec
import VauniaNeutral
import PyVaunia
import PySem.Challenge.RW_measurebook_s01_answers
set_option Elab.async false
set_option linter.all false
set_option maxRecDepth 100000
set_option maxHeartbeats 0
noncomputable section
def aa:=@PySem.wpAny_bind
def ab:=@List.length_map
def ae:=@Option.some.inj
def af:=@PySem.wpAny_pure
def ag:=@PySem.Heap.get?_push_of_some
def ah:=@decide_eq_true
def ai:=@List.length_cons
def aj:=@List.length_append
def ak:=@decide_eq_true_iff
def ao:=@Bool.false_ne_true
def aq:=@if_neg
def au:=@List.map_append
def aw:=@List.mem_cons_of_mem
def ax:=@Nat.le_refl
def ay:=@List.getElem?_eq_getElem
def az:=@decide_eq_false
def aA:=@List.length_singleton
def aB:=@List.length_take
def aC:=@PySem.Heap.get?_push_size
def aD:=@List.mem_cons_self
def aE:=@if_pos
def aF:=@PySem.Heap.lt_size
def aG:=@List.mem_of_getElem?
def aH:=@Bool.eq_iff_iff
def aI:=@Nat.le_of_lt
def aJ:=@List.size_toArray
def aK:=@Bool.false_eq_true
def aL:=@of_decide_eq_true
def aM:=@List.mem_cons
def aN:=@Nat.le_trans
def aO:=@List.map_cons
def aP:=@List.take_length
def aQ:=@List.mem_map
def aR:=@List.length_drop
def aS:=@Nat.lt_of_lt_of_le
def aT:=@PySem.F.plainAttrs_list
def aU:=@Nat.zero_le
def aV:=@PySem.boot_len
def aW:=@Int.natCast_mul
def aX:=@PySem.PassesOwn.never
def aY:=@List.filter_cons
def aZ:=@Bool.and_eq_true
def a0:=@Nat.pow_le_pow_right
def a8:=@List.find?_cons
def a9:=@Nat.ne_of_lt
def bc:=@PySem.wpAny_callSpecial?_slot
def bg:=@List.mem_append
def bh:=@PySem.mem_of_lookup
def bj:=@Bool.eq_false_iff
def bo:=@PySem.wpAny_call_entry
def bq:=@if_false
def bu:=@List.map_map
def bw:=@List.getElem?_eq_some_iff
def bA:=@List.mem_singleton
def bC:=@PySem.Heap.size_push
def bD:=@List.getElem?_append_right
def bE:=@List.getD_eq_getElem?_getD
def bG:=@PySem.wpAny_newObj_type
def bH:=@Int.natCast_pow
def bI:=@PySem.wpAny_field
def bJ:=@PySem.Heap.SameBut.update
def bK:=@PyProof.Rows.callWith_type1
def bL:=@Nat.mul_pos
def bN:=@List.getElem?_map
def bO:=@PySem.wpAny_dictEntries
def bP:=@List.mem_append_right
def bQ:=@List.length_nil
def bR:=@List.append_assoc
def bS:=@Int.natAbs_natCast
def bT:=@List.filter_append
def bU:=@PySem.wpAny_setField_rec
def bV:=@PySem.F.slot_list_append
def bW:=@PySem.F.type_list_append
def bX:=@beq_eq_false_iff_ne
def bY:=@beq_self_eq_true
def bZ:=@Nat.le_add_right
def b0:=@List.drop_length
def b9:=@Int.toNat_natCast
def cf:=@Bool.not_true
def cg:=@List.getElem?_append_left
def cj:=@Classical.byContradiction
def cn:=@Nat.eq_zero_or_pos
def cp:=@Nat.ne_of_gt
def cu:=@List.take_of_length_le
def cv:=@List.append_nil
def cw:=@PySem.F.slot_dict_keyiterator_next
def cx:=@List.all_eq_true
def cy:=@List.length_filter_le
def cA:=@List.exists_of_findSome?_eq_some
def cB:=@congrArg
def cC:=@Nat.lt_of_le_of_lt
def cD:=@PySem.wpAny_seqItems
def cF:=@PySem.Paired.length
def cG:=@PySem.F.slot_dict_valueiterator_next
def cH:=@List.getElem?_zip_eq_some
def cI:=@List.drop_eq_getElem_cons
def cJ:=@Ne.symm
def cK:=@PySem.wpAny_truthy_bool
def cM:=@PySem.F.slot_dict_itemiterator_next
def cN:=@Int.natAbs_mul
def cO:=@Nat.lt_irrefl
def cP:=@Option.isSome_iff_exists
def cQ:=@PySem.wpAny_holding
def cR:=@List.mem_filter
def cS:=@List.nodup_cons
def cT:=@Nat.min_eq_left
def cU:=@PySem.Calls.spliced_cons
def cV:=@PySem.F.slot_list_index
def cW:=@Nat.mul_le_mul
def cX:=@PySem.wpAny_dictEpoch
def cY:=@PySem.wpAny_notOrdered_dict
def cZ:=@List.any_eq_true
def da:=@PySem.tupleKind_room_in1
def dc:=@PySem.wpAny_isInstance
def df:=@PySem.wpAny_typeNameOfWhole_itemiter
def dh:=@PySem.wpAny_attempt
def di:=@List.mem_append_left
def dj:=@PySem.wpAny_typeNameOfWhole_keyiter
def dk:=@PySem.wpAny_typeNameOfWhole_valiter
def dt:=@PySem.intBits_le_iff
def dA:=@PySem.F.type_list_index
def dB:=@PySem.wpAny_mono
def dC:=@PySem.F.slot_zip_next
def dD:=@List.length_zip
def dE:=@List.dropLast_concat_getLast
def dF:=@Nat.pow_le_pow_left
def dG:=@Array.length_toList
def dH:=@PySem.Calls.callWith_builtin
def dI:=@Array.getElem?_eq_none
def dJ:=@List.lookup_cons
def dM:=@beq_iff_eq
def dN:=@PySem.Obj.data_mapFields
def dO:=@PySem.F.slot_tuple_iterator_next
def dP:=@PySem.IntMulOk.of_le
def dQ:=@if_true
def dR:=@PySem.Heap.get?_update_self
def dS:=@List.mem_of_find?_eq_some
def dU:=@PySem.wpAny_passesOwn
def dW:=@PySem.Calls.spliced_nil
def dX:=@PySem.Calls.evalArgs_plain
def dY:=@List.map_nil
def dZ:=@Bool.false_or
def d4:=@PySem.wpAny_typeNameOf_keyiter
def d5:=@List.map_drop
def d6:=@List.map_congr_left
def d7:=@List.filterMap_cons
def d8:=@List.forIn_nil
def d9:=@PySem.wpAny_setField
def ei:=@PySem.F.slot_zip_getattribute
def eu:=@List.mem_filterMap
def eA:=@PySem.wpAny_Call_Name_kw
def eB:=@of_decide_eq_false
def eC:=@Nat.sub_self
def eE:=@List.forIn_cons
def eF:=@PySem.size_of_entries
def eG:=@List.filter_nil
def eI:=@Bool.true_and
def eJ:=@List.any_cons
def eK:=@List.contains_iff_mem
def eL:=@Vaunia.Worth.mk.injEq
def eM:=@Int.mul_lt_mul_of_pos_right
def eN:=@decide_eq_true_eq
def eO:=@Option.isSome_map
def eP:=@PySem.wpAny_Call_method
def eQ:=@Int.eq_of_mul_eq_mul_right
def eR:=@Nat.pow_pos
def eT:=@Nat.mul_le_mul_right
def eU:=@Int.lt_of_mul_lt_mul_right
def eV:=@Bool.or_eq_false_iff
def eX:=@Int.fdiv_eq_ediv_of_nonneg
def eY:=@PySem.wpAny_fieldsOf
def eZ:=@Bool.and_eq_true_iff
def e8:=@PySem.Obj.data_mapDictKeys
def e9:=@Nat.pow_lt_pow_right
def fb:=@List.mem_of_mem_drop
def fc:=@PySem.wpAny_pyIter_zip
def fe:=@List.findSome?_cons
def ff:=@List.all_cons
def fg:=@List.map_take
def fh:=@PySem.F.slot_list_extend
def fi:=@PySem.F.type_list_extend
def fj:=@PySem.wpAny_specialOf
def fk:=@List.cons.injEq
def fm:=@Int.mul_nonpos_of_nonpos_of_nonneg
def fo:=@PySem.wpAny_rule
def fq:=@List.getElem?_drop
def ft:=@PySem.F.plainAttrs_dict
def fz:=@List.getElem?_cons_zero
def fA:=@Nat.le_mul_of_pos_right
def fB:=@List.getElem?_set_self
def fC:=@Bool.false_and
def fD:=@Option.map_eq_some_iff
def fE:=@List.any_map
def fF:=@Nat.le_of_succ_le
def fG:=@Nat.lt_trans
def fH:=@PySem.wpAny_pyIter_slot
def fI:=@PySem.isSubtype_stop
def fJ:=@PySem.wpAny_isOneOf_itemiter
def fK:=@PySem.wpAny_nextOf_list_item
def fL:=@PySem.F.args_zip_next_1
def fM:=@PySem.F.slot_tuple_hash
def fN:=@List.drop_zero
def fO:=@List.drop_eq_nil_of_le
def fP:=@Nat.Coprime.dvd_of_dvd_mul_left
def fQ:=@PySem.F.slot_dict_get
def fR:=@PySem.Obj.isFreed_of_fields
def fS:=@PySem.wpAny_isOneOf_valiter
def fT:=@PySem.isSubtype_tuple_tuple
def fU:=@List.mem_iff_getElem?
def fV:=@Nat.lt_succ_self
def fW:=@PySem.F.entry_zip_next
def fX:=@PySem.wpAny_forIn_list
def fY:=@List.getElem_mem
def fZ:=@Int.ediv_emod_unique
def f7:=@List.getElem?_set_ne
def f9:=@List.eq_nil_of_length_eq_zero
def gb:=@List.mem_of_mem_take
def gc:=@List.foldl_cons
def gd:=@PySem.wpAny_execs_nil
def gg:=@PySem.pushCells_keeps
def gh:=@PySem.W.length_le_weightAllW
def gi:=@PySem.F.slot_tuple_eq
def gj:=@PySem.F.slot_dict_setdefault
def gm:=@Array.toList_append
def gn:=@Int.toNat_of_nonneg
def gp:=@Nat.le_of_eq
def gq:=@List.all_map
def gr:=@PySem.call_meetsIn
def gu:=@List.nodup_nil
def gv:=@Bool.not_false
def gw:=@PySem.call_meets
def gx:=@PySem.wpAny_tupleItemsOf
def gy:=@Array.forIn_toList
def gz:=@List.foldl_append
def gA:=@List.nodup_append
def gB:=@Nat.mul_one
def gC:=@Nat.pow_mul
def gD:=@Nat.pow_add
def gE:=@PySem.sizeLine_eq
def gF:=@Nat.lt_succ_of_lt
def gG:=@PySem.W.ktu_apart
def gH:=@PySem.wpAny_letGo
def gI:=@Nat.log2_lt
def gJ:=@List.length_range
def gK:=@List.flatMap_cons
def gL:=@PySem.wpAny_handled
def gM:=@PySem.W.mg_of
def gN:=@LawfulBEq.eq_of_beq
def gO:=@Nat.zero_mul
def gP:=@Int.lt_or_le
def gQ:=@Nat.gcd_comm
def gR:=@Nat.mod_lt
def gS:=@Nat.pow_succ
def gT:=@Nat.zero_add
def gU:=@Bool.true_or
def gW:=@List.of_mem_zip
def gX:=@Bool.or_eq_true
def gY:=@Int.neg_mul
abbrev Fg:=PySem.W.Frag
theorem MB.said:PySem.Challenge.rw_measurebook_s01_answers.wellSaid=true:=by decide +kernel
theorem MB.X3:PySem.W.opensWell PySem.Challenge.pw_measurebook_s01_answers=true:=by decide +kernel
namespace PySem.W.Fast
def tw13070949630011093377:=0
def tw2753557507581680738:=0
def tw12925113844605534789:=0
def tw15765514682728936774:=0
def tw4137672574213695015:=0
def tw17008806615390376008:=0
def tw14023676125478480328:=0
def tw15603169184598277034:=0
def tw17240486086737222123:=0
def tw2646008246693377228:=0
def tw9352192432512356911:=0
def tw1248688720473944976:=0
def tw15940638153141164947:=0
def tw3304664870581061044:=0
def tw15689895774868983574:=0
def tw1253172227220253241:=0
def tw5914668729078828889:=0
def tw14705613334450140474:=0
def tw16396838948982609404:=0
def tw8158312906765736061:=0
def tw18396032170048231679:=0
def tw10141693501037952799:=0
def tw9661382202582562220:=0
def tw9494755773484479102:=0
def tw8826285191257079492:=0
def tw9530851912328331391:=0
def tw6214733237609472538:=0
def tw13479075118387878136:=0
def tw14675125905168855291:=0
def tw7376229997182497835:=0
def tw5793090021267801271:=0
def tw14566687175316321343:=0
def tw5086612911087943909:=0
def tw12590479217496735006:=0
def tw7186250964829381188:=0
def tw7588952766670386603:=0
def tw5831705555520880273:=0
def tw1944497330271148618:=0
def tw12422384816178935264:=0
def tw15461673689879158274:=0
def tw1711193769102577996:=0
def tw10058011875771934870:=0
def tw17517856837082674529:=0
def tw5854984032207157368:=0
def tw6449090132179987873:=0
def tw11288633189361590705:=0
def tw17529100541939854775:=0
def tw10079367481725257980:=0
def tw16296618683376274261:=0
def tw11409339389734249923:=0
def tw17298367621726208297:=0
def tw7244101111015440960:=0
def tw14258453860030005481:=0
def tw9202203422836196613:=0
def tw1582453085693662095:=0
def tw16611656203842906941:=0
def tw13950746197884660751:=0
def tw3688406079672039044:=0
def tw4893947524637258462:=0
def tw15797006342007736480:=0
def tw15960269360802642919:=0
def tw8144102552496893320:=0
def tw1468171153907677022:=0
def tw6962050564462638640:=0
def tw8833099221198075274:=0
def tw14480230351160471245:=0
def tw5294827100018727346:=0
def tw16742442686520826157:=0
def tw3387344706925852767:=0
def tw16677794797837549772:=0
def tw10877970078554679261:=0
def tw6900730082770482282:=0
def tw14027084233821137021:=0
def tw1733421276909588503:=0
def tw5197037905292675568:=0
def tw2793762798882799946:=0
def tw181342968538652871:=0
def tw1640495656568380458:=0
def tw2221843516877591334:=0
def tw11659981412856066196:=0
def tw12147433589931514007:=0
def tw13939986615078071025:=0
def tw11314649473072579696:=0
def tw7210050867660796901:=0
def tw11656550467786103494:=0
def tw4520271269069098383:=0
def tw3590918215640055303:=0
def tw4034364359879863562:=0
def tw18277939867937690907:=0
def tw5909774551179509625:=0
def tw16061301755897080944:=0
def tw5866396090828870316:=0
def tw17682238376144876256:=0
def tw4077809835141586551:=0
def tw17244225996584910219:=0
def tw14934328323726420537:=0
def tw5083938987998185838:=0
def tw16500489218656928766:=0
def tw5437289950429375101:=0
def tw8967641396863979611:=0
def tw7158497859503348977:=0
def tw17524341907737991104:=0
def tw16040117052283806838:=0
def tw3007709720701716683:=0
def tw16990020889095211157:=0
def tw578462851663692914:=0
def tw7151008481792178671:=0
def tw5857924867169325063:=0
def tw2708728947658102532:=0
def tw5656260774425336791:=0
def tw3630825738429258755:=0
def tw11417838532754001302:=0
def tw18180896391520962951:=0
def tw4900223895239784568:=0
def tw6693638123341086796:=0
def tw6773526123768314952:=0
def tw17945736294009761797:=0
def tw2979249838663805213:=0
def tw15805267899606418770:=0
def tw1019484567916516058:=0
def tw15361474711195786571:=0
def tw9317046617055029095:=0
def tw934933585744935161:=0
def tw7312477111182291787:=0
def tw6500602641760092566:=0
def tw18329247318038115573:=0
def tw17120736731758631374:=0
def tw2946936825598317556:=0
def tw13839685642818522808:=0
def tw7379571438144393504:=0
def tw7571980705417253372:=0
def tw16703402806302874809:=0
def tw8256749553907203040:=0
def tw15260037909428603871:=0
def tw2813766783256186600:=0
def tw6968579920059676274:=0
def tw11996443747833533380:=0
def tw14322528250336394071:=0
def tw1948648834333923519:=0
def tw16952158299369334389:=0
def tw7520227726666467870:=0
def tw12205930821809451568:=0
def tw6091411517046315017:=0
def tw6077389979925266162:=0
def tw15125746625134172674:=0
def tw17047240279448810635:=0
def tw16336320164896384159:=0
def tw542764592704162193:=0
def tw3889010189725901846:=0
def tw1759882981956610019:=0
def tw3265108921285515686:=0
def tw17116095322692596041:=0
def tw15628352235642138794:=0
def tw16023548426898079973:=0
def tw5356799774011006896:=0
def tw16206600656693176258:=0
def tw3487821089179705936:=0
def tw11630747392363885:=0
def tw7502659782977147550:=0
def tw105410503125323629:=0
def tw2215320462571738143:=0
def tw14805745746024875977:=0
def tw9369190153176157388:=0
def tw15380607151991094928:=0
def tw3375370409233211648:=0
def tw14062210915362040879:=0
def tw13726885419731153559:=0
def tw1479057914643092601:=0
def tw9653967539529319896:=0
def tw5017555837422024887:=0
def tw15248784510120038161:=0
def tw17034549404708877288:=0
def tw45609784174674505:=0
def tw10305203767394801656:=0
def tw10675102974223072057:=0
def tw3052504745282609832:=0
def tw5522799879239256131:=0
def tw9199420477749923458:=0
def tw760219862491445214:=0
def tw10320395209937556983:=0
def tw3574474183393471479:=0
def tw2619695318186862104:=0
def tw4424951506808296660:=0
def tw5291658900867627704:=0
def tw14913502362368637998:=0
def tw8962793187389170204:=0
def tw3732552887422066633:=0
def tw10965368849785496002:=0
def tw7129785886929564519:=0
def tw14752986394504292765:=0
def tw831129678372260453:=0
def tw12917604453482781325:=0
def tw15093897438245793565:=0
def tw13391203914895446663:=0
def tw14627803043195873332:=0
def tw10753204362843050510:=0
def tw5933015533383745347:=0
def tw10533998916694813617:=0
def tw13080148013138159597:=0
def tw1394134899208240258:=0
def tw4442546367407078413:=0
def tw7654066718377327882:=0
def tw3961119108387222242:=0
def tw8185098656298353348:=0
def tw13416967553692037986:=0
def tw7779458310325270178:=0
def tw17225443833298733002:=0
def tw1768961624743281255:=0
def tw589998619768323953:=0
def tw8994587145317121418:=0
def tw566441815400833748:=0
def tw2862532501265446459:=0
def tw18337607985753781472:=0
def tw15163602854796123691:=0
def tw7550974752506884323:=0
def tw17595130098376679721:=0
def tw14009334047731873166:=0
def tw2121307055440014552:=0
def tw3446548823282611917:=0
def tw16086132399977957827:=0
def tw9034030265972231837:=0
def tw10187645008498115177:=0
def tw5967274090190114495:=0
def tw5044540400211097998:=0
def tw14278990672410449206:=0
def tw16379525869164702184:=0
def tw12869434036272526242:=0
def tw14048434387410269297:=0
def tw17146896815862598074:=0
def tw15397442273179418210:=0
def tw5679051214884611959:=0
def tw12378651450309249679:=0
def tw3126554366050518244:=0
def tw6057826828090763977:=0
def tw6848223356500417519:=0
def tw18080310729779723016:=0
def tw17795135596649335458:=0
def tw15556620252154186832:=0
def tw9298018604664040795:=0
def tw10680825375451068750:=0
def tw11802190594170218831:=0
def tw9260731700823748363:=0
def tw12928357216136618361:=0
def tw18325573435942564812:=0
def tw9108731388614324772:=0
def tw16551849611137009414:=0
def tw14782250950201176663:=0
def tw3065213127469897477:=0
def tw11798054525256948204:=0
def tw3058536848272001979:=0
def tw2182390890546241552:=0
def tw12466086392913869:=0
def tw10141922069232376928:=0
def tw14619783235228651657:=0
def tw4122561943881834470:=0
def tw3134012159016663779:=0
def tw2257484386066923473:=0
def tw983486010869155199:=0
def tw13395273882978204914:=0
def tw16341267178203684118:=0
def tw3505488997439477025:=0
def tw176522583044551523:=0
def tw2295279654972535398:=0
def tw14753207971459452825:=0
def tw7151710546858660447:=0
def tw2757734215128401167:=0
def tw5950291202278018717:=0
def tw17307216437789298023:=0
def tw13449511175969575944:=0
def tw8235981849297428580:=0
def tw11239285845717605677:=0
def tw805836141046242496:=0
def tw6192686303816367367:=0
def tw5042104953571291743:=0
def tw4064516993493343970:=0
def tw8830119505623478141:=0
def tw6107774226445302715:=0
def tw17902735480305768915:=0
def tw6275145246677604321:=0
def tw18058062580243682370:=0
def tw4210022424624635006:=0
def tw8446460753462493611:=0
def tw2008860754974596875:=0
def tw7487139390159647337:=0
def tw16404229989855532629:=0
def tw12717654952879449897:=0
def tw8860832680651650738:=0
def tw13368372426958769686:=0
def tw14021460644247962795:=0
def tw2105531360795910899:=0
def tw8009786284561712068:=0
def tw15011934022691153859:=0
def tw12482188489288979390:=0
def tw4715746181820973663:=0
def tw6682228624285202120:=0
def tw6217864651717735978:=0
def tw7578492461274815871:=0
def tw13378285708570583943:=0
def tw15241925830296973955:=0
def tw10746120319292431158:=0
def tw2079552833004145944:=0
def tw13251974726107579841:=0
def tw15317984365964601262:=0
def tw14193409648968905142:=0
def tw5777083620335561611:=0
def tw18083931881849019067:=0
def tw17639366845416289723:=0
def tw3244567098017495473:=0
def tw3228040703500066657:=0
def tw14352542354580052390:=0
def tw5602924463274147108:=0
def tw6868478765793163248:=0
def tw13341867314994529811:=0
def tw4608610702316533628:=0
def tw14589101608046856035:=0
def tw14928651405762028631:=0
def tw15172634492914358438:=0
def tw11543811000664194986:=0
def tw12638807353588342234:=0
def tw6022518903137251027:=0
def tw8871692858586285750:=0
def tw10451901358692528781:=0
def tw18009076329854183752:=0
def tw10604948724106709706:=0
def tw16509695591168798231:=0
def tw7624663030009978914:=0
def tw5040192988953359390:=0
def tw10283999004103910156:=0
def tw7489356219756256219:=0
def tw10567928999058824891:=0
def tw3154572176381157363:=0
def tw9329467984562762995:=0
def tw198148122976420608:=0
def tw2725058021103912953:=0
def tw8001964878778330372:=0
def tw16478827555927012161:=0
def tw2103518424020817434:=0
def tw650843864612751157:=0
def tw5874783089096935055:=0
def tw3177653062099324102:=0
def tw1964643294320876597:=0
def tw14106517028634232200:=0
def tw6818710576964141973:=0
def tw14432617773199453154:=0
def tw17467151732687278100:=0
def tw1052118411187247718:=0
def tw1818543647076553970:=0
def tw262193643288985263:=0
def tw8841871511228339289:=0
def tw1910565413121803498:=0
def tw2398355294305143097:=0
def tw17415114167965605719:=0
def tw7491082862306930764:=0
def tw13055950121502132738:=0
def tw10183594272571509392:=0
def tw8791326670888488683:=0
def tw1385253939369354212:=0
def tw8916840693976371512:=0
def tw1161946289022029261:=0
def tw190882796230325584:=0
def tw13536437681289640368:=0
def tw16884744671988705334:=0
def tw1803597972634708764:=0
def tw6655152673108675336:=0
def tw14975986732745414656:=0
def tw16707243966428758244:=0
def tw18345491466961977933:=0
def tw1837853025110823471:=0
def tw11338232136861604029:=0
def tw12410582102816607771:=0
def tw1801811990550692753:=0
def tw6214550268416609979:=0
def tw15801500981455656949:=0
def tw2045637881669714966:=0
def tw8950425373202492318:=0
def tw1937015256437811086:=0
def tw9066123188537708716:=0
def tw11351517555394050712:=0
def tw4929154507337441718:=0
def tw12536566937996904700:=0
def tw11681125328842229706:=0
def tw7501251755098437775:=0
def tw5183887961769650733:=0
def tw638392728311164359:=0
def tw3122027928891829142:=0
def tw3917203830958350216:=0
def tw19608789696422315:=0
def tw1809557309206421269:=0
def tw10504636666436230680:=0
def tw17437307344402463423:=0
def tw2609997814909687254:=0
def tw2840006878358811142:=0
def tw10112754071032744571:=0
def tw4212311714296984723:=0
def tw2228256540164645644:=0
def tw8162269033483284910:=0
def tw17738722209551708715:=0
def tw4332901843562159659:=0
def tw13638195629205035676:=0
def tw15883285780992019913:=0
def tw11871209421101419513:=0
def tw15903960359388700697:=0
def tw8429392331730936997:=0
def tw3438474321603953428:=0
def tw1687266918332841246:=0
def tw12183565021942537095:=0
def tw17646612862155462520:=0
def tw11021735812575819017:=0
def tw10772553954826929907:=0
def tw9041436812101234097:=0
def tw10152660565848412746:=0
def tw7204629511664429965:=0
def tw2792117413378874688:=0
def tw17332501912466081083:=0
def tw5074388376242932104:=0
def tw15758766118099701675:=0
def tw13471893284292654404:=0
def tw7891196599923229687:=0
def tw267537209773310734:=0
def tw17203574112136757065:=0
def tw4803851847110509138:=0
def tw15154348123516169718:=0
def tw2399264090929727618:=0
def tw13148882898622071018:=0
def tw6763999134759643398:=0
def tw17623655829933267388:=0
def tw10706821165907979202:=0
def tw774097421216146123:=0
def tw17909848090753352846:=0
def tw261127734416891141:=0
def tw16996980625265138778:=0
def tw16497700267261387439:=0
def tw7759762583657182223:=0
def tw3753143417625902953:=0
def tw9557718090949780342:=0
def tw5092971956319499389:=0
def tw10139941264717904536:=0
def tw7309879128150598281:=0
def tw2916596184828355643:=0
def tw13455435595924511410:=0
def tw8957396569363176508:=0
def tw16979030641792876155:=0
def tw576488265074251921:=0
def tw6216903843588682352:=0
def tw1088361154107587872:=0
def tw14651253703782820784:=0
def tw8371143245420372250:=0
def tw18231249710807509807:=0
def tw3865515288008726266:=0
def tw8069048635211867694:=0
def tw4382753048545843065:=0
def tw16683308412766178325:=0
def tw11830922345236709533:=0
def tw13604545733681919913:=0
def tw3345739178457427953:=0
def tw15693994330101724327:=0
def tw2423579667220235417:=0
def tw8873298902593274028:=0
def tw14364167481365479279:=0
def tw5351340627137977291:=0
def tw8876323580077826609:=0
def tw13685586645190857510:=0
def tw638946607958526768:=0
def tw1058215452549075965:=0
def tw8178886815931213830:=0
def tw2307323234062964758:=0
def tw10304479366691011003:=0
def tw2325446270755225188:=0
def tw14357162629481303542:=0
def tw5881942885533974603:=0
def tw807997605375922567:=0
def tw8129637052014014869:=0
def tw6663390203154421941:=0
def tw4504190444901507448:=0
def tw14734127754325591593:=0
def tw1195873002358291931:=0
def tw15767864539954766792:=0
def tw9200442133031727854:=0
def tw10449913624306595481:=0
def tw5156980069749149905:=0
def tw18400874476185733934:=0
def tw2518588376560960984:=0
def tw12874106239905241598:=0
def tw14661475832279846977:=0
def tw10001835706381468761:=0
def tw7608955499712788383:=0
def tw2819132926841875703:=0
def tw3629163083532518445:=0
def tw10095224165875952774:=0
def tw6018594510514658089:=0
def tw9663911146946521443:=0
def tw12900241427284213515:=0
def tw3686606611269571347:=0
def tw5130912857136586817:=0
def tw13050514318672824111:=0
def tw15109425805886238631:=0
def tw5245386680392500634:=0
def tw13317929735322928250:=0
def tw7026096246041978401:=0
def tw8119797400445918866:=0
def tw14890343155767466210:=0
def tw16294463538408735163:=0
def tw11731930344809091354:=0
def tw3080898734353208309:=0
def tw17509300747909811172:=0
def tw8486247364970613140:=0
def tw4289629831754603316:=0
def tw10589008222028950678:=0
def tw9312098068699249925:=0
def tw8354680620493792297:=0
def tw12688520835302736921:=0
def tw12439559900318180540:=0
def tw10021817526158868172:=0
def tw6512732812354712065:=0
def tw6492330134096733338:=0
def tw16996690702319916535:=0
def tw9978737879533619958:=0
def tw10268038491963354286:=0
def tw15501441360420670553:=0
def tw4823633252955324364:=0
def tw13685843149291128553:=0
def tw6839035165511462694:=0
end PySem.W.Fast
open PySem PySem.W PyProof.Rows in
open_shared tp for PySem.Challenge.pw_measurebook_s01_answers leaving 0
namespace MB
open PySem PySem.W PySem.Calls PyProof.Rows
noncomputable abbrev pw:Program:=PySem.Challenge.pw_measurebook_s01_answers
noncomputable abbrev z4:Pos:=⟨0,0,0,0⟩
noncomputable abbrev dr:Drawn:=⟨0,0,0,0⟩
noncomputable abbrev an:Option Value:=some (.ref 6)
noncomputable abbrev cE:Code:=.body (behindTheImports pw) tp.env_1
noncomputable abbrev lf:Life:=⟨[],[],[],0,[],[],false,#[],[],0,false,false,false,0,[2000,10,10],false,0,true,[],[],0,false⟩
noncomputable abbrev Hf (P:Params):Heap:=absHeap (tp.tree_966 P) 921 lf
noncomputable abbrev S0 (w:World) (os:OsState):Shared:=⟨boot_heap w.params,#[],boot_drawn,boot_toks,os⟩
noncomputable abbrev Sb (w:World) (os:OsState):Shared:=⟨absHeap (tp.tree_4 w.params) 15 lf,#[],dr,187,os⟩
noncomputable abbrev Sf (w:World) (os:OsState):Shared:=⟨Hf w.params,#[],dr,1576,os⟩
theorem SI(w:World)(os:OsState):topRun treeTable pw w 11 an 2 (Sf w os) ⟨doneF .next,cE,⟨682,0,690,19⟩,[topFrame z4]⟩=some (Sf w os):=by kernel_rfl
theorem By(w:World)(os:OsState):topGo treeTable pw w 11 an 12 (S0 w os) (topStub pw)=some (Sb w os,⟨denote treeTable cE,cE,z4,[topFrame z4]⟩):=by kernel_rfl
theorem Sl(w:World)(os:OsState):segRun treeTable pw w 11 an 1 1 (Sb w os) (blockOf (behindTheImports pw) tp.env_1 cE z4 [topFrame z4])=some (.next,Sb w os,cE,z4):=by kernel_rfl
def KF(P:Params):Frag:=(nat_lit 2,boot_o_2 P)::(nat_lit 3,tp.o_916 P)::(nat_lit 27,tp.o_19 P)::(nat_lit 28,tp.o_20 P)::(nat_lit 30,tp.o_22 P)::(nat_lit 31,tp.o_23 P)::(nat_lit 32,tp.o_24 P)::(nat_lit 33,tp.o_25 P)::(nat_lit 41,tp.o_33 P)::(nat_lit 42,tp.o_34 P)::(nat_lit 48,tp.o_40 P)::(nat_lit 49,tp.o_41 P)::(nat_lit 55,tp.o_47 P)::(nat_lit 56,tp.o_48 P)::(nat_lit 62,tp.o_54 P)::(nat_lit 63,tp.o_55 P)::(nat_lit 69,tp.o_64 P)::(nat_lit 70,tp.o_65 P)::(nat_lit 76,tp.o_71 P)::(nat_lit 77,tp.o_72 P)::(nat_lit 83,tp.o_78 P)::(nat_lit 84,tp.o_79 P)::(nat_lit 90,tp.o_85 P)::(nat_lit 91,tp.o_86 P)::(nat_lit 97,tp.o_92 P)::(nat_lit 98,tp.o_93 P)::(nat_lit 104,tp.o_99 P)::(nat_lit 105,tp.o_100 P)::(nat_lit 109,tp.o_104 P)::(nat_lit 110,tp.o_105 P)::(nat_lit 116,tp.o_111 P)::(nat_lit 117,tp.o_112 P)::(nat_lit 127,tp.o_125 P)::(nat_lit 130,tp.o_128 P)::(nat_lit 131,tp.o_129 P)::(nat_lit 133,tp.o_131 P)::(nat_lit 134,tp.o_132 P)::(nat_lit 135,tp.o_133 P)::(nat_lit 136,tp.o_134 P)::(nat_lit 151,tp.o_152 P)::(nat_lit 152,tp.o_153 P)::(nat_lit 154,tp.o_155 P)::(nat_lit 155,tp.o_156 P)::(nat_lit 156,tp.o_157 P)::(nat_lit 157,tp.o_158 P)::(nat_lit 163,tp.o_164 P)::(nat_lit 164,tp.o_165 P)::(nat_lit 170,tp.o_171 P)::(nat_lit 171,tp.o_172 P)::(nat_lit 177,tp.o_178 P)::(nat_lit 178,tp.o_179 P)::(nat_lit 182,tp.o_183 P)::(nat_lit 183,tp.o_184 P)::(nat_lit 187,tp.o_188 P)::(nat_lit 188,tp.o_189 P)::(nat_lit 192,tp.o_193 P)::(nat_lit 193,tp.o_194 P)::(nat_lit 199,tp.o_203 P)::(nat_lit 200,tp.o_204 P)::(nat_lit 206,tp.o_210 P)::(nat_lit 207,tp.o_211 P)::(nat_lit 213,tp.o_217 P)::(nat_lit 214,tp.o_218 P)::(nat_lit 220,tp.o_224 P)::(nat_lit 221,tp.o_225 P)::(nat_lit 227,tp.o_231 P)::(nat_lit 228,tp.o_232 P)::(nat_lit 234,tp.o_238 P)::(nat_lit 235,tp.o_239 P)::(nat_lit 239,tp.o_243 P)::(nat_lit 240,tp.o_244 P)::(nat_lit 246,tp.o_250 P)::(nat_lit 247,tp.o_251 P)::(nat_lit 251,tp.o_255 P)::(nat_lit 252,tp.o_256 P)::(nat_lit 265,tp.o_272 P)::(nat_lit 266,tp.o_273 P)::(nat_lit 268,tp.o_275 P)::(nat_lit 269,tp.o_276 P)::(nat_lit 270,tp.o_277 P)::(nat_lit 271,tp.o_278 P)::(nat_lit 286,tp.o_296 P)::(nat_lit 287,tp.o_297 P)::(nat_lit 289,tp.o_299 P)::(nat_lit 290,tp.o_300 P)::(nat_lit 291,tp.o_301 P)::(nat_lit 292,tp.o_302 P)::(nat_lit 298,tp.o_308 P)::(nat_lit 299,tp.o_309 P)::(nat_lit 305,tp.o_315 P)::(nat_lit 306,tp.o_316 P)::(nat_lit 312,tp.o_322 P)::(nat_lit 313,tp.o_323 P)::(nat_lit 319,tp.o_329 P)::(nat_lit 320,tp.o_330 P)::(nat_lit 326,tp.o_336 P)::(nat_lit 327,tp.o_337 P)::(nat_lit 333,tp.o_346 P)::(nat_lit 334,tp.o_347 P)::(nat_lit 340,tp.o_353 P)::(nat_lit 341,tp.o_354 P)::(nat_lit 347,tp.o_360 P)::(nat_lit 348,tp.o_361 P)::(nat_lit 354,tp.o_367 P)::(nat_lit 355,tp.o_368 P)::(nat_lit 361,tp.o_374 P)::(nat_lit 362,tp.o_375 P)::(nat_lit 368,tp.o_381 P)::(nat_lit 369,tp.o_382 P)::(nat_lit 372,tp.o_385 P)::(nat_lit 375,tp.o_388 P)::(nat_lit 376,tp.o_389 P)::(nat_lit 382,tp.o_395 P)::(nat_lit 383,tp.o_396 P)::(nat_lit 389,tp.o_402 P)::(nat_lit 390,tp.o_403 P)::(nat_lit 394,tp.o_407 P)::(nat_lit 395,tp.o_408 P)::(nat_lit 401,tp.o_414 P)::(nat_lit 402,tp.o_415 P)::(nat_lit 415,tp.o_431 P)::(nat_lit 416,tp.o_432 P)::(nat_lit 418,tp.o_434 P)::(nat_lit 419,tp.o_435 P)::(nat_lit 420,tp.o_436 P)::(nat_lit 421,tp.o_437 P)::(nat_lit 427,tp.o_443 P)::(nat_lit 428,tp.o_444 P)::(nat_lit 432,tp.o_448 P)::(nat_lit 433,tp.o_449 P)::(nat_lit 437,tp.o_453 P)::(nat_lit 438,tp.o_454 P)::(nat_lit 442,tp.o_458 P)::(nat_lit 443,tp.o_459 P)::(nat_lit 449,tp.o_465 P)::(nat_lit 450,tp.o_466 P)::(nat_lit 456,tp.o_472 P)::(nat_lit 457,tp.o_473 P)::(nat_lit 463,tp.o_482 P)::(nat_lit 464,tp.o_483 P)::(nat_lit 468,tp.o_487 P)::(nat_lit 469,tp.o_488 P)::(nat_lit 473,tp.o_492 P)::(nat_lit 474,tp.o_493 P)::(nat_lit 480,tp.o_499 P)::(nat_lit 481,tp.o_500 P)::(nat_lit 487,tp.o_506 P)::(nat_lit 488,tp.o_507 P)::(nat_lit 494,tp.o_513 P)::(nat_lit 495,tp.o_514 P)::(nat_lit 501,tp.o_520 P)::(nat_lit 502,tp.o_521 P)::(nat_lit 508,tp.o_527 P)::(nat_lit 509,tp.o_528 P)::(nat_lit 515,tp.o_534 P)::(nat_lit 516,tp.o_535 P)::(nat_lit 519,tp.o_538 P)::(nat_lit 522,tp.o_541 P)::(nat_lit 523,tp.o_542 P)::(nat_lit 529,tp.o_548 P)::(nat_lit 530,tp.o_549 P)::(nat_lit 543,tp.o_568 P)::(nat_lit 544,tp.o_569 P)::(nat_lit 546,tp.o_571 P)::(nat_lit 547,tp.o_572 P)::(nat_lit 548,tp.o_573 P)::(nat_lit 549,tp.o_574 P)::(nat_lit 564,tp.o_592 P)::(nat_lit 565,tp.o_593 P)::(nat_lit 567,tp.o_595 P)::(nat_lit 568,tp.o_596 P)::(nat_lit 569,tp.o_597 P)::(nat_lit 570,tp.o_598 P)::(nat_lit 578,tp.o_606 P)::(nat_lit 579,tp.o_607 P)::(nat_lit 582,tp.o_610 P)::(nat_lit 585,tp.o_613 P)::(nat_lit 586,tp.o_614 P)::(nat_lit 599,tp.o_630 P)::(nat_lit 600,tp.o_631 P)::(nat_lit 602,tp.o_633 P)::(nat_lit 603,tp.o_634 P)::(nat_lit 604,tp.o_635 P)::(nat_lit 605,tp.o_636 P)::(nat_lit 610,tp.o_641 P)::(nat_lit 613,tp.o_644 P)::(nat_lit 614,tp.o_645 P)::(nat_lit 620,tp.o_651 P)::(nat_lit 621,tp.o_652 P)::(nat_lit 627,tp.o_658 P)::(nat_lit 628,tp.o_659 P)::(nat_lit 634,tp.o_665 P)::(nat_lit 635,tp.o_666 P)::(nat_lit 639,tp.o_670 P)::(nat_lit 640,tp.o_671 P)::(nat_lit 641,tp.o_675 P)::(nat_lit 654,tp.o_688 P)::(nat_lit 655,tp.o_689 P)::(nat_lit 657,tp.o_691 P)::(nat_lit 658,tp.o_692 P)::(nat_lit 659,tp.o_693 P)::(nat_lit 660,tp.o_694 P)::(nat_lit 668,tp.o_702 P)::(nat_lit 669,tp.o_703 P)::(nat_lit 673,tp.o_707 P)::(nat_lit 674,tp.o_708 P)::(nat_lit 680,tp.o_714 P)::(nat_lit 681,tp.o_715 P)::(nat_lit 685,tp.o_719 P)::(nat_lit 686,tp.o_720 P)::(nat_lit 690,tp.o_727 P)::(nat_lit 691,tp.o_728 P)::(nat_lit 697,tp.o_734 P)::(nat_lit 698,tp.o_735 P)::(nat_lit 704,tp.o_741 P)::(nat_lit 705,tp.o_742 P)::(nat_lit 711,tp.o_748 P)::(nat_lit 712,tp.o_749 P)::(nat_lit 718,tp.o_755 P)::(nat_lit 719,tp.o_756 P)::(nat_lit 725,tp.o_762 P)::(nat_lit 726,tp.o_763 P)::(nat_lit 732,tp.o_769 P)::(nat_lit 733,tp.o_770 P)::(nat_lit 736,tp.o_773 P)::(nat_lit 739,tp.o_776 P)::(nat_lit 740,tp.o_777 P)::(nat_lit 746,tp.o_783 P)::(nat_lit 747,tp.o_784 P)::(nat_lit 753,tp.o_790 P)::(nat_lit 754,tp.o_791 P)::(nat_lit 760,tp.o_797 P)::(nat_lit 761,tp.o_798 P)::(nat_lit 767,tp.o_807 P)::(nat_lit 768,tp.o_808 P)::(nat_lit 774,tp.o_814 P)::(nat_lit 775,tp.o_815 P)::(nat_lit 781,tp.o_821 P)::(nat_lit 782,tp.o_822 P)::(nat_lit 786,tp.o_826 P)::(nat_lit 787,tp.o_827 P)::(nat_lit 793,tp.o_833 P)::(nat_lit 794,tp.o_834 P)::(nat_lit 800,tp.o_840 P)::(nat_lit 801,tp.o_841 P)::(nat_lit 807,tp.o_847 P)::(nat_lit 808,tp.o_848 P)::(nat_lit 814,tp.o_854 P)::(nat_lit 815,tp.o_855 P)::(nat_lit 818,tp.o_858 P)::(nat_lit 821,tp.o_861 P)::(nat_lit 822,tp.o_862 P)::(nat_lit 828,tp.o_868 P)::(nat_lit 829,tp.o_869 P)::(nat_lit 835,tp.o_875 P)::(nat_lit 836,tp.o_876 P)::(nat_lit 842,tp.o_882 P)::(nat_lit 843,tp.o_883 P)::(nat_lit 849,tp.o_892 P)::(nat_lit 850,tp.o_893 P)::(nat_lit 863,tp.o_906 P)::(nat_lit 864,tp.o_907 P)::(nat_lit 866,tp.o_909 P)::(nat_lit 867,tp.o_910 P)::(nat_lit 868,tp.o_911 P)::(nat_lit 869,tp.o_912 P)::(nat_lit 877,tp.o_923 P)::(nat_lit 878,tp.o_924 P)::(nat_lit 884,tp.o_930 P)::(nat_lit 885,tp.o_931 P)::(nat_lit 891,tp.o_937 P)::(nat_lit 892,tp.o_938 P)::(nat_lit 898,tp.o_944 P)::(nat_lit 899,tp.o_945 P)::(nat_lit 905,tp.o_951 P)::(nat_lit 906,tp.o_952 P)::(nat_lit 912,tp.o_958 P)::(nat_lit 913,tp.o_959 P)::(nat_lit 919,tp.o_965 P)::(nat_lit 920,tp.o_966 P)::[]
theorem gf(P:Params):(Hf P).get? =λa=>match (if a<921 then some (((tp.tree_966 P).get a).getD default) else none) with
 | some ⟨_,_,.freed,_⟩=>none
 | o=>o:=by
 funext a
 unfold Heap.get?
 rw[absHeap_at]
 rfl
theorem UJ(P:Params):(KF P).In (Hf P):=by
 refine Frag.in_of rfl ?_
 rw[gf]
 kernel_rfl
abbrev lo:List Str:=pw.boundNames
abbrev qv:Program:={pw with main:={pw.main with body:=[pw.main.body.getD 186 (.Pass z4)]}}
theorem U7(P:Params):(Hf P).nsKeys mainGlobals=startupNames++lo.tail:=by kernel_rfl
theorem Ga{f:Str->Bool}(P:Params)(h1:∀k∈startupNames,f k=true)(h2:∀k∈lo,f k=true):((Hf P).nsKeys mainGlobals).all f=true:=by
 rw[U7,List.all_append,cx.mpr h1,cx.mpr λk hk=>h2 k (List.mem_of_mem_tail hk)]
 rfl
theorem Vc(P:Params):staticsOk (importedModules pw.main.body) (boot_heap P) (Hf P)=true:=by kernel_rfl
theorem Vd(P:Params):namesBound pw (Hf P)=true:=by
 unfold namesBound
 rw[Ga P (λk hk=>by rw[eK.mpr hk];rfl) (λk hk=>by rw[show lo.contains k=true from eK.mpr hk,Bool.or_true])]
 kernel_rfl
theorem Ve(P:Params):laidKept (boot_heap P) (Hf P)=true:=by kernel_rfl
theorem Vg(w:World)(os:OsState):seen ((recsOf qv).map (·.name)) (ownsOf qv) [] {Sf w os with gens:=#[]}=expectedOf qv:=by kernel_rfl
theorem Vl(P:Params):(Hf P).bltView=bltViewBooted:=by kernel_rfl
theorem Vm(P:Params):(Hf P).keysOk (looseW qv lo) ((recsOf qv).map (·.name)) ((litsOf qv).map (·.1)) ((clssOf qv (looseW qv lo)).map (·.name))=true:=by
 unfold Heap.keysOk
 refine Ga P (λk hk=>by rw[eK.mpr hk];rfl) (λk hk=>?_)
 have:(looseW qv lo).contains k=true:=eK.mpr (by
  unfold looseW looseD heldW
  exact di _ (di _ (di _ hk)))
 rw[this];simp
theorem Vn(P:Params):(Hf P).accountedOkI (importedModules pw.main.body)=true:=by kernel_rfl
theorem Vo(P:Params):(Hf P).isNs mainGlobals=true:=by kernel_rfl
theorem Vp(P:Params):(Hf P).isNs builtinsNs=true:=by kernel_rfl
theorem Vq(P:Params):tablesOk qv (Hf P)=true:=by kernel_rfl
theorem Vr(w:World)(os:OsState):tabsOk qv (Sf w os)=true:=by kernel_rfl
theorem Vs(w:World)(os:OsState):pinSeenD qv (drecsOf qv) (Sf w os)=pinGoodD (drecsOf qv):=by kernel_rfl
theorem Vh(w:World)(os:OsState):plainSeenE qv (looseW qv lo) (Sf w os)=plainGoodE qv (looseW qv lo):=by kernel_rfl
theorem Vi(w:World)(os:OsState):plainSeenD qv lo (Sf w os)=plainGoodD qv lo:=by kernel_rfl
theorem Vj(w:World)(os:OsState):wideSeen qv (Sf w os)=wideGood qv:=by kernel_rfl
theorem Vk(w:World)(os:OsState):clsSeenW qv lo (Sf w os)=clsGoodW qv lo:=by kernel_rfl
theorem Vy:LeftO pw qv lo (λs=>recOk [] s) (λs=>s.heap) (λw=>Hf w.params) 12734:=by
 refine LeftO.of_pieces (H₀:=boot_heap) (H₁:=Hf) (gs₀:=Array.mk []) (gs₁:=#[]) (d₀:=boot_drawn) (d₁:=dr) (k₀:=boot_toks) (k₁:=1576) (m₀:=11) (ann:=an) (M:=6338) (boot_open ?e ?n ?f) ?s ?r ?l λw=>?k
 case e=>kernel_rfl
 case n=>rfl
 case f=>intro s;kernel_rfl
 case s=>intro w;kernel_rfl
 case r=>intro w os;exact go_top (n:=12) (By w os) (piece_block (n:=1) (Sl w os) (tp.chain pw (behindTheImports pw) w os [] 2 _ (SI w os)))
 case l=>rfl
 case k=>
  funext os
  refine looks_pair ?_ (looks_pair ?_ rfl)
  ·rw[Vc,Vd,Ve];rfl
  ·unfold openSeen openGood
   refine looks_pair (Vg w os) (looks_pair (Vl _) (looks_pair ?_ (looks_pair (Vr w os) (looks_pair (Vs w os) (looks_pair (Vh w os) (looks_pair (Vi w os) (looks_pair (Vj w os) (Vk w os))))))))
   rw[Vm,Vn,Vo,Vp,Vq];rfl
end MB
namespace MB
open Vaunia
noncomputable def kX(q:Q):Prop:=0<q.den/\Nat.gcd q.num.natAbs q.den=1
theorem EJ{n:Int}{d:Nat}(h:0<d):0<Nat.gcd n.natAbs d:=Nat.gcd_pos_of_pos_right _ h
theorem s_{n:Int}{d:Nat}(h:0<d):Q.of n d=⟨n/(Nat.gcd n.natAbs d:Int),d/Nat.gcd n.natAbs d⟩:=by
 unfold Q.of;rw[aq (by omega)]
theorem Qu(n:Int)(d:Nat):((Nat.gcd n.natAbs d:Nat):Int) ∣ n:=Int.ofNat_dvd_left.mpr (Nat.gcd_dvd_left _ _)
theorem rJ(n:Int){d:Nat}(h:0<d):∃g:Nat,0<g/\n=(Q.of n d).num*g/\d=(Q.of n d).den*g/\g=Nat.gcd n.natAbs d:=by
 refine⟨Nat.gcd n.natAbs d,EJ h,?_,?_,rfl⟩
 ·rw[s_ h];exact(Int.ediv_mul_cancel (Qu n d)).symm
 ·rw[s_ h];exact(Nat.div_mul_cancel (Nat.gcd_dvd_right _ _)).symm
theorem oR(n:Int){d:Nat}(h:0<d):kX (Q.of n d):=by
 obtain⟨g,hg,e1,e2,e3⟩:=rJ n h
 generalize Q.of n d=q at *
 have hd:0<q.den:=by
  rcases cn q.den with z | z
  ·rw[z,gO]at e2;omega
  ·exact z
 refine⟨hd,?_⟩
 have e4:n.natAbs=q.num.natAbs*g:=by rw[e1,cN,bS]
 rw[e4,e2,Nat.gcd_mul_right]at e3
 have e5:1*g=Nat.gcd q.num.natAbs q.den*g:=by rw[Nat.one_mul];exact e3
 exact(Nat.eq_of_mul_eq_mul_right hg e5).symm
theorem rK{q:Q}(h:kX q):Q.of q.num q.den=q:=by
 rw[s_ h.1,h.2]
 show(⟨q.num/1,q.den/1⟩:Q)=q
 rw[Int.ediv_one,Nat.div_one]
theorem pL{n:Int}{d:Nat}(h:0<d):0<(Q.of n d).den:=(oR n h).1
theorem pM(n:Int){d:Nat}(h:0<d):(Q.of n d).num*d=n*(Q.of n d).den:=by
 obtain⟨g,hg,e1,e2,e3⟩:=rJ n h
 generalize Q.of n d=q at *
 have Qy:(d:Int)=q.den*g:=by rw[e2];exact aW _ _
 rw[e1,Qy];grind
theorem N0{p q:Q}(hp:kX p)(hq:kX q)(e:p.num*q.den=q.num*p.den):p=q:=by
 have e':p.num.natAbs*q.den=q.num.natAbs*p.den:=by
  have:=cB Int.natAbs e
  rw[cN,cN,bS,bS]at this
  exact this
 have d1:p.den ∣ q.den:=by
  have:p.den ∣ p.num.natAbs*q.den:=⟨q.num.natAbs,by rw[e',Nat.mul_comm]⟩
  exact(fP (Nat.Coprime.symm hp.2) this)
 have d2:q.den ∣ p.den:=by
  have:q.den ∣ q.num.natAbs*p.den:=⟨p.num.natAbs,by rw[<-e',Nat.mul_comm]⟩
  exact(fP (Nat.Coprime.symm hq.2) this)
 have ed:p.den=q.den:=Nat.dvd_antisymm d1 d2
 have en:p.num=q.num:=by
  rw[ed]at e
  have h0:((q.den:Nat):Int)≠0:=by have:=hq.1;omega
  exact eQ h0 e
 cases p;cases q;cases ed;cases en;rfl
theorem uR{n n':Int}{d d':Nat}(h:0<d)(h':0<d')(e:n*d'=n'*d):Q.of n d=Q.of n' d':=by
 refine N0 (oR n h) (oR n' h') ?_
 have a:=pM n h
 have b:=pM n' h'
 have hd:(d:Int)≠0:=by omega
 have lV:(d':Int)≠0:=by omega
 refine eQ (Int.mul_ne_zero hd lV) ?_
 grind
theorem WM{n n':Int}{d d':Nat}(h:0<d)(h':0<d')(e:Q.of n d=Q.of n' d'):n*d'=n'*d:=by
 have a:=pM n h
 have b:=pM n' h'
 rw[e]at a
 have hp:=pL (n:=n') h'
 have hq:((Q.of n' d').den:Int)≠0:=by omega
 refine eQ hq ?_
 grind
theorem GI(a c:Int){b d:Nat}(hb:0<b)(hd:0<d):Q.mul (Q.of a b) (Q.of c d)=Q.of (a*c) (b*d):=by
 unfold Q.mul
 have p1:=pL (n:=a) hb
 have p2:=pL (n:=c) hd
 refine uR (bL p1 p2) (bL hb hd) ?_
 have e1:=pM a hb
 have e2:=pM c hd
 rw[aW,aW];grind
theorem Ie(a:Int){b:Nat}(hb:0<b)(k:Nat):Q.pow (Q.of a b) k=Q.of (a^k) (b^k):=by
 unfold Q.pow
 have p1:=pL (n:=a) hb
 refine uR (eR p1) (eR hb) ?_
 have e1:=pM a hb
 rw[bH,bH,<-Int.mul_pow,<-Int.mul_pow,e1]
theorem F3{a:Nat}{b:Nat}(ha:0<a)(hb:0<b):Q.inv (Q.of a b)=Q.of b a:=by
 obtain⟨g,hg,e1,e2,-⟩:=rJ (a:Int) hb
 have p1:=pL (n:=(a:Int)) hb
 generalize Q.of (a:Int) b=q at *
 have hn:0<q.num:=by
  rcases gP 0 q.num with z | z
  ·exact z
  ·have:q.num*g<=0:=fm z (by omega)
   omega
 unfold Q.inv
 rw[Int.sign_eq_one_of_pos hn,Int.one_mul]
 have Tr:0<q.num.natAbs:=by omega
 refine uR Tr ha ?_
 have:(q.num.natAbs:Int)=q.num:=by omega
 rw[this,e2,aW,e1];grind
noncomputable def Pos(q:Q):Prop:=kX q/\0<q.num
theorem WN{n:Int}{d:Nat}(h:0<d)(hn:0<n):0<(Q.of n d).num:=by
 obtain⟨g,hg,e1,e2,-⟩:=rJ n h
 generalize Q.of n d=q at *
 rcases gP 0 q.num with z | z
 ·exact z
 ·have:q.num*g<=0:=fm z (by omega)
  omega
noncomputable def above(q:Q)(k:Int):Nat:=if 0<k then q.num.natAbs^k.natAbs else q.den^k.natAbs
noncomputable def below(q:Q)(k:Int):Nat:=if 0<k then q.den^k.natAbs else q.num.natAbs^k.natAbs
theorem Ar{q:Q}(h:Pos q)(k:Int):0<above q k:=by
 unfold above;split
 ·exact eR (by have:=h.2;omega)
 ·exact eR h.1.1
theorem vO{q:Q}(h:Pos q)(k:Int):0<below q k:=by
 unfold below;split
 ·exact eR h.1.1
 ·exact eR (by have:=h.2;omega)
theorem Hc{q:Q}(h:Pos q):Q.of (q.num.natAbs:Int) q.den=q:=by
 have:(q.num.natAbs:Int)=q.num:=by have:=h.2;omega
 rw[this];exact rK h.1
theorem inv_pos{q:Q}(h:Pos q):Q.inv q=Q.of (q.den:Int) q.num.natAbs:=by
 have hn:0<q.num.natAbs:=by have:=h.2;omega
 have e:=F3 hn h.1.1
 rw[Hc h]at e;exact e
theorem DG{q:Q}(h:Pos q)(k:Int):Q.zpow q k=Q.of (above q k) (below q k):=by
 have hn:0<q.num.natAbs:=by have:=h.2;omega
 have eq:=Hc h
 have QL:Q.inv q=Q.of (q.den:Int) q.num.natAbs:=by
  have:=F3 hn h.1.1
  rw[eq]at this;exact this
 unfold Q.zpow
 by_cases hk:k<0
 ·rw[aE hk,QL,Ie _ hn]
  unfold above below
  rw[aq (by omega),aq (by omega),bH]
 ·rw[aq hk]
  rcases gP 0 k with z | z
  ·unfold above below
   rw[aE z,aE z]
   have e2:k.toNat=k.natAbs:=by omega
   conv=>lhs;rw[<-eq]
   rw[Ie _ h.1.1,e2,bH]
  ·have:k=0:=by omega
   subst this
   unfold above below
   simp[Q.pow]
theorem CZ{n:Int}{d:Nat}(h:0<d)(hn:0<n):Pos (Q.of n d):=⟨oR n h,WN h hn⟩
theorem one_pos:Pos Q.one:=⟨⟨by decide,by decide⟩,by decide⟩
theorem zpow_pos{q:Q}(h:Pos q)(k:Int):Pos (Q.zpow q k):=by
 rw[DG h]
 exact CZ (vO h k) (by have:=Ar h k;omega)
theorem yl{p q:Q}(hp:kX p)(hq:Pos q):Q.div p q=Q.of (p.num*q.den) (p.den*q.num.natAbs):=by
 have hn:0<q.num.natAbs:=by have:=hq.2;omega
 unfold Q.div
 rw[inv_pos hq]
 conv=>lhs;rw[<-rK hp]
 rw[GI _ _ hp.1 hn]
theorem WQ{d:Nat}(h:0<d):Q.of 0 d=⟨0,1⟩:=by
 rw[s_ h];simp[Nat.div_self h]
noncomputable def jW:Nat->Nat->Nat->Nat
 | 0,_,_=>0
 | f+1,a,b=>if b=0 then a else jW f b (a % b)
theorem GW:∀(f a b:Nat),jW f a b≠0->jW f a b=Nat.gcd a b
 | 0,_,_,h=>absurd rfl h
 | f+1,a,b,h=>by
  unfold jW at h ⊢
  by_cases e:b=0
  ·rw[aE e];subst e;exact(Nat.gcd_zero_right a).symm
  ·rw[aq e]at h ⊢
   rw[GW f b (a % b) h,gQ b,<-Nat.gcd_rec,gQ]
theorem GX{g:Nat}(hg:0<g):∀(f a b:Nat),jW f (a*g) (b*g)=jW f a b*g
 | 0,_,_=>(gO g).symm
 | f+1,a,b=>by
  unfold jW
  by_cases e:b=0
  ·subst e;rw[gO,aE rfl,aE rfl]
  ·rw[aq e,aq (by intro z;rcases Nat.mul_eq_zero.mp z with h | h<;>omega),Nat.mul_mod_mul_right,GX hg f]
noncomputable def oC:Nat->Nat×Nat
 | 0=>(0,1)
 | n+1=>((oC n).2,(oC n).1+(oC n).2)
theorem Gd:∀(n a b:Nat),b<a->jW (n+1) a b=0->(oC (n+2)).1<=b/\(oC (n+2)).2<=a
 | 0,a,b,h,e=>by
  unfold jW at e
  by_cases z:b=0
  ·rw[aE z]at e;omega
  ·have:(oC 2).1=1/\(oC 2).2=2:=by decide
   rw[this.1,this.2];omega
 | n+1,a,b,h,e=>by
  unfold jW at e
  by_cases z:b=0
  ·rw[aE z]at e;omega
  ·rw[aq z]at e
   have hb:0<b:=by omega
   obtain⟨h1,h2⟩:=Gd n b (a % b) (gR _ hb) e
   refine⟨h2,?_⟩
   show(oC (n+2)).1+(oC (n+2)).2<=a
   have e1:=Nat.div_add_mod a b
   have e2:1<=a/b:=(Nat.one_le_div_iff hb).mpr (by omega)
   have e3:b*1<=b*(a/b):=Nat.mul_le_mul_left b e2
   omega
theorem Q6:10^40<=(oC 202).2:=by decide +kernel
theorem Wc{a b:Nat}(ha:0<a)(hb:b<10^40):jW 202 a b≠0:=by
 intro e
 by_cases z:b=0
 ·unfold jW at e
  rw[aE z]at e;omega
 ·unfold jW at e
  rw[aq z]at e
  have hp:0<b:=by omega
  have h:=(Gd 200 b (a % b) (gR _ hp) e).2
  have h3:=Q6
  have h4:(oC 202).2<=b:=h
  omega
theorem k9{q:Q}:near q=true↔q.num.natAbs<10^40/\q.den<10^40:=by
 unfold near LIMIT;simp
theorem We(q:Q):near (Q.neg q)=near q:=by
 unfold near Q.neg;simp
noncomputable def Cp(top:Int)(kQ:Nat):Option Q:=
 if top.natAbs=0 then some ⟨0,1⟩
 else if kQ*10^40<=top.natAbs\/top.natAbs*10^40<=kQ then none
 else if jW 202 top.natAbs kQ=0 then none
 else
  let q:Q:=⟨top/(jW 202 top.natAbs kQ:Int),kQ/jW 202 top.natAbs kQ⟩
  if 10^40<=q.num.natAbs\/10^40<=q.den then none else some q
theorem Wd(top:Int){kQ:Nat}(h:0<kQ):Cp top kQ=if near (Q.of top kQ) then some (Q.of top kQ) else none:=by
 unfold Cp
 by_cases z:top.natAbs=0
 ·have:top=0:=by omega
  subst this
  rw[aE z,WQ h];rfl
 rw[aq z]
 obtain⟨g,hg,e1,e2,e3⟩:=rJ top h
 have cq:=oR top h
 have eq:=s_ (n:=top) h
 rw[<-e3]at eq
 generalize hq:Q.of top kQ=q at *
 have e4:top.natAbs=q.num.natAbs*g:=by rw[e1,cN,bS]
 have hn:0<q.num.natAbs:=by
  rcases cn q.num.natAbs with y | y
  ·rw[y,gO]at e4;omega
  ·exact y
 by_cases c:kQ*10^40<=top.natAbs\/top.natAbs*10^40<=kQ
 ·rw[aE c,aq]
  intro iJ
  obtain⟨n1,n2⟩:=k9.mp iJ
  rcases c with c | c
  ·rw[e4,e2,Nat.mul_right_comm]at c
   have c':=Nat.le_of_mul_le_mul_right c hg
   have:1*10^40<=q.den*10^40:=eT _ cq.1
   omega
  ·rw[e4,e2,Nat.mul_right_comm]at c
   have c':=Nat.le_of_mul_le_mul_right c hg
   have:1*10^40<=q.num.natAbs*10^40:=eT _ hn
   omega
 rw[aq c]
 have hs:jW 202 top.natAbs kQ=jW 202 q.num.natAbs q.den*g:=by
  rw[e4,e2,GX hg]
 by_cases d:jW 202 top.natAbs kQ=0
 ·rw[aE d,aq]
  intro iJ
  obtain⟨n1,n2⟩:=k9.mp iJ
  rw[hs]at d
  rcases Nat.mul_eq_zero.mp d with y | y
  ·exact Wc hn n2 y
  ·omega
 rw[aq d]
 have eg:jW 202 top.natAbs kQ=g:=by rw[GW _ _ _ d,<-e3]
 rw[eg]
 show(if 10^40<=(top/(g:Int)).natAbs\/10^40<=kQ/g then none else some (⟨top/(g:Int),kQ/g⟩:Q))=_
 have en:top/(g:Int)=q.num:=by rw[eq]
 have ed:kQ/g=q.den:=by rw[eq]
 rw[en,ed]
 by_cases y:near q=true
 ·obtain⟨n1,n2⟩:=k9.mp y
  rw[aE y,aq (by omega)]
 ·rw[aq y,aE]
  have:¬(q.num.natAbs<10^40/\q.den<10^40):=λz=>y (k9.mpr z)
  omega
theorem qg{c:UInt8}:∀{t:List UInt8},c∈t->∃j,t[j]? =some c/\∀(m:Nat) (z:UInt8),m<j->t[m]? =some z->z≠c
 | d::r,h=>by
  by_cases e:d=c
  ·exact⟨0,by simp[e],λm z hm=>absurd hm (Nat.not_lt_zero _)⟩
  ·have h':c∈r:=by
    rcases aM.mp h with h | h
    ·exact absurd h.symm e
    ·exact h
   obtain⟨j,h1,h2⟩:=qg h'
   refine⟨j+1,by simpa using h1,λm z hm hz=>?_⟩
   cases m with
   | zero=>simp at hz;rw[<-hz];exact e
   | succ m=>exact h2 m z (by omega) (by simpa using hz)
theorem mM{c:UInt8}:∀{t:List UInt8},c∉t->cut c t=none
 | [],_=>rfl
 | d::r,h=>by
  unfold cut
  rw[aq (λe=>h (aM.mpr (.inl e.symm))),mM (λe=>h (aM.mpr (.inr e)))]
  rfl
theorem m_{c:UInt8}:∀{t:List UInt8} {j:Nat},t[j]? =some c->(∀(m:Nat) (z:UInt8),m<j->t[m]? =some z->z≠c)->cut c t=some (t.take j,t.drop (j+1))
 | [],j,h,_=>by simp at h
 | d::r,0,h,_=>by
  have e:d=c:=ae h
  unfold cut
  rw[aE e];rfl
 | d::r,j+1,h,k=>by
  unfold cut
  rw[aq (k 0 d (by omega) rfl),m_ (t:=r) (j:=j) (by simpa using h) (λm z hm hz=>k (m+1) z (by omega) (by simpa using hz))]
  rfl
theorem digitsVal_snoc(t:List UInt8)(c:UInt8):digitsVal (t++[c])=10*digitsVal t+(c.toNat-48):=by
 unfold digitsVal
 rw[gz];rfl
theorem Ea{c:UInt8}(h:isDigit c=true):48<=c.toNat/\c.toNat<=57:=by
 unfold isDigit at h;simpa using h
theorem vZ(t:List UInt8)(h:t.all isDigit=true):digitsVal t<10^t.length:=by
 have key:∀(l:List UInt8) (n k:Nat),l.all isDigit=true->n<10^k->l.foldl (λn c=>10*n+(c.toNat-48)) n<10^(k+l.length):=by
  intro l
  induction l with
  | nil=>intro n k _ hn;exact hn
  | cons c r ih=>
   intro n k hl hn
   rw[ff,aZ]at hl
   have:=Ea hl.1
   have h2:=ih (10*n+(c.toNat-48)) (k+1) hl.2 (by rw[gS];omega)
   rw[gc,ai]
   have e:k+1+r.length=k+(r.length+1):=by omega
   rw[<-e];exact h2
 have:=key t 0 0 h (by decide)
 rw[gT]at this
 exact this
theorem Nr{a b:List UInt8}(ha:allDigits a=true)(hb:allDigits b=true):allDigits (a++b)=true:=by
 unfold allDigits at *
 simp only[aZ,List.all_append]at *
 exact⟨by cases a with | nil=>simp at ha | cons x r=>rfl,ha.2,hb.2⟩
theorem oq{a:List UInt8}(ha:allDigits a=true):a.all isDigit=true:=by
 unfold allDigits at ha
 simp only[aZ]at ha
 exact ha.2
noncomputable def pK(q:Q):Option Q:=if near q then some q else none
noncomputable def oh(t:Text):Option Q:=(unsigned t).bind pK
theorem ab_{t:Text}{j:Nat}(h:t[j]? =some 47)(k:∀(m:Nat) (z:UInt8),m<j->t[m]? =some z->z≠47):
 oh t=if allDigits (t.take j)&&allDigits (t.drop (j+1))&&digitsVal (t.drop (j+1)) != 0 then pK (Q.of (digitsVal (t.take j)) (digitsVal (t.drop (j+1)))) else none:=by
 unfold oh unsigned
 rw[m_ h k]
 dsimp only
 split<;>rfl
theorem ab9{t:Text}{j:Nat}(h0:47∉t)(h:t[j]? =some 46)(k:∀(m:Nat) (z:UInt8),m<j->t[m]? =some z->z≠46):
 oh t=if allDigits (t.take j)&&allDigits (t.drop (j+1)) then pK (Q.of (digitsVal (t.take j++t.drop (j+1))) (10^(t.drop (j+1)).length)) else none:=by
 unfold oh unsigned
 rw[mM h0]
 dsimp only
 rw[m_ h k]
 dsimp only
 split<;>rfl
theorem ab8{t:Text}(h0:47∉t)(h1:46∉t):oh t=if allDigits t then pK (Q.ofInt (digitsVal t)) else none:=by
 unfold oh unsigned
 rw[mM h0]
 dsimp only
 rw[mM h1]
 dsimp only
 split<;>rfl
theorem Hb(n:Int):Q.of n 1=Q.ofInt n:=by
 rw[s_ (by decide)]
 unfold Q.ofInt
 simp
theorem WA(r:Text):numberOf (45::r)=if 90<r.length+1 then none else (oh r).map Q.neg:=by
 unfold numberOf
 simp only[ai]
 by_cases c:90<r.length+1
 ·rw[aE c,aE c]
 ·rw[aq c,aq c]
  unfold oh
  cases hu:unsigned r with
  | none=>rfl
  | some q=>
   show(if near (Q.neg q)=true then some (Q.neg q) else none)=Option.map Q.neg (pK q)
   rw[We]
   unfold pK
   split<;>rfl
theorem WB{t:Text}(h:∀r,t≠45::r):numberOf t=if 90<t.length then none else oh t:=by
 unfold numberOf
 by_cases c:90<t.length
 ·rw[aE c,aE c]
 ·rw[aq c,aq c]
  unfold oh
  split
  ·rename_i q hq
   split at hq
   ·rename_i r;exact absurd rfl (h r)
   ·rw[hq];rfl
  ·rename_i hq
   split at hq
   ·rename_i r;exact absurd rfl (h r)
   ·rw[hq];rfl
noncomputable def j3(n:Int)(d:Nat):Int:=
 if 2*(n % (d:Int))<d then n/(d:Int) else if (d:Int)<2*(n % (d:Int)) then n/(d:Int)+1 else if (n/(d:Int)) % 2=0 then n/(d:Int) else n/(d:Int)+1
theorem Wf(n:Int){d g:Nat}(hd:0<d)(hg:0<g):j3 (n*g) (d*g)=j3 n d:=by
 have yL:(0:Int)<g:=by omega
 have e1:(n*(g:Int))/((d*g:Nat):Int)=n/(d:Int):=by
  rw[aW];exact Int.mul_ediv_mul_of_pos_left _ _ yL
 have e2:(n*(g:Int)) % ((d*g:Nat):Int)=(n % (d:Int))*g:=by
  rw[aW,Int.mul_comm n,Int.mul_comm (d:Int),Int.mul_emod_mul_of_pos _ _ yL,Int.mul_comm]
 unfold j3
 rw[e1,e2]
 have c1:(2*(n % (d:Int)*g)<((d*g:Nat):Int))↔(2*(n % (d:Int))<d):=by
  rw[aW,<-Int.mul_assoc]
  exact⟨λh=>eU h (by omega),λh=>eM h yL⟩
 have c2:(((d*g:Nat):Int)<2*(n % (d:Int)*g))↔((d:Int)<2*(n % (d:Int))):=by
  rw[aW,<-Int.mul_assoc]
  exact⟨λh=>eU h (by omega),λh=>eM h yL⟩
 simp only[c1,c2]
theorem Wg(n:Int){d:Nat}(hd:0<d):nearest (Q.of n d)=j3 n d:=by
 obtain⟨g,hg,e1,e2,-⟩:=rJ n hd
 have hp:=pL (n:=n) hd
 generalize Q.of n d=q at *
 rw[e1,e2,Wf q.num hp hg]
 rfl
theorem GZ(n:Int){d:Nat}(hd:0<d):j3 (-n) d= -j3 n d:=by
 have lV:(0:Int)<d:=by omega
 have h1:=Int.mul_ediv_add_emod n d
 have h2:=Int.emod_nonneg n (Int.ne_of_gt lV)
 have h3:=Int.emod_lt_of_pos n lV
 by_cases hr:n % (d:Int)=0
 ·have e1:(-n)/(d:Int)= -(n/(d:Int)):=by
   refine(fZ lV (r:=0) (q:=-(n/(d:Int)))).mpr ⟨?_,by omega,lV⟩ |>.1
   rw[Int.mul_neg];omega
  have e2:(-n) % (d:Int)=0:=by
   refine(fZ lV (r:=0) (q:=-(n/(d:Int)))).mpr ⟨?_,by omega,lV⟩ |>.2
   rw[Int.mul_neg];omega
  unfold j3
  rw[e1,e2,hr]
  simp[hd]
 ·have u:=(fZ (a:=-n) lV (r:=(d:Int)-n % (d:Int)) (q:=-(n/(d:Int))-1)).mpr ⟨by rw[Int.mul_sub,Int.mul_neg];omega,by omega,by omega⟩
  unfold j3
  rw[u.1,u.2]
  generalize n % (d:Int)=r at *
  generalize n/(d:Int)=f at *
  split<;>split<;>(try split)<;>(try split)<;>omega
theorem Cq(n d:Nat):j3 n d=if (d:Int)<2*((n:Int) % (d:Int))\/(2*((n:Int) % (d:Int))=d/\((n:Int)/(d:Int)) % 2=1) then (n:Int)/(d:Int)+1 else (n:Int)/(d:Int):=by
 unfold j3
 generalize (n:Int) % (d:Int)=r
 generalize (n:Int)/(d:Int)=f
 split<;>split<;>(try split)<;>omega
theorem G0(n:Nat){d:Nat}(hd:0<d):0<=j3 n d:=by
 have h:(0:Int)<=(n:Int)/(d:Int):=Int.ediv_nonneg (by omega) (by omega)
 rw[Cq]
 split<;>omega
theorem GY(n:Nat){d:Nat}(hd:0<d):j3 n d<=n+1:=by
 have h:(n:Int)/(d:Int)<=n:=Int.ediv_le_self _ (by omega)
 rw[Cq]
 split<;>omega
theorem Qn{n:Nat}{c:Char}(h:c∈Nat.toDigits 10 n):c.toNat<256:=by
 have hd:=Nat.isDigit_of_mem_toDigits (by decide) (by decide) h
 simp only[Char.isDigit,aZ,eN]at hd
 have h2:c.val<=57:=hd.2
 have h3:c.val.toNat<=57:=UInt32.le_iff_toNat_le.mp h2
 show c.val.toNat<256
 omega
theorem vY(n:Nat):(decimal n).map UInt8.toNat=(Nat.toDigits 10 n).map Char.toNat:=by
 unfold decimal
 rw[bu]
 refine d6 λc hc=>?_
 have:=Qn hc
 show(UInt8.ofNat c.toNat).toNat=c.toNat
 rw[UInt8.toNat_ofNat'];omega
noncomputable abbrev FW:=Q×(Text->Int)
noncomputable def Ek(x:Text):FW:=(Q.one,λn=>if n == x then 1 else 0)
noncomputable def jG(m:List (Text×FW))(x:Text):Option FW:=(m.find? λp=>p.1 == x).map λp=>p.2
noncomputable def jJ(m:List (Text×FW))(q:Q):List Factor->Option FW
 | []=>some (q,λ_=>0)
 | (x,k)::r=>match jG m x,jJ m q r with
  | some w,some v=>some ((w.1.zpow k).mul v.1,λn=>k*w.2 n+v.2 n)
  | _,_=>none
noncomputable def mN(m:List (Text×FW))(e:Entry):Option FW:=if e.isBase then some (Ek e.name) else jJ m e.number e.factors
noncomputable def o_(m:List (Text×FW))(e:Entry):List (Text×FW):=match mN m e with
 | some w=>m++[(e.name,w)]
 | none=>m
noncomputable def iE(b:Book):List (Text×FW):=b.foldl o_ []
noncomputable def jf(names:List Text)(w:FW):Worth:=⟨w.1,names.map w.2⟩
noncomputable def nI(names:List Text)(m:List (Text×FW)):Meaning:=m.map λp=>(p.1,jf names p.2)
theorem Ce(names:List Text):∀(m:List (Text×FW)) (x:Text),meaningOf (nI names m) x=(jG m x).map (jf names)
 | [],_=>rfl
 | p::r,x=>by
  have ih:=Ce names r x
  unfold meaningOf jG nI at *
  rw[aO,a8,a8]
  cases h:p.1 == x with
  | true=>simp only[h];rfl
  | false=>simp only[h];exact ih
theorem acs(names:List Text)(k:Int)(f g:Text->Int):List.zipWith (λ(x y:Int)=>x+y) ((names.map f).map λx=>k*x) (names.map g)=names.map λn=>k*f n+g n:=by
 induction names with
 | nil=>rfl
 | cons n r ih=>simp only[aO,List.zipWith_cons_cons,ih]
theorem DE(names:List Text)(m:List (Text×FW))(q:Q):∀fs:List Factor,worthOf names.length (nI names m) q fs=(jJ m q fs).map (jf names)
 | []=>by
  unfold worthOf jJ jf
  simp[List.map_const']
 | (x,k)::r=>by
  have ih:=DE names m q r
  unfold worthOf jJ
  rw[ih,Ce]
  cases jG m x with
  | none=>rfl
  | some w=>
   cases jJ m q r with
   | none=>rfl
   | some v=>
    show some (times (raised (jf names w) k) (jf names v))=some (jf names _)
    unfold times raised jf
    simp only[acs]
theorem QP(names:List Text)(m:List (Text×FW))(e:Entry):entryWorth names (nI names m) e=(mN m e).map (jf names):=by
 unfold entryWorth mN
 split
 ·rfl
 ·exact DE names m e.number e.factors
theorem Ew(names:List Text):∀(b:Book) (m:List (Text×FW)),b.foldl (λm e=>match entryWorth names m e with
 | some w=>m++[(e.name,w)]
 | none=>m) (nI names m)=nI names (b.foldl o_ m)
 | [],_=>rfl
 | e::r,m=>by
  rw[gc,gc,<-Ew names r]
  congr 1
  rw[QP]
  unfold o_
  cases mN m e with
  | none=>rfl
  | some w=>
   show nI names m++[(e.name,jf names w)]=nI names (m++[(e.name,w)])
   unfold nI
   rw[au];rfl
theorem sW(b:Book):meanings b=nI (bases b) (iE b):=by
 unfold meanings iE
 exact Ew (bases b) b []
inductive WF:Book->Prop
 | nil:WF []
 | snoc {b:Book} {e:Entry}:WF b->e.name∉b.map (·.name)->(e.isBase=false->∀f∈e.factors,f.1∈b.map (·.name))->WF (b++[e])
theorem AW{m:List (Text×FW)}{x:Text}(h:x∈m.map (·.1)):∃w,jG m x=some w/\(x,w)∈m:=by
 induction m with
 | nil=>simp at h
 | cons p r ih=>
  unfold jG
  rw[a8]
  cases hp:p.1 == x with
  | true=>
   have e:p.1=x:=gN hp
   simp only[hp]
   exact⟨p.2,rfl,by rw[<-e];exact aD⟩
  | false=>
   simp only[hp]
   have h':x∈r.map (·.1):=by
    rcases aM.mp h with h | h
    ·rw[h]at hp;simp at hp
    ·exact h
   obtain⟨w,h1,h2⟩:=ih h'
   exact⟨w,h1,aw _ h2⟩
theorem Eu{m:List (Text×FW)}{x:Text}(h:x∉m.map (·.1)):jG m x=none:=by
 unfold jG
 rw[List.find?_eq_none.mpr]
 ·rfl
 ·intro p hp e
  exact h (aQ.mpr ⟨p,hp,gN e⟩)
theorem v9{m:List (Text×FW)}{q:Q}:∀{fs:List Factor},(∀f∈fs,f.1∈m.map (·.1))->∃w,jJ m q fs=some w
 | [],_=>⟨_,rfl⟩
 | (x,k)::r,h=>by
  obtain⟨w,h1,_⟩:=AW (h (x,k) aD)
  obtain⟨v,h2⟩:=v9 (q:=q) λf hf=>h f (aw _ hf)
  unfold jJ
  rw[h1,h2]
  exact⟨_,rfl⟩
theorem A2{m:List (Text×FW)}{q:Q}:∀{fs:List Factor},(∃f∈fs,f.1∉m.map (·.1))->jJ m q fs=none
 | [],h=>by obtain⟨f,hf,_⟩:=h;simp at hf
 | (x,k)::r,h=>by
  unfold jJ
  by_cases c:x∈m.map (·.1)
  ·obtain⟨f,hf,hn⟩:=h
   rcases aM.mp hf with e | hf
   ·rw[e]at hn;exact absurd c hn
   ·rw[A2 ⟨f,hf,hn⟩]
    cases jG m x<;>rfl
  ·rw[Eu c]
theorem uc(b:Book)(e:Entry):iE (b++[e])=o_ (iE b) e:=by
 unfold iE
 rw[gz];rfl
theorem WF.names{b:Book}(h:WF b):(iE b).map (·.1)=b.map (·.name):=by
 induction h with
 | nil=>rfl
 | @snoc b e _ _ hr ih=>
  rw[uc]
  obtain⟨w,hw⟩:∃w,mN (iE b) e=some w:=by
   unfold mN
   split
   ·exact⟨_,rfl⟩
   ·rename_i hb
    exact v9 λf hf=>by rw[ih];exact hr (by simpa using hb) f hf
  unfold o_
  rw[hw,au,au,ih];rfl
theorem WF.entry{b:Book}{e:Entry}(h:WF b)(hr:e.isBase=false->∀f∈e.factors,f.1∈b.map (·.name)):∃w,mN (iE b) e=some w:=by
 unfold mN
 split
 ·exact⟨_,rfl⟩
 ·rename_i hb
  exact v9 λf hf=>by rw[h.names];exact hr (by simpa using hb) f hf
theorem WF.nodup{b:Book}(h:WF b):(b.map (·.name)).Nodup:=by
 induction h with
 | nil=>exact gu
 | @snoc b e _ hn _ ih=>
  rw[au,gA]
  refine⟨ih,by simp,λx hx y hy z=>?_⟩
  have e':y=e.name:=by simpa using hy
  rw[<-z]at e'
  exact hn (by rw[<-e'];exact hx)
theorem NJ(b:Book)(e:Entry):bases (b++[e])=bases b++(if e.isBase then [e.name] else []):=by
 unfold bases
 rw[bT,au]
 cases h:e.isBase<;>simp[h]
theorem A3{m:List (Text×FW)}{bs:List Text}(hm:∀p∈m,∀n,p.2.2 n≠0->n∈bs){q:Q}:∀{fs:List Factor} {w:FW},jJ m q fs=some w->∀n,w.2 n≠0->n∈bs
 | [],w,h,n,hn=>by
  have e:=ae h
  rw[<-e]at hn
  exact absurd rfl hn
 | (x,k)::r,w,h,n,hn=>by
  unfold jJ at h
  cases h1:jG m x with
  | none=>rw[h1]at h;cases h
  | some u=>
   cases h2:jJ m q r with
   | none=>rw[h1,h2]at h;cases h
   | some v=>
    rw[h1,h2]at h
    have e:=ae h
    rw[<-e]at hn
    by_cases c:v.2 n=0
    ·have hu:u.2 n≠0:=λz=>hn (by show k*u.2 n+v.2 n=0;rw[c,z];simp)
     unfold jG at h1
     cases h3:m.find? λp=>p.1 == x with
     | none=>rw[h3]at h1;cases h1
     | some p=>
      rw[h3]at h1
      have ep:p.2=u:=ae h1
      exact hm p (dS h3) n (by rw[ep];exact hu)
    ·exact A3 hm h2 n c
theorem WF.abo{b:Book}(h:WF b):∀p∈iE b,∀n,p.2.2 n≠0->n∈bases b:=by
 induction h with
 | nil=>intro p hp;simp[iE]at hp
 | @snoc b e hb hn hr ih=>
  intro p hp n sN
  rw[uc]at hp
  obtain⟨w,hw⟩:=hb.entry hr
  unfold o_ at hp
  rw[hw]at hp
  rw[NJ]
  rcases bg.mp hp with hp | hp
  ·exact bg.mpr (.inl (ih p hp n sN))
  ·have ep:p=(e.name,w):=by simpa using hp
   rw[ep]at sN
   unfold mN at hw
   split at hw
   ·rename_i qt
    have ew:=ae hw
    rw[<-ew]at sN
    have:n=e.name:=by
     by_cases c:n=e.name
     ·exact c
     ·exact absurd (by show(if n == e.name then (1:Int) else 0)=0;simp[c]) sN
    rw[aE qt,this]
    exact bg.mpr (.inr aD)
   ·exact bg.mpr (.inl (A3 ih hw n sN))
theorem Q7{m:List (Text×FW)}{x y:Text}(h:y≠x):jG (m.filter λp=>p.1 != x) y=jG m y:=by
 induction m with
 | nil=>rfl
 | cons p r ih=>
  by_cases c:p.1=x
  ·rw[aY,aq (by simp[c]),ih]
   unfold jG
   rw[a8]
   have:(p.1 == y)=false:=by rw[c];simpa using λe=>h e.symm
   simp only[this]
  ·rw[aY,aE (by simp[c])]
   unfold jG at ih ⊢
   rw[a8,a8]
   cases p.1 == y with
   | true=>rfl
   | false=>exact ih
theorem EB{m:List (Text×FW)}{x:Text}{q:Q}:∀{fs:List Factor},(∀f∈fs,f.1≠x)->jJ (m.filter λp=>p.1 != x) q fs=jJ m q fs
 | [],_=>rfl
 | (y,k)::r,h=>by
  unfold jJ
  rw[Q7 (h (y,k) aD),EB λf hf=>h f (aw _ hf)]
theorem V8(b:Book)(e:Entry)(x:Text):isNamed (b++[e]) x=(isNamed b x||(!e.isBase&&e.factors.any λf=>f.1 == x)):=by
 unfold isNamed
 rw[List.any_append];simp
theorem WF.forget{b:Book}(h:WF b){x:Text}(hx:isNamed b x=false):WF (b.filter λe=>e.name != x)/\iE (b.filter λe=>e.name != x)=(iE b).filter λp=>p.1 != x:=by
 induction h with
 | nil=>exact⟨.nil,rfl⟩
 | @snoc b e hb hn hr ih=>
  rw[V8,eV]at hx
  obtain⟨i1,i2⟩:=ih hx.1
  obtain⟨w,hw⟩:=hb.entry hr
  have es:iE (b++[e])=iE b++[(e.name,w)]:=by
   rw[uc];unfold o_;rw[hw]
  by_cases c:e.name=x
  ·have ef:(b++[e]).filter (λe=>e.name != x)=b.filter λe=>e.name != x:=by
    rw[bT];simp[c]
   rw[ef,es,i2,bT]
   exact⟨i1,by simp[c]⟩
  ·have ef:(b++[e]).filter (λe=>e.name != x)=(b.filter λe=>e.name != x)++[e]:=by
    rw[bT];simp[c]
   have E9:e.isBase=false->∀f∈e.factors,f.1≠x:=λrb f hf z=>by
    have:=hx.2
    rw[rb]at this
    simp only[gv,eI]at this
    have t:(e.factors.any λf=>f.1 == x)=true:=cZ.mpr ⟨f,hf,by rw[z];exact bY x⟩
    rw[this]at t;cases t
   have wG:∀y,y∈b.map (·.name)->y≠x->y∈(b.filter λe=>e.name != x).map (·.name):=λy hy Uv=>by
    obtain⟨d,hd,rfl⟩:=aQ.mp hy
    exact aQ.mpr ⟨d,cR.mpr ⟨hd,by simpa using Uv⟩,rfl⟩
   have w1:WF ((b.filter λe=>e.name != x)++[e]):=by
    refine .snoc i1 (λz=>?_) (λrb f hf=>wG _ (hr rb f hf) (E9 rb f hf))
    obtain⟨d,hd,ed⟩:=aQ.mp z
    exact hn (aQ.mpr ⟨d,(cR.mp hd).1,ed⟩)
   rw[ef]
   refine⟨w1,?_⟩
   have he:mN ((iE b).filter λp=>p.1 != x) e=some w:=by
    rw[<-hw]
    unfold mN
    split
    ·rfl
    ·rename_i rb
     exact EB (E9 (by simpa using rb))
   rw[uc,i2,es,bT]
   unfold o_
   rw[he]
   simp[c]
noncomputable def j6(m:List (Text×FW))(x:Text):Q:=((jG m x).map λw=>w.1).getD Q.one
noncomputable def nE(m:List (Text×FW))(x n:Text):Int:=((jG m x).map λw=>w.2 n).getD 0
noncomputable def PA(m:List (Text×FW)):List Factor->Nat
 | []=>1
 | f::r=>above (j6 m f.1) f.2*PA m r
noncomputable def PB(m:List (Text×FW)):List Factor->Nat
 | []=>1
 | f::r=>below (j6 m f.1) f.2*PB m r
theorem tP{m:List (Text×FW)}:∀{fs:List Factor},(∀f∈fs,Pos (j6 m f.1))->0<PB m fs
 | [],_=>Nat.one_pos
 | f::r,h=>bL (vO (h f aD) _) (tP λg hg=>h g (aw _ hg))
theorem Ai{m:List (Text×FW)}:∀{fs:List Factor},(∀f∈fs,Pos (j6 m f.1))->0<PA m fs
 | [],_=>Nat.one_pos
 | f::r,h=>bL (Ar (h f aD) _) (Ai λg hg=>h g (aw _ hg))
theorem v8{m:List (Text×FW)}{q:Q}(hq:kX q):∀{fs:List Factor} {w:FW},(∀f∈fs,Pos (j6 m f.1))->jJ m q fs=some w->w.1=Q.of (q.num*PA m fs) (q.den*PB m fs)
 | [],w,_,h=>by
  have e:=ae h
  rw[<-e]
  show q=Q.of (q.num*((1:Nat):Int)) (q.den*1)
  rw[gB,show((1:Nat):Int)=1 from rfl,Int.mul_one,rK hq]
 | (x,k)::r,w,hp,h=>by
  unfold jJ at h
  cases h1:jG m x with
  | none=>rw[h1]at h;cases h
  | some u=>
   cases h2:jJ m q r with
   | none=>rw[h1,h2]at h;cases h
   | some v=>
    rw[h1,h2]at h
    have e:=ae h
    have er:j6 m x=u.1:=by unfold j6;rw[h1];rfl
    have hu:Pos u.1:=by rw[<-er];exact hp (x,k) aD
    have hr:∀f∈r,Pos (j6 m f.1):=λg hg=>hp g (aw _ hg)
    have ih:=v8 hq hr h2
    rw[<-e]
    show(u.1.zpow k).mul v.1=_
    rw[ih,DG hu,GI _ _ (vO hu k) (bL hq.1 (tP hr))]
    show Q.of ((above u.1 k:Int)*(q.num*(PA m r:Int))) (below u.1 k*(q.den*PB m r))=Q.of (q.num*((above (j6 m x) k*PA m r:Nat):Int)) (q.den*(below (j6 m x) k*PB m r))
    rw[er]
    congr 1
    ·rw[aW,Int.mul_left_comm]
    ·rw[Nat.mul_left_comm]
theorem EC{m:List (Text×FW)}{q:Q}:∀{fs:List Factor} {w:FW},jJ m q fs=some w->∀n,w.2 n=(fs.map λf=>f.2*nE m f.1 n).sum
 | [],w,h,n=>by
  have e:=ae h
  rw[<-e];rfl
 | (x,k)::r,w,h,n=>by
  unfold jJ at h
  cases h1:jG m x with
  | none=>rw[h1]at h;cases h
  | some u=>
   cases h2:jJ m q r with
   | none=>rw[h1,h2]at h;cases h
   | some v=>
    rw[h1,h2]at h
    have e:=ae h
    rw[<-e,aO,List.sum_cons,<-EC h2 n]
    show k*u.2 n+v.2 n=k*nE m x n+v.2 n
    unfold nE
    rw[h1];rfl
theorem Nn{q:Q}(hn:q.num.natAbs<10^40)(hd:q.den<10^40){k:Int}(hk:k.natAbs<=99):above q k<=10^3960/\below q k<=10^3960:=by
 have key:∀x:Nat,x<10^40->x^k.natAbs<=10^3960:=λx hx=>by
  refine aN (dF (aI hx) _) ?_
  rw[<-gC]
  exact a0 (by decide) (by omega)
 unfold above below
 split
 ·exact⟨key _ hn,key _ hd⟩
 ·exact⟨key _ hd,key _ hn⟩
theorem DK{m:List (Text×FW)}:∀{fs:List Factor},(∀f∈fs,(j6 m f.1).num.natAbs<10^40/\(j6 m f.1).den<10^40/\f.2.natAbs<=99)->PA m fs<=10^(3960*fs.length)/\PB m fs<=10^(3960*fs.length)
 | [],_=>⟨ax _,ax _⟩
 | f::r,h=>by
  obtain⟨h1,h2,h3⟩:=h f aD
  obtain⟨a1,a2⟩:=Nn h1 h2 h3
  obtain⟨i1,i2⟩:=DK λg hg=>h g (aw _ hg)
  rw[ai,Nat.mul_add,gB,Nat.add_comm,gD]
  exact⟨cW a1 i1,cW a2 i2⟩
noncomputable def rZ(f:Factor):Prop:=isName f.1=true/\f.2.natAbs<=99
theorem L_{t:Text}{k:Int}(h:smallNat t=some k):k.natAbs<=99:=by
 unfold smallNat at h
 split at h
 ·rename_i c
  rw[aZ,ak]at c
  have e:=ae h
  have l:=vZ t (oq c.1)
  have l2:(10:Nat)^t.length<=10^2:=a0 (by decide) c.2
  rw[<-e]
  show digitsVal t<=99
  have:(10:Nat)^2=100:=by decide
  omega
 ·cases h
theorem Ys{t:Text}{k:Int}(h:powerOf t=some k):k.natAbs<=99:=by
 unfold powerOf at h
 split at h
 ·rename_i r
  cases hs:smallNat r with
  | none=>rw[hs]at h;cases h
  | some z=>
   rw[hs]at h
   have e:-z=k:=ae h
   have:=L_ hs
   rw[<-e];omega
 ·exact L_ h
theorem Q4{p:Bool×Text}{f:Factor}(h:factorOf p=some (some f)):rZ f:=by
 unfold factorOf at h
 dsimp only at h
 split at h
 ·cases h
 ·split at h
  ·rename_i n k _
   split at h
   ·rename_i hn
    cases hk:powerOf k with
    | none=>rw[hk]at h;cases h
    | some z=>
     rw[hk]at h
     have e:=ae (ae h)
     have:=Ys hk
     rw[<-e]
     refine⟨hn,?_⟩
     show(if p.1=true then -z else z).natAbs<=99
     split<;>omega
   ·cases h
  ·split at h
   ·rename_i hn
    have e:=ae (ae h)
    rw[<-e]
    refine⟨hn,?_⟩
    show(if p.1=true then -1 else (1:Int)).natAbs<=99
    split<;>decide
   ·cases h
theorem Gq{α β:Type}{f:α->Option β}:∀{l:List α} {ys:List β},l.mapM f=some ys->ys.length=l.length/\∀y∈ys,∃x∈l,f x=some y
 | [],ys,h=>by
  rw[List.mapM_nil]at h
  have e:([]:List β)=ys:=ae h
  subst e
  exact⟨rfl,λy hy=>by simp at hy⟩
 | x::r,ys,h=>by
  rw[List.mapM_cons]at h
  cases hx:f x with
  | none=>rw[hx]at h;cases h
  | some y=>
   cases hr:r.mapM f with
   | none=>rw[hx,hr]at h;cases h
   | some zs=>
    rw[hx,hr]at h
    have e:y::zs=ys:=ae h
    obtain⟨i1,i2⟩:=Gq hr
    subst e
    refine⟨by rw[ai,ai,i1],λu hu=>?_⟩
    rcases aM.mp hu with e | hu
    ·exact⟨x,aD,by rw[e];exact hx⟩
    ·obtain⟨v,h1,h2⟩:=i2 u hu
     exact⟨v,aw _ h1,h2⟩
theorem Gw{t:Text}{fs:List Factor}(h:measureOf t=some fs):fs.length<=20/\∀f∈fs,rZ f:=by
 unfold measureOf at h
 dsimp only at h
 split at h
 ·cases h
 ·rename_i hl
  cases hm:(pieces false [] t).mapM factorOf with
  | none=>rw[hm]at h;cases h
  | some os=>
   rw[hm]at h
   have e:os.filterMap id=fs:=ae h
   obtain⟨i1,i2⟩:=Gq hm
   have hl:¬20<(pieces false [] t).length:=hl
   rw[<-e]
   refine⟨?_,λf hf=>?_⟩
   ·have:=List.length_filterMap_le (id:Option Factor->Option Factor) os
    omega
   ·obtain⟨o,ho,eo⟩:=eu.mp hf
    have eo:o=some f:=eo
    subst eo
    obtain⟨p,_,hp⟩:=i2 _ ho
    exact Q4 hp
theorem MP{t:Text}{q:Q}(h:unsigned t=some q):kX q:=by
 unfold unsigned at h
 split at h
 ·split at h
  ·rename_i c
   have e:=ae h
   rw[<-e]
   refine oR _ ?_
   simp only[aZ,bne_iff_ne]at c
   exact Nat.pos_of_ne_zero c.2
  ·cases h
 ·split at h
  ·split at h
   ·have e:=ae h
    rw[<-e]
    exact oR _ (eR (by decide))
   ·cases h
  ·split at h
   ·have e:=ae h
    rw[<-e,<-Hb]
    exact oR _ (by decide)
   ·cases h
theorem Ha{t:Text}{q:Q}(h:numberOf t=some q):near q=true/\kX q:=by
 unfold numberOf at h
 split at h
 ·cases h
 ·split at h
  ·rename_i q' hq
   split at h
   ·rename_i hn
    have e:=ae h
    subst e
    refine⟨hn,?_⟩
    split at hq
    ·rename_i r _
     cases hu:unsigned r with
     | none=>rw[hu]at hq;cases hq
     | some u=>
      rw[hu]at hq
      have e:Q.neg u=q':=ae hq
      rw[<-e]
      have c:=MP hu
      exact⟨c.1,by show Nat.gcd (-u.num).natAbs u.den=1;rw[Int.natAbs_neg];exact c.2⟩
    ·exact MP hq
   ·cases h
  ·cases h
theorem C3{t:Text}{x:Q×List Factor}(h:quantityOf t=some x):near x.1=true/\kX x.1/\x.2.length<=20/\∀f∈x.2,rZ f:=by
 unfold quantityOf at h
 split at h
 ·cases h
 ·split at h
  ·rename_i a b _
   split at h
   ·rename_i q fs hq hf
    have e:=ae h
    rw[<-e]
    exact⟨(Ha hq).1,(Ha hq).2,Gw hf⟩
   ·cases h
  ·cases hm:measureOf t with
   | none=>rw[hm]at h;cases h
   | some fs=>
    rw[hm]at h
    have e:(Q.one,fs)=x:=ae h
    rw[<-e]
    exact⟨show near Q.one=true by decide,one_pos.1,Gw hm⟩
theorem zO(b:Book)(sg:Bool)(t:Text):reading b sg t=match quantityOf t with
 | none=>.error (-4)
 | some (q,fs)=>if !sg&&decide (q.num<=0) then .error (-6)
  else match jJ (iE b) q fs with
  | none=>.error (-5)
  | some w=>if tooFar (jf (bases b) w) then .error (-7) else .ok (jf (bases b) w):=by
 unfold reading
 cases quantityOf t with
 | none=>rfl
 | some x=>
  obtain⟨q,fs⟩:=x
  dsimp only
  split
  ·rfl
  ·rw[sW,DE]
   cases jJ (iE b) q fs<;>rfl
end MB
namespace L2
open PySem PySem.Spec PyProof.Rows
noncomputable abbrev Key:=Sum Int Str
noncomputable def mU:Key->Value->Bool
 | .inl k,v=>Value.isInt k v
 | .inr x,v=>Value.isStrOf x v
noncomputable def U0(w:World):Key->Int
 | .inl k=>hashInt k
 | .inr x=>hashStr w x
theorem pG:∀{k:Key} {v:Value},mU k v=true->(∃i t,k=Sum.inl i/\v=Value.int i t)\/(∃x t,k=Sum.inr x/\v=Value.str x t)
 | .inl i,v,h=>by
  obtain⟨t,e⟩:=Value.isInt_shape (k:=i) (v:=v) h
  exact .inl ⟨i,t,rfl,e⟩
 | .inr x,v,h=>by
  obtain⟨t,e⟩:=Value.isStrOf_shape (x:=x) (v:=v) h
  exact .inr ⟨x,t,rfl,e⟩
theorem U1(i:Int)(t:Tok):mU (.inl i) (.int i t)=true:=by simp[mU,Value.isInt]
theorem U2(x:Str)(t:Tok):mU (.inr x) (.str x t)=true:=by simp[mU,Value.isStrOf]
theorem U3(a b:Int):decide ((Sum.inl a:Key)=Sum.inl b)=(a == b):=by
 by_cases e:a=b
 ·subst e;simp
 ·have h:¬(Sum.inl a:Key)=Sum.inl b:=λq=>e (Sum.inl.inj q)
  rw[az h]
  exact(bX.mpr e).symm
theorem U6(a b:Str):decide ((Sum.inr a:Key)=Sum.inr b)=decide (a=b):=by
 by_cases e:a=b
 ·subst e;simp
 ·have h:¬(Sum.inr a:Key)=Sum.inr b:=λq=>e (Sum.inr.inj q)
  rw[az h,az e]
theorem U4(a:Int)(b:Str):decide ((Sum.inl a:Key)=Sum.inr b)=false:=az (λq=>nomatch q)
theorem U5(a:Str)(b:Int):decide ((Sum.inr a:Key)=Sum.inl b)=false:=az (λq=>nomatch q)
noncomputable def i4(prog:Program)(w:World):PySem.KeyKind prog w Key where
 is:=mU
 hash:=U0 w
 inj:=λv a b ha hb=>by
  rcases pG ha with⟨i,t,rfl,rfl⟩ | ⟨x,t,rfl,rfl⟩
  ·rcases pG hb with⟨j,u,rfl,e⟩ | ⟨y,u,rfl,e⟩
   ·injection e with e1 _;rw[e1]
   ·exact nomatch e
  ·rcases pG hb with⟨j,u,rfl,e⟩ | ⟨y,u,rfl,e⟩
   ·exact nomatch e
   ·injection e with e1 _;rw[e1]
 byValue:=λk v h=>by
  rcases pG h with⟨i,t,rfl,rfl⟩ | ⟨x,t,rfl,rfl⟩<;>rfl
 pyHash:=λhv h=>by
  rcases pG hv with⟨i,t,rfl,rfl⟩ | ⟨x,t,rfl,rfl⟩
  ·exact wpAny_pyHash_int h
  ·exact wpAny_pyHash_str h
 eqBool:=λhu hv h=>by
  rcases pG hu with⟨i,t,rfl,rfl⟩ | ⟨x,t,rfl,rfl⟩
  ·rcases pG hv with⟨j,u,rfl,rfl⟩ | ⟨y,u,rfl,rfl⟩
   ·rw[U3]at h;exact wpAny_eqBool_int h
   ·rw[U4]at h;exact SeqAt.EqAt.int_str i t y u _ _ _ _ h
  ·rcases pG hv with⟨j,u,rfl,rfl⟩ | ⟨y,u,rfl,rfl⟩
   ·rw[U5]at h;exact SeqAt.EqAt.str_int x t j u _ _ _ _ h
   ·rw[U6]at h;exact wpAny_eqBool_str h
 «strs»:=λk x t v h=>by
  rcases pG h with⟨i,u,rfl,e⟩ | ⟨y,u,rfl,e⟩
  ·exact nomatch e
  ·injection e with e1 _
   subst e1
   cases v<;>rfl
theorem VX(prog:Program)(w:World)(i:Int)(t:Tok):(i4 prog w).is (.inl i) (.int i t)=true:=U1 i t
theorem VY(prog:Program)(w:World)(x:Str)(t:Tok):(i4 prog w).is (.inr x) (.str x t)=true:=U2 x t
inductive V where
 | ia | bl (b:Bool) | int (i:Int) | str (x:Str) | lj (b:Array UInt8) | yw (b:UInt64) | ref (a:Addr) | ty (n:String)
 deriving DecidableEq
noncomputable def RelV:V->Value->Prop
 | .ia,u=>u=Value.none
 | .bl b,u=>u=Value.bool b
 | .int i,u=>∃t,u=Value.int i t
 | .str x,u=>∃t,u=Value.str x t
 | .lj b,u=>∃t,u=Value.bytes b t
 | .yw b,u=>∃t,u=Value.float b t
 | .ref a,u=>u=Value.ref a
 | .ty n,u=>u=Value.type n
noncomputable abbrev iG:List V->List Value->Prop:=Paired RelV
theorem iG.length{xs:List V}{us:List Value}(r:iG xs us):xs.length=us.length:=cF r
theorem iG.get:∀{xs:List V} {us:List Value} {i:Nat} {x:V},iG xs us->xs[i]? =some x->∃u,us[i]? =some u/\RelV x u
 | _,_,_,_,.nil,e=>by simp at e
 | _,_,0,_,.cons r _,e=>by simp at e;subst e;exact⟨_,rfl,r⟩
 | _,_,i+1,x,.cons _ t,e=>by
  obtain⟨u,h1,h2⟩:=iG.get (i:=i) (x:=x) t (by simpa using e)
  exact⟨u,by simpa using h1,h2⟩
theorem iG.append:∀{xs ys:List V} {us ws:List Value},iG xs us->iG ys ws->iG (xs++ys) (us++ws)
 | _,_,_,_,.nil,s=>s
 | _,_,_,_,.cons r t,s=>.cons r (iG.append t s)
theorem iG.take:∀{xs:List V} {us:List Value} (n:Nat),iG xs us->iG (xs.take n) (us.take n)
 | _,_,0,_=>.nil
 | _,_,_+1,.nil=>.nil
 | _,_,n+1,.cons r t=>.cons r (iG.take n t)
theorem iG.drop:∀{xs:List V} {us:List Value} (n:Nat),iG xs us->iG (xs.drop n) (us.drop n)
 | _,_,0,r=>r
 | _,_,_+1,.nil=>.nil
 | _,_,n+1,.cons _ t=>iG.drop n t
noncomputable def lh:Option V->Option Value->Prop
 | some v,some u=>RelV v u
 | none,none=>True
 | _,_=>False
noncomputable def KV{κ:Type}:List (κ×V)->List (κ×Value)->Prop:=Paired λ(p:κ×V) (q:κ×Value)=>p.1=q.1/\RelV p.2 q.2
noncomputable def kV:Key->V
 | .inl i=>.int i
 | .inr x=>.str x
inductive HO where
 | lst (xs:List V)
 | tup (xs:List V)
 | dK (kvs:List (Key×V)) | dT (kvs:List (List Key×V))
 | set (S:Int->Bool) (n:Nat)
 | ins (C dx:Addr) (fs:List (Str×V))
 | own (x:Addr)
 | xd (fs:List (Str×V))
 | met (f x:Addr)
 | Dc (lo hi:Int)
 | iF (o:Obj) (u:HO)
 | tH (ps:Array Value)
 | ext (φ:Heap->Prop)
noncomputable abbrev Hp:=Addr->Option HO
noncomputable def upd(H:Hp)(a:Addr)(o:HO):Hp:=λb=>if b=a then some o else H b
theorem e_{H:Hp}{a:Addr}{o:HO}:upd H a o a=some o:=by unfold upd;rw[aE rfl]
theorem ip{H:Hp}{a b:Addr}{o:HO}(h:b≠a):upd H a o b=H b:=by unfold upd;rw[aq h]
theorem kn{H:Hp}{a:Addr}{o u:HO}:upd (upd H a o) a u=upd H a u:=by
 funext b;unfold upd;split<;>rfl
theorem iC{H:Hp}{a b:Addr}{o u:HO}(h:H a=some o)(h':H b=some u)(d:o≠u):a≠b:=by
 intro e;subst e;rw[h]at h';exact d (ae h')
theorem jB{H:Hp}{a b:Addr}{o:HO}(h:H a=some o)(h':H b=none):a≠b:=by
 intro e;subst e;rw[h]at h';cases h'
section
variable(P:Program)(w:World)
noncomputable def jl(H:Hp)(h:Heap)(a:Addr):HO->Prop
 | .lst xs=>xs.length<=sizeLine/\∃(g_:List Value) (n:Nat),iG xs g_/\h.get? a=some {cls:=.type "list",data:=.seq g_.toArray n}
 | .tup xs=>xs.length<=sizeLine/\∃g_:List Value,iG xs g_/\IsTup h a g_.toArray
 | .dK kvs=>kvs.length<=sizeLine/\(a == sysModules)=false/\∃vs,KV kvs vs/\h.DictOf (i4 P w) a vs
 | .dT kvs=>kvs.length<=sizeLine/\(a == sysModules)=false/\∃xs:List (List Key×Addr×Value),
  Paired (λ(p:List Key×V) (q:List Key×Addr×Value)=>p.1=q.1/\H q.2.1=some (.tup (p.1.map kV))/\RelV p.2 q.2.2) kvs xs/\
  ∃o es ep,h.get? a=some o/\o.ExactDict/\o.data= .dict es ep/\es.toList=xs.map (entryOfKey (tupleKind (i4 P w)))/\(xs.map (·.1)).Nodup
 | .set S n=>h.SetOf (intKind P w) a S n
 | .ins C dx fs=>H dx=some (.own a)/\fs.length<=1000/\dx≠a/\h.get? a=some (PySem.W.instObj C dx)/\
  ∃mA,h.Ns1 dx mA/\(∀f,lh (fs.lookup f) (mA f))/\PySem.Within mA (fs.map (·.1))
 | .own _=>∃o,h.get? a=some o
 | .xd fs=>∃mA,h.Ns1 a mA/\∀f,lh (fs.lookup f) (mA f)
 | .Dc lo hi=>∃t u v,h.get? a=some {cls:=.type "range",data:=.fields #[.int lo t,.int hi u,.int 1 v]}
 | .iF o u=>h.get? a=some o/\jl H h a u
 | .tH ps=>h.get? a=some {cls:=.none,data:=.fields ps}
 | .met f x=>h.get? a=some (PySem.W.methodObj (.ref f) (.ref x))
 | .ext φ=>φ h/\(∃o,h.get? a=some o)/\∀h1 h2:Heap,φ h1->(∀o,h1.get? a=some o->h2.get? a=some o)->φ h2
noncomputable def jg(H:Hp)(h:Heap):Prop:=∀a o,H a=some o->jl P w H h a o
end
section
variable{P:Program}{w:World}{H U:Hp}{h h':Heap}{a:Addr}{o:HO}
theorem jl.lt(x:jl P w H h a o):a<h.objs.size:=by
 cases o with
 | lst xs=>obtain⟨_,_,_,_,e⟩:=x;exact aF e
 | tup xs=>obtain⟨_,_,_,p⟩:=x;exact p.lt
 | dK kvs=>obtain⟨_,_,_,_,o,_,_,e,_⟩:=x;exact aF e
 | dT kvs=>obtain⟨_,_,_,_,o,_,_,e,_⟩:=x;exact aF e
 | set S n=>obtain⟨o,_,_,_,e,_⟩:=x;exact aF e
 | ins C dx fs=>obtain⟨_,_,_,e,_⟩:=x;exact aF e
 | own y=>obtain⟨_,e⟩:=x;exact aF e
 | xd fs=>obtain⟨_,⟨_,_,_,e,_⟩,_⟩:=x;exact aF e
 | Dc lo hi=>obtain⟨_,_,_,e⟩:=x;exact aF e
 | iF ob u=>obtain⟨e,_⟩:=x;exact aF e
 | tH ps=>exact aF (show h.get? a=some _ from x)
 | met f y=>exact aF (show h.get? a=some _ from x)
 | ext φ=>obtain⟨_,⟨_,e⟩,_⟩:=x;exact aF e
theorem Paired.Cc{α β:Type}{F G:α->β->Prop}:∀{l₁:List α} {l₂:List β},Paired F l₁ l₂->(∀a b,F a b->G a b)->Paired G l₁ l₂
 | _,_,.nil,_=>.nil
 | _,_,.cons r t,f=>.cons (f _ _ r) (Paired.Cc t f)
theorem jl.pT(x:jl P w H h a o)(k:∀b u,(b=a\/H b=some (.own a))->h.get? b=some u->h'.get? b=some u)
 (ho:∀b,H b=some (.own a)->U b=some (.own a)) (ht:∀b xs,H b=some (.tup xs)->U b=some (.tup xs)):jl P w U h' a o:=by
 induction o with
 | lst xs=>obtain⟨z,g_,n,r,e⟩:=x;exact⟨z,g_,n,r,k _ _ (.inl rfl) e⟩
 | tup xs=>obtain⟨z,g_,r,ob,e,c⟩:=x;exact⟨z,g_,r,ob,k _ _ (.inl rfl) e,c⟩
 | dK kvs=>obtain⟨z,y,vs,r,ob,es,ep,e,c⟩:=x;exact⟨z,y,vs,r,ob,es,ep,k _ _ (.inl rfl) e,c⟩
 | dT kvs=>
  obtain⟨z,y,xs,r,ob,es,ep,e,c⟩:=x
  exact⟨z,y,xs,Paired.Cc r λp q z=>⟨z.1,ht _ _ z.2.1,z.2.2⟩,ob,es,ep,k _ _ (.inl rfl) e,c⟩
 | set S n=>obtain⟨ob,es,ep,t,e,c⟩:=x;exact⟨ob,es,ep,t,k _ _ (.inl rfl) e,c⟩
 | ins C dx fs=>
  obtain⟨d,z,ne,e,mA,⟨od,es,ep,e2,c⟩,r⟩:=x
  exact⟨ho _ d,z,ne,k _ _ (.inl rfl) e,mA,⟨od,es,ep,k _ _ (.inr d) e2,c⟩,r⟩
 | own y=>obtain⟨ob,e⟩:=x;exact⟨ob,k _ _ (.inl rfl) e⟩
 | xd fs=>obtain⟨mA,⟨od,es,ep,e,c⟩,r⟩:=x;exact⟨mA,⟨od,es,ep,k _ _ (.inl rfl) e,c⟩,r⟩
 | Dc lo hi=>obtain⟨t,u,v,e⟩:=x;exact⟨t,u,v,k _ _ (.inl rfl) e⟩
 | iF ob u ih=>obtain⟨e,q⟩:=x;exact⟨k _ _ (.inl rfl) e,ih q⟩
 | tH ps=>
  have e:h.get? a=some {cls:=.none,data:=.fields ps}:=x
  show h'.get? a=some {cls:=.none,data:=.fields ps}
  exact k a _ (.inl rfl) e
 | met f y=>
  have e:h.get? a=some (PySem.W.methodObj (.ref f) (.ref y)):=x
  show h'.get? a=some (PySem.W.methodObj (.ref f) (.ref y))
  exact k a _ (.inl rfl) e
 | ext φ=>obtain⟨p,⟨o,e⟩,st⟩:=x;exact⟨st _ _ p λo q=>k _ _ (.inl rfl) q,⟨o,k _ _ (.inl rfl) e⟩,st⟩
theorem jg.lt(x:jg P w H h)(e:H a=some o):a<h.objs.size:=(x a o e).lt
theorem jg.fresh(x:jg P w H h)(e:h.objs.size<=a):H a=none:=by
 cases q:H a with
 | none=>rfl
 | some u=>exact absurd (aS (x.lt q) e) (cO _)
theorem jg.kept(x:jg P w H h)(k:∀b u,h.get? b=some u->h'.get? b=some u):jg P w H h':=λa o e=>
 (x a o e).pT (λb u _ q=>k b u q) (λ_ q=>q) λ_ _ q=>q
theorem jg.laid(x:jg P w H h)(k:∀b u,h.get? b=some u->h'.get? b=some u)(hp:h.objs.size<=a)(new:jl P w (upd H a o) h' a o):jg P w (upd H a o) h':=λb u e=>by
 have hn:=x.fresh hp
 by_cases hb:b=a
 ·subst hb;rw[e_]at e;cases e;exact new
 ·rw[ip hb]at e
  exact(x b u e).pT (λc v _ q=>k c v q) (λc q=>by rw[ip (jB q hn)];exact q) λc xs q=>by rw[ip (jB q hn)];exact q
end
noncomputable def Rd(H:Hp)(a:Addr)(u:HO):Prop:=H a=some u\/∃o,H a=some (.iF o u)
theorem Rd.ok{P:Program}{w:World}{H:Hp}{h:Heap}{a:Addr}{u:HO}(r:Rd H a u)(x:jg P w H h):jl P w H h a u:=by
 rcases r with r | ⟨o,r⟩
 ·exact x a u r
 ·obtain⟨_,q⟩:=x a _ r
  exact q
noncomputable def p_:Option HO->Prop
 | some (.lst _)=>True
 | some (.dK _)=>True
 | some (.dT _)=>True
 | some (.set _ _)=>True
 | some (.ins _ _ _)=>True
 | some (.ext _)=>True
 | _=>False
section
variable{P:Program}{w:World}{H:Hp}{h h':Heap}{x e:Addr}{o':HO}
theorem jg.write(ok:jg P w H h)(mu:p_ (H x))(he:e=x\/H e=some (.own x))(k:∀b u,b≠e->h.get? b=some u->h'.get? b=some u)(uj:∃u,h'.get? e=some u)
 (new:jl P w (upd H x o') h' x o'):jg P w (upd H x o') h':=λb u q=>by
 have G7:∀c y,H c=some (.own y)->c≠x:=λc y r z=>by subst z;rw[r]at mu;exact mu
 have Ww:∀c xs,H c=some (.tup xs)->c≠x:=λc xs r z=>by subst z;rw[r]at mu;exact mu
 by_cases hb:b=x
 ·subst hb;rw[e_]at q;cases q;exact new
 ·rw[ip hb]at q
  by_cases sG:b=e
  ·have q':H b=some (.own x):=by
    rcases he with z | z
    ·exact absurd (sG.trans z) hb
    ·rw[sG];exact z
   rw[q]at q';cases q'
   obtain⟨v,hv⟩:=uj
   exact⟨v,by rw[sG];exact hv⟩
  ·refine(ok b u q).pT (λc v hc r=>k c v ?_ r) (λc r=>by rw[ip (G7 c b r)];exact r) λc xs r=>by rw[ip (Ww c xs r)];exact r
   rcases hc with rfl | hc
   ·exact sG
   ·rintro rfl
    rcases he with z | z
    ·exact G7 c b hc z
    ·rw[hc]at z;cases z;exact hb rfl
end
structure Un(fs ex:List Addr)(H U:Hp)(h h':Heap):Prop where
 keep:∀b o,h.get? b=some o->H b=none->b∉fs->b∉ex->h'.get? b=some o
 slot:∀b o,h.get? b=some o->H b=none->b∈fs->b∉ex->∃sl,h'.get? b=some {o with slots:=sl}
 free:∀b o,h.get? b=some o->H b=none->b∉ex->U b=none
 there:∀b o,h.get? b=some o->b∉ex->∃o',h'.get? b=some o'
 qI:∀b xs,H b=some (.tup xs)->U b=some (.tup xs)
 oG:∀b o u,H b=some (.iF o u)->U b=some (.iF o u)
 qH:∀b ps,H b=some (.tH ps)->∃more,U b=some (.tH (ps++more))
section
variable{fs Ra ex ex':List Addr}{H H1 H2:Hp}{h h1 h2 h':Heap}{a x e:Addr}{o:HO}
theorem Un.any(u:Un fs ex H H1 h h1){b:Addr}{ob:Obj}(q:h.get? b=some ob)(n:H b=none)(hx:b∉ex):∃sl,h1.get? b=some {ob with slots:=sl}:=by
 by_cases hb:b∈fs
 ·exact u.slot b ob q n hb hx
 ·exact⟨ob.slots,u.keep b ob q n hb hx⟩
theorem Un.kept(k:∀b u,h.get? b=some u->h'.get? b=some u):Un fs ex H H h h':=
 ⟨λb ob q _ _ _=>k b ob q,λb ob q _ _ _=>⟨ob.slots,k b ob q⟩,λ_ _ _ n _=>n,λb ob q _=>⟨ob,k b ob q⟩,λ_ _ q=>q,λ_ _ _ q=>q,λ_ ps q=>⟨#[],by rw[q];simp⟩⟩
theorem Un.refl:Un fs ex H H h h:=Un.kept λ_ _ q=>q
theorem Un.laid(k:∀b u,h.get? b=some u->h'.get? b=some u)(hp:h.objs.size<=a)(hn:H a=none):Un fs ex H (upd H a o) h h' where
 keep:=λb u q _ _ _=>k b u q
 slot:=λb u q _ _ _=>⟨u.slots,k b u q⟩
 free:=λb u q n _=>by rw[ip (a9 (aS (aF q) hp))];exact n
 there:=λb u q _=>⟨u,k b u q⟩
 qI:=λb xs q=>by rw[ip (jB q hn)];exact q
 oG:=λb u xs q=>by rw[ip (jB q hn)];exact q
 qH:=λb ps q=>⟨#[],by rw[ip (jB q hn),q];simp⟩
theorem Un.write(mu:p_ (H x))(he:e=x\/H e=some (.own x))(k:∀b u,b≠e->h.get? b=some u->h'.get? b=some u)(uj:∃u,h'.get? e=some u):Un fs ex H (upd H x o) h h':=by
 have hx:∀b,H b=none->b≠x:=λb n z=>by subst z;rw[n]at mu;exact mu
 have hb:∀b,H b=none->b≠e:=λb n z=>by
  subst z
  rcases he with r | r
  ·exact hx b n r
  ·rw[n]at r;cases r
 have hm:∀b u,H b=some u->¬p_ (some u)->b≠x:=λb u q nm z=>by subst z;rw[q]at mu;exact nm mu
 refine⟨λb u q n _ _=>k b u (hb b n) q,λb u q n _ _=>⟨u.slots,k b u (hb b n) q⟩,λb u q n _=>by rw[ip (hx b n)];exact n,λb u q _=>?_,
  λb xs q=>by rw[ip (hm b _ q λz=>z)];exact q,λb u xs q=>by rw[ip (hm b _ q λz=>z)];exact q,λb ps q=>⟨#[],by rw[ip (hm b _ q λz=>z),q];simp⟩⟩
 by_cases sG:b=e
 ·subst sG;exact uj
 ·exact⟨u,k b u sG q⟩
end
noncomputable def zZ(h:Heap)(H:Hp):List Addr:=(List.range h.objs.size).filter λa=>(H a).isSome
noncomputable def pz(h:Heap)(H:Hp):Heap:=PySem.W.hideAll h (zZ h H)
theorem SS(h:Heap)(H:Hp):(pz h H).objs.size=h.objs.size:=PySem.W.hideAll_size _ _
theorem SR{h:Heap}{H:Hp}{b:Addr}{o:Obj}(e:h.get? b=some o)(n:H b=none):(pz h H).get? b=some o:=
 PySem.W.hideAll_get _ e λhm=>by
  have q:(H b).isSome=true:=(cR.mp hm).2
  rw[n]at q;simp at q
theorem WL{h:Heap}{H:Hp}{b:Addr}{o:Obj}(e:(pz h H).get? b=some o):h.get? b=some o/\H b=none:=by
 have e':h.get? b=some o:=PySem.W.of_hideAll (zZ h H) e
 refine⟨e',?_⟩
 cases q:H b with
 | none=>rfl
 | some x=>
  have hm:b∈zZ h H:=cR.mpr ⟨List.mem_range.mpr (aF e'),by simp[q]⟩
  have z:(pz h H).get? b=none:=PySem.W.hideAll_none (zZ h H) hm
  rw[z]at e;cases e
structure Mod(K:Fg)(mg:Str->Option Value)(base:Heap):Prop where
 kin:K.In base
 glob:base.Ns mainGlobals mg
 blt:∃mb,base.Ns builtinsNs mb/\∀x:Str,x≠"__name__"->mb x=bootBuiltins x
 nolimit:base.NoLimit
 seer:base.NoSeer
structure Cx where
 prog:Program
 w:World
 K:Fg
 mg:Str->Option Value
 base:Heap
 A:Around
 N:List Str
 kU:Shared
 r0:Hp
 env:Env
 outer:List Env
 stack:List Env
 ex:List Addr
 fn:Str->Bool
 calm:Bool
 pn:List (Addr×Obj)
 xe:Value->Shared->Prop
noncomputable def oF(l:List Env):List Addr:=l.filterMap (·.frame)
noncomputable abbrev Cx.fs(X:Cx):List Addr:=oF X.outer
noncomputable def vH(sc:Scope)(x:Str):Prop:=sc.names.lookup x=some .local\/sc.names.lookup x=some .cell\/sc.names.lookup x=some .free
noncomputable def Loc(sc:Scope)(x:Str):Prop:=sc.names.lookup x=some .local\/sc.names.lookup x=some .cell
noncomputable def Look(env:Env)(h:Heap)(m:Str->Option Value)(x:Str)(u:Value):Prop:=
 (env.kindOf x=some .local/\m x=some u)\/((env.kindOf x=some .cell\/env.kindOf x=some .free)/\∃c,env.cells.lookup x=some c/\h.IsCell c (some u))
structure Cx.Ok(X:Cx):Prop where
 mod:Mod X.K X.mg X.base
 kind:X.env.scope.kind= .function
 glob:X.env.globals=mainGlobals
 blt:X.env.builtins=builtinsNs
 above:X.kU.heap.objs.size<=X.env.locals
 inj:∀x y c,X.env.cells.lookup x=some c->X.env.cells.lookup y=some c->x=y
 has:∀x,(X.env.kindOf x=some .cell\/X.env.kindOf x=some .free)->∃c,X.env.cells.lookup x=some c
 vS:∀x c,X.fn x=true->X.env.cells.lookup x=some c->X.kU.heap.objs.size<=c
 hd:X.calm=true->X.A.handled=none
 frames:X.A.frames=some X.stack
 zS:X.stack=X.outer\/(X.stack=X.env::X.outer/\X.env.frame=some X.env.locals)
 yu:∀b∈X.ex,b≠X.env.locals/\∀x c,X.env.cells.lookup x=some c->c≠b
 bs:∀b o,X.base.get? b=some o->X.kU.heap.get? b=some o/\X.r0 b=none
 qc:X.base.objs.size<=X.kU.heap.objs.size
 xj:∀b o,X.base.get? b=some o->b∉X.ex
 v5:∀b∈X.ex,b∉X.fs
 nV:X.kU.heap.FunFrames X.base X.outer
 sE:∀b∈X.fs,X.r0 b=none
structure Inv(X:Cx)(pins:List (Addr×Obj))(σ:List (Option V))(H:Hp)(s:Shared):Prop where
 ok:X.Ok
 os:s.os=X.kU.os
 bare:AllBare s.gens
 base:Un X.fs X.ex X.r0 H X.kU.heap s.heap
 loc:∃m,s.heap.Ns X.env.locals m/\∀(i:Nat) (x:Str) (v:V),X.N[i]? =some x->σ[i]? =some (some v)->vH X.env.scope x->∃u,RelV v u/\Look X.env s.heap m x u
 cell:∀x c,X.env.cells.lookup x=some c->∃v,s.heap.IsCell c v
 free:H X.env.locals=none
 nh:∀x c,X.env.cells.lookup x=some c->H c=none
 pin:∀p∈X.pn++pins,s.heap.get? p.1=some p.2/\H p.1=none/\p.1≠X.env.locals/\p.1∉X.fs/\∀v,p.2.data≠.cell v
 h_:jg X.prog X.w H s.heap
 len:σ.length=X.N.length
section
variable{X:Cx}{pins:List (Addr×Obj)}{σ:List (Option V)}{H U:Hp}{s:Shared}{h':Heap}
theorem Cx.Ok.Wn(ok:X.Ok){b:Addr}{o:Obj}(e:X.base.get? b=some o):b∉X.fs:=λhb=>by
 have:=(ok.nV.mem hb).1
 rw[e]at this;cases this
theorem Inv.bs(I:Inv X pins σ H s):∀b o,X.base.get? b=some o->s.heap.get? b=some o/\H b=none:=λb o e=>
 ⟨I.base.keep b o (I.ok.bs b o e).1 (I.ok.bs b o e).2 (I.ok.Wn e) (I.ok.xj b o e),I.base.free b o (I.ok.bs b o e).1 (I.ok.bs b o e).2 (I.ok.xj b o e)⟩
theorem Inv.bk(I:Inv X pins σ H s):∀b o,X.base.get? b=some o->s.heap.get? b=some o:=λb o e=>(I.bs b o e).1
theorem Inv.mod(I:Inv X pins σ H s):Mod X.K X.mg X.base:=I.ok.mod
theorem Inv.n8(I:Inv X pins σ H s):X.K.In s.heap:=I.ok.mod.kin.keeps I.bk
theorem Inv.nolimit(I:Inv X pins σ H s):s.heap.NoLimit:=I.ok.mod.nolimit.keeps I.bk
theorem Inv.lt(I:Inv X pins σ H s):X.env.locals<s.heap.objs.size:=let ⟨_,hn,_⟩:=I.loc;hn.lt
theorem Inv.sz(I:Inv X pins σ H s):X.kU.heap.objs.size<=s.heap.objs.size:=aN I.ok.above (aI I.lt)
theorem Inv.Wp(I:Inv X pins σ H s){a:Addr}(h:s.heap.objs.size<=a):a∉X.fs:=λhb=>by
 obtain⟨_,o,ho,_⟩:=I.ok.nV.mem hb
 exact absurd (aS (aF ho) (aN I.sz h)) (cO _)
theorem Inv.sA(I:Inv X pins σ H s):∀x c,X.env.cells.lookup x=some c->c≠X.env.locals:=λx c e z=>by
 obtain⟨v,o,ho,hd⟩:=I.cell x c e
 obtain⟨m,⟨o',es,ep,n6,lV,_⟩,_⟩:=I.loc
 rw[z,n6]at ho;cases ho;rw[lV]at hd;cases hd
theorem Inv.nV(I:Inv X pins σ H s):s.heap.FunFrames X.base X.outer:=by
 have all:∀(l:List Env),(∀b∈oF l,b∈X.fs)->X.kU.heap.FunFrames X.base l->s.heap.FunFrames X.base l:=by
  intro l
  induction l with
  | nil=>intro _ _;trivial
  | cons env r ih=>
   intro hs hl
   obtain⟨hk,⟨L,o,hf,hn,ho,hd⟩,hr⟩:=hl
   have hL:L∈X.fs:=hs L (by unfold oF;rw[d7,hf];exact aD)
   obtain⟨sl,e⟩:=I.base.slot L o ho (I.ok.sE L hL) hL λz=>I.ok.v5 L z hL
   exact⟨hk,⟨L,_,hf,hn,e,hd⟩,ih (λb hb=>hs b (by unfold oF;rw[d7,hf];exact aw _ hb)) hr⟩
 exact all X.outer (λ_ hb=>hb) I.ok.nV
theorem Inv.stack(I:Inv X pins σ H s):s.heap.FunFrames X.base X.stack:=by
 rcases I.ok.zS with e | ⟨e,hf⟩
 ·rw[e];exact I.nV
 ·rw[e]
  obtain⟨m,hn,_⟩:=I.loc
  refine .cons (by rw[I.ok.kind];decide) hf hn ?_ I.nV
  exact Heap.get?_none_of_le (aN I.ok.qc I.ok.above)
theorem Inv.Dt(I:Inv X pins σ H s):∀b∈oF X.stack,b∈X.env.locals::X.fs:=λb hb=>by
 rcases I.ok.zS with e | ⟨e,hf⟩
 ·rw[e]at hb;exact aw _ hb
 ·rw[e]at hb
  unfold oF at hb
  rw[d7,hf]at hb
  exact hb
theorem Inv.Ml(I:Inv X pins σ H s):∀b∈oF X.stack,H b=none:=λb hb=>by
 rcases aM.mp (I.Dt b hb) with e | hb
 ·rw[e];exact I.free
 ·obtain⟨_,o,ho,_⟩:=I.ok.nV.mem hb
  exact I.base.free b o ho (I.ok.sE b hb) λz=>I.ok.v5 b z hb
theorem Inv.step{g':Array GenState}{t':Nat}{d':Drawn}{ch:List Addr}(I:Inv X pins σ H s)
 (pf:∀b∈ch,(b∈X.ex\/X.kU.heap.objs.size<=b)/\b≠X.env.locals/\(∀x c,X.env.cells.lookup x=some c->c≠b)/\∀p∈X.pn++pins,p.1≠b)
 (keep:∀b o,b≠X.env.locals->b∉X.fs->b∉ch->s.heap.get? b=some o->H b=none->h'.get? b=some o)
 (slot:∀b o,b≠X.env.locals->b∈X.fs->b∉ch->s.heap.get? b=some o->H b=none->∃sl,h'.get? b=some {o with slots:=sl}) (free:∀b o,b∉ch->s.heap.get? b=some o->H b=none->U b=none)
 (there:∀b o,b∉ch->s.heap.get? b=some o->∃o',h'.get? b=some o')
 (qI:∀b xs,H b=some (.tup xs)->U b=some (.tup xs)) (oG:∀b o u,H b=some (.iF o u)->U b=some (.iF o u)) (qH:∀b ps,H b=some (.tH ps)->∃more,U b=some (.tH (ps++more)))
 (ns:∀m,s.heap.Ns X.env.locals m->h'.Ns X.env.locals m) (h_:jg X.prog X.w U h') (hg:AllBare g'):
 Inv X pins σ U {s with heap:=h',gens:=g',drawn:=d',toks:=t'}:=by
 have GU:∀b o,X.kU.heap.get? b=some o->b≠X.env.locals:=λb o e=>a9 (aS (aF e) I.ok.above)
 have zv:∀b o,X.kU.heap.get? b=some o->b∉X.ex->b∉ch:=λb o e hx hb=>by
  rcases (pf b hb).1 with z | z
  ·exact hx z
  ·exact absurd (aS (aF e) z) (cO _)
 have cellK:∀x c,X.env.cells.lookup x=some c->∀v,s.heap.IsCell c v->h'.IsCell c v:=λx c e v ⟨o,ho,hd⟩=>by
  have xh:c∉ch:=λz=>(pf c z).2.2.1 x c e rfl
  by_cases hc:c∈X.fs
  ·obtain⟨sl,q⟩:=slot c o (I.sA x c e) hc xh ho (I.nh x c e)
   exact⟨_,q,hd⟩
  ·exact⟨o,keep c o (I.sA x c e) hc xh ho (I.nh x c e),hd⟩
 refine⟨I.ok,I.os,hg,⟨λb o e n hb hx=>?_,λb o e n hb hx=>?_,λb o e n hx=>?_,λb o e hx=>?_,λb xs e=>qI b xs (I.base.qI b xs e),λb o xs e=>oG b o xs (I.base.oG b o xs e),λb ps e=>?_⟩,?_,λx c e=>?_,?_,λx c e=>?_,λp hp=>?_,h_,I.len⟩
 ·exact keep b o (GU b o e) hb (zv b o e hx) (I.base.keep b o e n hb hx) (I.base.free b o e n hx)
 ·obtain⟨sl,e1⟩:=I.base.slot b o e n hb hx
  obtain⟨sl',e2⟩:=slot b _ (GU b o e) hb (zv b o e hx) e1 (I.base.free b o e n hx)
  exact⟨sl',e2⟩
 ·obtain⟨o',e1⟩:=I.base.there b o e hx
  exact free b o' (zv b o e hx) e1 (I.base.free b o e n hx)
 ·obtain⟨o',e1⟩:=I.base.there b o e hx
  exact there b o' (zv b o e hx) e1
 ·obtain⟨m1,e1⟩:=I.base.qH b ps e
  obtain⟨m2,e2⟩:=qH b _ e1
  exact⟨m1++m2,by rw[e2,Array.append_assoc]⟩
 ·obtain⟨m,hn,hl⟩:=I.loc
  refine⟨m,ns m hn,λi x v e1 e2 e3=>?_⟩
  obtain⟨u,r,l⟩:=hl i x v e1 e2 e3
  refine⟨u,r,?_⟩
  rcases l with l | ⟨k,c,e,z⟩
  ·exact .inl l
  ·exact .inr ⟨k,c,e,cellK x c e _ z⟩
 ·obtain⟨v,z⟩:=I.cell x c e
  exact⟨v,cellK x c e v z⟩
 ·obtain⟨m,⟨o,_,_,ho,_⟩,_⟩:=I.loc
  exact free _ o (λz=>(pf _ z).2.1 rfl) ho I.free
 ·obtain⟨v,o,ho,hd⟩:=I.cell x c e
  exact free c o (λz=>(pf c z).2.2.1 x c e rfl) ho (I.nh x c e)
 ·obtain⟨e,n,ne,nf,d⟩:=I.pin p hp
  have xh:p.1∉ch:=λz=>(pf p.1 z).2.2.2 p hp rfl
  exact⟨keep p.1 p.2 ne nf xh e n,free p.1 p.2 xh e n,ne,nf,d⟩
theorem Inv.un{t':Nat}(I:Inv X pins σ H s)(u:Un X.fs [] H U s.heap h')(h_:jg X.prog X.w U h'):Inv X pins σ U {s with heap:=h',toks:=t'}:=by
 obtain⟨m,⟨o,es,ep,ho,r⟩,_⟩:=id I.loc
 obtain⟨sl,hL⟩:=u.any ho I.free (by simp)
 exact I.step (g':=s.gens) (d':=s.drawn) (ch:=[]) (λ_ z=>nomatch z) (λb o _ hb _ e n=>u.keep b o e n hb (by simp)) (λb o _ hb _ e n=>u.slot b o e n hb (by simp)) (λb o _ e n=>u.free b o e n (by simp)) (λb o _ e=>u.there b o e (by simp)) u.qI u.oG u.qH (λm' hm=>by
  obtain⟨o',lT,ll,n6,r'⟩:=hm
  rw[ho]at n6;cases n6
  exact⟨_,lT,ll,hL,r'⟩) h_ I.bare
theorem Inv.call{g':Array GenState}{t':Nat}{d':Drawn}{ch:List Addr}(I:Inv X pins σ H s)(u:Un (oF X.stack) ch H U s.heap h')(h_:jg X.prog X.w U h')(hg:AllBare g')
 (pf:∀b∈ch,(b∈X.ex\/X.kU.heap.objs.size<=b)/\b≠X.env.locals/\(∀x c,X.env.cells.lookup x=some c->c≠b)/\∀p∈X.pn++pins,p.1≠b):
 Inv X pins σ U {s with heap:=h',gens:=g',drawn:=d',toks:=t'}:=by
 obtain⟨m,⟨o,es,ep,ho,r⟩,_⟩:=id I.loc
 obtain⟨sl,hL⟩:=u.any ho I.free λz=>(pf _ z).2.1 rfl
 exact I.step (ch:=ch) pf (λb o hL hb hc e n=>u.keep b o e n (λz=>(aM.mp (I.Dt b z)).elim hL hb) hc) (λb o _ _ hc e n=>u.any e n hc) (λb o hc e n=>u.free b o e n hc) (λb o hc e=>u.there b o e hc) u.qI u.oG u.qH (λm' hm=>by
  obtain⟨o',lT,ll,n6,r'⟩:=hm
  rw[ho]at n6;cases n6
  exact⟨_,lT,ll,hL,r'⟩) h_ hg
theorem Inv.turned{t':Nat}{it:Addr}(I:Inv X pins σ H s)(k:∀b o,b≠it->s.heap.get? b=some o->h'.get? b=some o)(hn:H it=none)(hL:it≠X.env.locals)
 (h1:it∈X.ex\/X.kU.heap.objs.size<=it) (h2:∀x c,X.env.cells.lookup x=some c->c≠it) (h3:∀p∈X.pn++pins,p.1≠it):Inv X pins σ H {s with heap:=h',toks:=t'}:=by
 have rG:∀b u,H b=some u->b≠it:=λb u e z=>by rw[z,hn]at e;cases e
 refine I.step (g':=s.gens) (d':=s.drawn) (ch:=[it]) (λb hb=>?_) (λb o _ _ hc e _=>k b o (λz=>hc (by simp[z])) e) (λb o _ _ hc e _=>⟨o.slots,k b o (λz=>hc (by simp[z])) e⟩) (λ_ _ _ _ n=>n)
  (λb o hc e=>⟨o,k b o (λz=>hc (by simp[z])) e⟩) (λ_ _ e=>e) (λ_ _ _ e=>e) (λb ps e=>⟨#[],by rw[e];simp⟩) (λm hm=>?_) (λb u e=>?_) I.bare
 ·have e:b=it:=by simpa using hb
  subst e
  exact⟨h1,hL,h2,h3⟩
 ·obtain⟨o,es,ep,ho,r⟩:=hm
  exact⟨o,es,ep,k _ o (cJ hL) ho,r⟩
 ·refine(I.h_ b u e).pT (λc v hc q=>k c v ?_ q) (λ_ q=>q) λ_ _ q=>q
  rcases hc with z | z
  ·rw[z];exact rG b u e
  ·exact rG c _ z
theorem Inv.tok(I:Inv X pins σ H s)(t:Nat):Inv X pins σ H {s with toks:=t}:=I.un (h':=s.heap) (t':=t) Un.refl I.h_
theorem Inv.kept{t':Nat}(I:Inv X pins σ H s)(k:∀b u,s.heap.get? b=some u->h'.get? b=some u):Inv X pins σ H {s with heap:=h',toks:=t'}:=I.un (Un.kept k) (I.h_.kept k)
theorem Inv.laid{a:Addr}{o:HO}{t':Nat}(I:Inv X pins σ H s)(k:∀b u,s.heap.get? b=some u->h'.get? b=some u)(hp:s.heap.objs.size<=a)(new:jl X.prog X.w (upd H a o) h' a o):
 Inv X pins σ (upd H a o) {s with heap:=h',toks:=t'}:=I.un (Un.laid k hp (I.h_.fresh hp)) (I.h_.laid k hp new)
theorem Inv.write{x e:Addr}{o:HO}{t':Nat}(I:Inv X pins σ H s)(mu:p_ (H x))(he:e=x\/H e=some (.own x))(k:∀b u,b≠e->s.heap.get? b=some u->h'.get? b=some u)(uj:∃u,h'.get? e=some u)
 (new:jl X.prog X.w (upd H x o) h' x o):Inv X pins σ (upd H x o) {s with heap:=h',toks:=t'}:=I.un (Un.write mu he k uj) (I.h_.write mu he k uj new)
theorem Inv.weak{ik:List (Option V)}(I:Inv X pins σ H s)(hl:ik.length=σ.length)(w:∀(i:Nat) v,ik[i]? =some (some v)->σ[i]? =some (some v)):Inv X pins ik H s:=
 ⟨I.ok,I.os,I.bare,I.base,let ⟨m,hn,S8⟩:=I.loc;⟨m,hn,λi x v e1 e2 e3=>S8 i x v e1 (w i v e2) e3⟩,I.cell,I.free,I.nh,I.pin,I.h_,hl.trans I.len⟩
theorem Inv.HX{HW:List (Addr×Obj)}(I:Inv X pins σ H s)(h:∀p∈HW,s.heap.get? p.1=some p.2/\H p.1=none/\p.1≠X.env.locals/\p.1∉X.fs/\∀v,p.2.data≠.cell v):Inv X HW σ H s:=
 ⟨I.ok,I.os,I.bare,I.base,I.loc,I.cell,I.free,I.nh,λp hp=>(bg.mp hp).elim (λz=>I.pin p (di _ z)) (h p),I.h_,I.len⟩
theorem Ct{N:List Str}(hN:N.Nodup){i j:Nat}{x:Str}(a:N[i]? =some x)(b:N[j]? =some x):i=j:=by
 obtain⟨h1,e1⟩:=bw.mp a
 obtain⟨h2,e2⟩:=bw.mp b
 exact(List.getElem_inj hN).mp (e1.trans e2.symm)
theorem Mn{M:Model}{A:Around}{E:Value->Shared->Prop}{i:Nat}{x:Str}{v:V}{u:Value}{Q:Unit->Shared->Prop}(I:Inv X pins σ H s)(hN:X.N.Nodup)(hi:X.N[i]? =some x)(hx:Loc X.env.scope x)(r:RelV v u)
 (h:∀s',Inv X pins (σ.set i (some v)) H s'->(∃a,Heap.SameBut a s.heap s'.heap/\(a=X.env.locals\/X.env.cells.lookup x=some a))->Q () s') (hf:X.fn x=true\/X.env.scope.names.lookup x=some .local:=by first | exact .inl rfl | exact .inr rfl | assumption):wpAny M A (storeName X.env x u) Q E s:=by
 obtain⟨m,hn,hl⟩:=id I.loc
 have Su:(X.env.scope.kind == .class||(X.env.scope.kind == .module&&X.env.locals != X.env.globals))=false:=by rw[I.ok.kind];rfl
 have Fb:i < σ.length:=by rw[I.len];exact(bw.mp hi).1
 have sA:=I.sA
 have tracked:∀{a:Addr} {h':Heap},(∃o,s.heap.get? a=some o/\H a=none)->Heap.SameBut a s.heap h'->jg X.prog X.w H h':=λ{a h'} ha hs b ob e=>by
  obtain⟨_,_,uk⟩:=ha
  refine(I.h_ b ob e).pT (λc w' hc q=>(hs.2 c ?_).trans q) (λ_ q=>q) λ_ _ q=>q
  rintro rfl
  rcases hc with rfl | hc
  ·rw[uk]at e;cases e
  ·rw[uk]at hc;cases hc
 rcases hx with hk | hk
 ·refine wpAny_storeName_local hk hn (λh' Tp hs=>?_) Su
  obtain⟨oL,_,_,Tx,_⟩:=id hn
  refine h _ ⟨I.ok,I.os,I.bare,⟨λb o e n hb hx=>?_,λb o e n hb hx=>?_,I.base.free,λb o e hx=>?_,I.base.qI,I.base.oG,I.base.qH⟩,⟨_,Tp,λj y v' e1 e2 e3=>?_⟩,λy c e=>?_,I.free,I.nh,λp hp=>?_,tracked ⟨oL,Tx,I.free⟩ hs,by simpa using I.len⟩ ⟨_,hs,.inl rfl⟩
  ·exact(hs.2 b (a9 (aS (aF e) I.ok.above))).trans (I.base.keep b o e n hb hx)
  ·obtain⟨sl,e1⟩:=I.base.slot b o e n hb hx
   exact⟨sl,(hs.2 b (a9 (aS (aF e) I.ok.above))).trans e1⟩
  ·obtain⟨o',e1⟩:=I.base.there b o e hx
   exact⟨o',(hs.2 b (a9 (aS (aF e) I.ok.above))).trans e1⟩
  ·by_cases hj:j=i
   ·subst hj
    rw[hi]at e1;cases e1
    rw[fB Fb]at e2
    cases e2
    exact⟨u,r,.inl ⟨hk,by simp⟩⟩
   ·rw[f7 (cJ hj)]at e2
    obtain⟨u',r',q⟩:=hl j y v' e1 e2 e3
    refine⟨u',r',?_⟩
    rcases q with⟨k,e⟩ | ⟨k,c,e,z⟩
    ·refine .inl ⟨k,?_⟩
     have:y≠x:=λe=>hj (Ct hN e1 (e▸hi))
     simp[this,e]
    ·exact .inr ⟨k,c,e,z.sameBut hs (sA y c e)⟩
  ·obtain⟨w',z⟩:=I.cell y c e
   exact⟨w',z.sameBut hs (sA y c e)⟩
  ·obtain⟨e,n,ne,nf,d⟩:=I.pin p hp
   exact⟨(hs.2 p.1 ne).trans e,n,ne,nf,d⟩
 ·have nr:X.fn x=true:=by
   rcases hf with z | z
   ·exact z
   ·rw[z]at hk;cases hk
  obtain⟨c,hc⟩:=I.ok.has x (.inl hk)
  obtain⟨w',z⟩:=I.cell x c hc
  refine wpAny_storeName_cell I.ok.kind hk hc z (λh' we hs=>?_)
  obtain⟨oc,Fu,TB⟩:=id z
  refine h {s with heap:=h'} ⟨I.ok,I.os,I.bare,⟨λb o e n hb hx=>?_,λb o e n hb hx=>?_,I.base.free,λb o e hx=>?_,I.base.qI,I.base.oG,I.base.qH⟩,⟨m,hn.sameBut hs (cJ (sA x c hc)),λj y v' e1 e2 e3=>?_⟩,λy c' e=>?_,I.free,I.nh,λp hp=>?_,tracked ⟨oc,Fu,I.nh x c hc⟩ hs,by simpa using I.len⟩ ⟨c,hs,.inr hc⟩
  ·exact(hs.2 b (a9 (aS (aF e) (I.ok.vS x c nr hc)))).trans (I.base.keep b o e n hb hx)
  ·obtain⟨sl,e1⟩:=I.base.slot b o e n hb hx
   exact⟨sl,(hs.2 b (a9 (aS (aF e) (I.ok.vS x c nr hc)))).trans e1⟩
  ·obtain⟨o',e1⟩:=I.base.there b o e hx
   exact⟨o',(hs.2 b (a9 (aS (aF e) (I.ok.vS x c nr hc)))).trans e1⟩
  ·by_cases hj:j=i
   ·subst hj
    rw[hi]at e1;cases e1
    rw[fB Fb]at e2
    cases e2
    exact⟨u,r,.inr ⟨.inl hk,c,hc,we⟩⟩
   ·rw[f7 (cJ hj)]at e2
    obtain⟨u',r',q⟩:=hl j y v' e1 e2 e3
    refine⟨u',r',?_⟩
    rcases q with q | ⟨k,c',e,z'⟩
    ·exact .inl q
    ·refine .inr ⟨k,c',e,z'.sameBut hs ?_⟩
     rintro rfl
     exact hj (Ct hN e1 (I.ok.inj _ _ _ e hc▸hi))
  ·by_cases uh:c'=c
   ·subst uh;exact⟨_,we⟩
   ·obtain⟨w2,z2⟩:=I.cell y c' e
    exact⟨w2,z2.sameBut hs uh⟩
  ·obtain⟨e,n,ne,nf,d⟩:=I.pin p hp
   refine⟨(hs.2 p.1 ?_).trans e,n,ne,nf,d⟩
   intro q
   rw[q,Fu]at e
   have q':oc=p.2:=ae e
   exact d w' (by rw[<-q'];exact TB)
theorem Mm{M:Model}{A:Around}{E:Value->Shared->Prop}{i:Nat}{x:Str}{v:V}{u:Value}{Q:Unit->Shared->Prop}(I:Inv X pins σ H s)(hN:X.N.Nodup)(hi:X.N[i]? =some x)(hx:Loc X.env.scope x)(r:RelV v u)
 (h:∀s',Inv X pins (σ.set i (some v)) H s'->Q () s') (hf:X.fn x=true\/X.env.scope.names.lookup x=some .local:=by first | exact .inl rfl | exact .inr rfl | assumption):wpAny M A (storeName X.env x u) Q E s:=
 Mn I hN hi hx r (λs' I' _=>h s' I') hf
theorem Inv.NS{s':Shared}{ch:List Addr}(I:Inv X pins σ H s)(ho:s'.os=s.os)(u:Un (oF X.stack) ch H U s.heap s'.heap)(h_:jg X.prog X.w U s'.heap)(hg:AllBare s'.gens)
 (pf:∀b∈ch,(b∈X.ex\/X.kU.heap.objs.size<=b)/\b≠X.env.locals/\(∀x c,X.env.cells.lookup x=some c->c≠b)/\∀p∈X.pn++pins,p.1≠b):Inv X pins σ U s':=by
 obtain⟨h',g',d',t',o'⟩:=s'
 have e:o'=s.os:=ho
 subst e
 exact I.call (g':=g') (t':=t') (d':=d') u h_ hg pf
end
noncomputable abbrev XK:=Value->Option Addr->Hp->Prop
noncomputable abbrev St:=List (Option V)
noncomputable abbrev VK:=V->Hp->Prop
noncomputable abbrev TE:=St->Hp->VK->Prop
noncomputable abbrev TT:=St->Hp->(Bool->Hp->Prop)->Prop
noncomputable abbrev TA:=St->Hp->(List V->Hp->Prop)->Prop
structure Ends where
 nx:St->Hp->Prop
 rt:VK
 bk:St->Hp->Prop:=λ_ _=>False
 ct:St->Hp->Prop:=λ_ _=>False
noncomputable abbrev TS:=Ends->St->Hp->Prop
noncomputable def EP(X:Cx)(pins:List (Addr×Obj))(σ:St)(Q:VK)(u:Value)(s':Shared):Prop:=∃v U,Inv X pins σ U s'/\RelV v u/\Q v U
noncomputable def TP(X:Cx)(pins:List (Addr×Obj))(σ:St)(Q:Bool->Hp->Prop)(b:Bool)(s':Shared):Prop:=∃U,Inv X pins σ U s'/\Q b U
noncomputable def AP(X:Cx)(pins:List (Addr×Obj))(σ:St)(Q:List V->Hp->Prop)(us:List Value)(s':Shared):Prop:=∃vs U,Inv X pins σ U s'/\iG vs us/\Q vs U
noncomputable def SP(X:Cx)(pins:List (Addr×Obj))(D:Ends)(f:Flow)(s':Shared):Prop:=
 match f with
 | .next=>∃ik U,Inv X pins ik U s'/\D.nx ik U
 | .brk=>∃ik U,Inv X pins ik U s'/\D.bk ik U
 | .cont=>∃ik U,Inv X pins ik U s'/\D.ct ik U
 | .ret u=>∃v ik U,Inv X pins ik U s'/\RelV v u/\D.rt v U
noncomputable def PE(X:Cx)(e:Expr)(t:TE):Prop:=
 ∀(pins:List (Addr×Obj)) (s:Shared) (σ:St) (H:Hp) (Q:VK),Inv X pins σ H s->t σ H Q->wpAny (model X.prog X.w) X.A (eval e X.env) (EP X pins σ Q) X.xe s
noncomputable def PT(X:Cx)(e:Expr)(t:TT):Prop:=
 ∀(pins:List (Addr×Obj)) (s:Shared) (σ:St) (H:Hp) (Q:Bool->Hp->Prop),Inv X pins σ H s->t σ H Q->wpAny (model X.prog X.w) X.A (isTrue e X.env (eval e X.env)) (TP X pins σ Q) X.xe s
noncomputable def PW(X:Cx)(e:Expr)(t:TT):Prop:=
 ∀(whole:Sem Value) (pins:List (Addr×Obj)) (s:Shared) (σ:St) (H:Hp) (Q:Bool->Hp->Prop),Inv X pins σ H s->t σ H Q->wpAny (model X.prog X.w) X.A (isTrue e X.env whole) (TP X pins σ Q) X.xe s
theorem PW.pt{X:Cx}{e:Expr}{t:TT}(h:PW X e t):PT X e t:=h _
noncomputable def PA(X:Cx)(es:List Expr)(t:TA):Prop:=
 ∀(pos:Pos) (pins:List (Addr×Obj)) (s:Shared) (σ:St) (H:Hp) (Q:List V->Hp->Prop),Inv X pins σ H s->t σ H Q->wpAny (model X.prog X.w) X.A (spliced (backTo pos (starEach es X.env))) (AP X pins σ Q) X.xe s
noncomputable def PS(X:Cx)(st:Stmt)(t:TS):Prop:=
 ∀(pins:List (Addr×Obj)) (s:Shared) (σ:St) (H:Hp) (D:Ends),Inv X pins σ H s->t D σ H->wpAny (model X.prog X.w) X.A (exec st X.env) (SP X pins D) X.xe s
noncomputable def md(X:Cx)(st:List Stmt)(t:TS):Prop:=
 ∀(pins:List (Addr×Obj)) (s:Shared) (σ:St) (H:Hp) (D:Ends),Inv X pins σ H s->t D σ H->wpAny (model X.prog X.w) X.A (execs st X.env) (SP X pins D) X.xe s
theorem ir{α:Type}{t:Sem α}{Q Q':α->Shared->Prop}{M:Model}{A:Around}{E:Value->Shared->Prop}{s:Shared}(h:wpAny M A t Q E s)(hQ:∀a s,Q a s->Q' a s):wpAny M A t Q' E s:=dB h hQ λ_ _ x=>x
section
variable{X:Cx}
noncomputable def jb(i:Nat):TE:=λσ H Q=>∃v,σ[i]? =some (some v)/\Q v H
noncomputable def tC(v:V):TE:=λ_ H Q=>Q v H
theorem Yk{i:Nat}{x:Str}{pos:Pos}(hN:X.N[i]? =some x)(hv:vH X.env.scope x)(hd:(x == ("__debug__":Str))=false:=by decide)(pb:(x == ("__classdict__":Str))=false:=by decide):PE X (.Name x pos) (jb i):=by
 intro pins s σ H Q I h
 obtain⟨v,e,h⟩:=h
 obtain⟨m,hn,hl⟩:=I.loc
 obtain⟨u,r,l⟩:=hl i x v hN e hv
 have fin:EP X pins σ Q u s:=⟨v,H,I,r,h⟩
 rcases l with⟨hk,hm⟩ | ⟨hk,c,hc,EY⟩
 ·exact wpAny_Name (wpAny_loadName_local I.ok.kind hk hn hm fin) hd
 ·rcases hk with hk | hk
  ·exact wpAny_Name (wpAny_loadName_cell I.ok.kind hk hc EY fin) hd
  ·exact wpAny_Name (wpAny_loadName_free I.ok.kind hk hc EY fin pb) hd
theorem ij{i j pos}:PE X (.Constant (.int i) j pos) (tC (.int i)):=λ_ _ _ H _ I h=>wpAny_Constant_int ⟨.int i,H,I.tok _,⟨_,rfl⟩,h⟩
theorem l6{b j pos}:PE X (.Constant (.bool b) j pos) (tC (.bl b)):=λ_ _ _ H _ I h=>Constant_bool ⟨.bl b,H,I,rfl,h⟩
theorem iM{j pos}:PE X (.Constant .none j pos) (tC .ia):=λ_ _ _ H _ I h=>Constant_none ⟨.ia,H,I,rfl,h⟩
theorem HQ{x j pos}:PE X (.Constant (.str x) j pos) (tC (.str x)):=λ_ _ _ H _ I h=>Calls.Constant_str ⟨.str x,H,I.tok _,⟨_,rfl⟩,h⟩
noncomputable def Gl(X:Cx)(x:Str):Prop:=X.env.kindOf x=some .globalImplicit
theorem zb{E:Value->Shared->Prop}{pins:List (Addr×Obj)}{s:Shared}{σ:St}{H:Hp}{x:Str}{u:Value}{pos:Pos}{Q:Value->Shared->Prop}(I:Inv X pins σ H s)(hg:Gl X x)(hm:X.mg x=some u)(h:Q u s)
 (hd:(x == ("__debug__":Str))=false:=by decide):wpAny (model X.prog X.w) X.A (eval (.Name x pos) X.env) Q E s:=
 Calls.Name_function_global I.ok.kind hg (Calls.loadGlobal_global (by rw[I.ok.glob];exact I.mod.glob.keeps I.bk) hm h) hd
theorem qD{E:Value->Shared->Prop}{pins:List (Addr×Obj)}{s:Shared}{σ:St}{H:Hp}{x:Str}{u:Value}{pos:Pos}{Q:Value->Shared->Prop}(I:Inv X pins σ H s)(hg:Gl X x)(hm:X.mg x=none)(hv:bootBuiltins x=some u)(h:Q u s)
 (hn:x≠"__name__":=by decide) (hd:(x == ("__debug__":Str))=false:=by decide):wpAny (model X.prog X.w) X.A (eval (.Name x pos) X.env) Q E s:=by
 obtain⟨mb,h1,h2⟩:=I.mod.blt
 exact Calls.Name_function_global I.ok.kind hg (Calls.loadGlobal_builtin (by rw[I.ok.glob];exact I.mod.glob.keeps I.bk) hm (by rw[I.ok.blt];exact h1.keeps I.bk) ((h2 x hn).trans hv) h) hd
theorem zH{x:Str}{v:V}{u:Value}{pos:Pos}(hg:Gl X x)(hm:X.mg x=some u)(r:RelV v u)(hd:(x == ("__debug__":Str))=false:=by decide):PE X (.Name x pos) (tC v):=
 λ_ _ _ H _ I h=>zb I hg hm ⟨v,H,I,r,h⟩ hd
variable{a b:Expr}{ta tb:TE}{pos:Pos}
noncomputable def PC(X:Cx)(op:CmpOp)(a b:Expr)(t:TE):Prop:=
 ∀
  (pins:List (Addr×Obj)) (s:Shared) (σ:St) (H:Hp) (Q:VK),Inv X pins σ H s->t σ H Q->
  wpAny (model X.prog X.w) X.A (eval a X.env) (λv iW=>wpAny (model X.prog X.w) X.A (eval b X.env) (λu kO=>wpAny (model X.prog X.w) X.A (compareOp op v u) (EP X pins σ Q) X.xe kO) X.xe iW) X.xe s
noncomputable def tB(t:TE):TT:=λσ H Q=>t σ H λx H1=>∃c,x= .bl c/\Q c H1
theorem HN{op:CmpOp}{t:TE}(h:PC X op a b t)(h1:behindInMarks op b=false:=by first | exact Wm _ (by decide) (by decide) | rfl):PE X (.Compare a [op] [b] pos) t:=λpins s σ H Q I hw=>wpAny_Compare1 (h pins s σ H Q I hw) h1
theorem zK{op:CmpOp}{t:TE}(h:PC X op a b t)(h1:behindInMarks op b=false:=by first | exact Wm _ (by decide) (by decide) | rfl):PT X (.Compare a [op] [b] pos) (tB t):=by
 intro pins s σ H Q I hw
 refine wpAny_isTrue_Compare1 (ir (h pins s σ H _ I hw) λv s1 h1=>ir h1 λu s2 h2=>ir h2 λc s3 ⟨x,H1,I1,r1,q1⟩=>?_) h1
 obtain⟨d,rfl,q⟩:=q1
 cases r1
 exact cK ⟨H1,I1,q⟩
variable{tA zT:TT}{rest:List Expr}
noncomputable def Ms(t u:TT):TT:=λσ H Q=>t σ H λc H1=>if c=true then u σ H1 Q else Q false H1
noncomputable def Mz(t u:TT):TT:=λσ H Q=>t σ H λc H1=>if c=true then Q true H1 else u σ H1 Q
noncomputable def abI(t:TT):TT:=λσ H Q=>t σ H λc H1=>Q (!c) H1
theorem xD(ha:PT X a tA):PW X (.BoolOp .And [a] pos) tA:=by
 intro wh pins s σ H Q I h
 refine isTrue_and (ir (ha pins s σ H Q I h) λc s1 e=>?_)
 cases c with
 | true=>exact isTrue_and_nil e
 | false=>exact e
theorem mE(ha:PT X a tA):PW X (.BoolOp .Or [a] pos) tA:=by
 intro wh pins s σ H Q I h
 refine isTrue_or (ir (ha pins s σ H Q I h) λc s1 e=>?_)
 cases c with
 | false=>exact isTrue_or_nil e
 | true=>exact e
theorem xC(ha:PT X a tA)(hb:PW X (.BoolOp .And (b::rest) pos) zT):PW X (.BoolOp .And (a::b::rest) pos) (Ms tA zT):=by
 intro wh pins s σ H Q I h
 refine isTrue_and (ir (ha pins s σ H _ I h) λc s1 zq=>?_)
 obtain⟨H1,I1,q1⟩:=zq
 cases c with
 | true=>exact hb wh pins s1 σ H1 Q I1 q1
 | false=>exact⟨H1,I1,q1⟩
theorem mD(ha:PT X a tA)(hb:PW X (.BoolOp .Or (b::rest) pos) zT):PW X (.BoolOp .Or (a::b::rest) pos) (Mz tA zT):=by
 intro wh pins s σ H Q I h
 refine isTrue_or (ir (ha pins s σ H _ I h) λc s1 zq=>?_)
 obtain⟨H1,I1,q1⟩:=zq
 cases c with
 | true=>exact⟨H1,I1,q1⟩
 | false=>exact hb wh pins s1 σ H1 Q I1 q1
theorem lD(ha:PT X a tA):PT X (.UnaryOp .Not a pos) (abI tA):=by
 intro pins s σ H Q I h
 exact isTrue_not (ha pins s σ H (λc H1=>Q (!c) H1) I h)
noncomputable def abp(ta tb:TE):TE:=λσ H Q=>ta σ H λx H1=>∃c,x= .bl c/\if c=true then tb σ H1 Q else Q (.bl false) H1
noncomputable def abK(ta tb:TE):TE:=λσ H Q=>ta σ H λx H1=>∃c,x= .bl c/\if c=true then Q (.bl true) H1 else tb σ H1 Q
noncomputable def abJ(ta:TE):TE:=λσ H Q=>ta σ H λx H1=>∃c,x= .bl c/\Q (.bl (!c)) H1
theorem pO{op}{t:TE}(h:PE X a t):PE X (.BoolOp op [a] pos) t:=λpins s σ H Q I hw=>BoolOp_one (h pins s σ H Q I hw)
theorem tq(ha:PE X a ta)(hb:PE X (.BoolOp .And (b::rest) pos) tb):PE X (.BoolOp .And (a::b::rest) pos) (abp ta tb):=by
 intro pins s σ H Q I h
 refine BoolOp_and (ir (ha pins s σ H _ I h) λv s1 zq=>?_)
 obtain⟨x,H1,I1,r1,q1⟩:=zq
 obtain⟨c,rfl,q1⟩:=q1
 cases r1
 refine cK ?_
 cases c with
 | true=>exact hb pins s1 σ H1 Q I1 q1
 | false=>exact⟨.bl false,H1,I1,rfl,q1⟩
theorem xx(ha:PE X a ta)(hb:PE X (.BoolOp .Or (b::rest) pos) tb):PE X (.BoolOp .Or (a::b::rest) pos) (abK ta tb):=by
 intro pins s σ H Q I h
 refine BoolOp_or (ir (ha pins s σ H _ I h) λv s1 zq=>?_)
 obtain⟨x,H1,I1,r1,q1⟩:=zq
 obtain⟨c,rfl,q1⟩:=q1
 cases r1
 refine cK ?_
 cases c with
 | false=>exact hb pins s1 σ H1 Q I1 q1
 | true=>exact⟨.bl true,H1,I1,rfl,q1⟩
theorem Yi(ha:PE X a ta):PE X (.UnaryOp .Not a pos) (abJ ta):=by
 intro pins s σ H Q I h
 refine UnaryOp_ (ir (ha pins s σ H _ I h) λv s1 zq=>?_)
 obtain⟨x,H1,I1,r1,q1⟩:=zq
 obtain⟨c,rfl,q1⟩:=q1
 cases r1
 exact not_of (cK ⟨.bl (!c),H1,I1,rfl,q1⟩)
noncomputable def tIf(t:TT)(ta tb:TE):TE:=λσ H Q=>t σ H λc H1=>if c=true then ta σ H1 Q else tb σ H1 Q
theorem mB{c:Expr}(hc:PT X c tA)(ha:PE X a ta)(hb:PE X b tb):PE X (.IfExp c a b pos) (tIf tA ta tb):=by
 intro pins s σ H Q I h
 refine wpAny_IfExp (ir (hc pins s σ H _ I h) λd s1 zq=>?_)
 obtain⟨H1,I1,q1⟩:=zq
 cases d with
 | true=>exact ha pins s1 σ H1 Q I1 q1
 | false=>exact hb pins s1 σ H1 Q I1 q1
end
noncomputable def f_(K:Fg)(H:Hp)(a:Addr)(xs:List V):Prop:=
 Rd H a (.lst xs)\/
  ∃(o:Obj) (g_:Array Value) (n:Nat),K.lookup a=some o/\o.cls= .type "list"/\o.dict=none/\o.data= .seq g_ n/\g_.size<=sizeLine/\iG xs g_.toList
noncomputable def iO(K:Fg)(H:Hp)(a:Addr)(xs:List V):Prop:=
 Rd H a (.tup xs)\/
  ∃(o:Obj) (g_:Array Value) (n:Nat),K.lookup a=some o/\o.cls= .type "tuple"/\o.data= .seq g_ n/\g_.size<=sizeLine/\iG xs g_.toList
noncomputable def Np:Value->Option V
 | .none=>some .ia
 | .bool b=>some (.bl b)
 | .int i _=>some (.int i)
 | .str x _=>some (.str x)
 | .bytes b _=>some (.lj b)
 | .float b _=>some (.yw b)
 | .ref a=>some (.ref a)
 | .type n=>some (.ty n)
 | _=>none
theorem RelV.abs{x:V}{u:Value}(r:RelV x u):Np u=some x:=by
 cases x with
 | ia=>cases r;rfl
 | bl _=>cases r;rfl
 | int _=>obtain⟨t,rfl⟩:=r;rfl
 | str _=>obtain⟨t,rfl⟩:=r;rfl
 | lj _=>obtain⟨t,rfl⟩:=r;rfl
 | yw _=>obtain⟨t,rfl⟩:=r;rfl
 | ref _=>cases r;rfl
 | ty _=>cases r;rfl
theorem RelV.inj{x y:V}{u:Value}(r:RelV x u)(q:RelV y u):x=y:=ae (r.abs.symm.trans q.abs)
theorem iG.inj:∀{xs ys:List V} {us:List Value},iG xs us->iG ys us->xs=ys
 | _,_,_,.nil,.nil=>rfl
 | _,_,_,.cons r t,.cons r' t'=>by rw[r.inj r',iG.inj t t']
section
variable{X:Cx}{pins:List (Addr×Obj)}{σ:St}{H:Hp}{s:Shared}{a:Addr}{xs ys:List V}
theorem f_.of{K:Fg}(h:H a=some (.lst xs)):f_ K H a xs:=.inl (.inl h)
theorem iO.of{K:Fg}(h:H a=some (.tup xs)):iO K H a xs:=.inl (.inl h)
theorem Inv.list(I:Inv X pins σ H s)(h:f_ X.K H a xs):∃g_:List Value,iG xs g_/\PlainL s.heap a g_.toArray/\xs.length<=sizeLine:=by
 rcases h with h | ⟨o,g_,n,hk,hc,hd,hs,hz,r⟩
 ·obtain⟨z,g_,n,r,e⟩:=h.ok I.h_
  exact⟨g_,r,⟨_,n,e,rfl,rfl,rfl⟩,z⟩
 ·refine⟨g_.toList,r,⟨o,n,I.n8 a o hk,hc,hd,by simpa using hs⟩,?_⟩
  have e:=r.length
  simp only[dG]at e
  omega
theorem Inv.tuple(I:Inv X pins σ H s)(h:iO X.K H a xs):∃g_:List Value,iG xs g_/\IsTup s.heap a g_.toArray/\xs.length<=sizeLine:=by
 rcases h with h | ⟨o,g_,n,hk,hc,hs,hz,r⟩
 ·obtain⟨z,g_,r,p⟩:=h.ok I.h_
  exact⟨g_,r,p,z⟩
 ·refine⟨g_.toList,r,⟨o,I.n8 a o hk,hc,n,by simpa using hs⟩,?_⟩
  have e:=r.length
  simp only[dG]at e
  omega
theorem Inv.w6(I:Inv X pins σ H s)(h:f_ X.K H a xs)(h':f_ X.K H a ys):xs=ys:=by
 obtain⟨g_,r,⟨o,n,e,_,_,d⟩,_⟩:=I.list h
 obtain⟨its',r',⟨o',n',e',_,_,d'⟩,_⟩:=I.list h'
 rw[e]at e';cases e'
 rw[d]at d'
 injection d' with d1 _
 have:g_=its':=by simpa using cB Array.toList d1
 subst this
 exact r.inj r'
theorem Inv.MI(I:Inv X pins σ H s)(h:iO X.K H a xs)(h':iO X.K H a ys):xs=ys:=by
 obtain⟨g_,r,⟨o,e,_,n,d⟩,_⟩:=I.tuple h
 obtain⟨its',r',⟨o',e',_,n',d'⟩,_⟩:=I.tuple h'
 rw[e]at e';cases e'
 rw[d]at d'
 injection d' with d1 _
 have:g_=its':=by simpa using cB Array.toList d1
 subst this
 exact r.inj r'
end
noncomputable abbrev Cx.pX(X:Cx)(E:Value->Shared->Prop):Cx:={X with xe:=E}
noncomputable abbrev Cx.uQ(X:Cx):Cx:=X.pX λ_ _=>False
theorem Cx.Ok.pX{X:Cx}(ok:X.Ok)(E:Value->Shared->Prop):(X.pX E).Ok:=
 ⟨ok.mod,ok.kind,ok.glob,ok.blt,ok.above,ok.inj,ok.has,ok.vS,ok.hd,ok.frames,ok.zS,ok.yu,ok.bs,ok.qc,ok.xj,ok.v5,ok.nV,ok.sE⟩
theorem Cx.Ok.rW{X:Cx}{E:Value->Shared->Prop}(ok:(X.pX E).Ok):X.Ok:=
 ⟨ok.mod,ok.kind,ok.glob,ok.blt,ok.above,ok.inj,ok.has,ok.vS,ok.hd,ok.frames,ok.zS,ok.yu,ok.bs,ok.qc,ok.xj,ok.v5,ok.nV,ok.sE⟩
section
variable{X:Cx}{pins:List (Addr×Obj)}{σ:St}{H:Hp}{s:Shared}{E:Value->Shared->Prop}
theorem Inv.pX(I:Inv X pins σ H s)(E:Value->Shared->Prop):Inv (X.pX E) pins σ H s:=⟨I.ok.pX E,I.os,I.bare,I.base,I.loc,I.cell,I.free,I.nh,I.pin,I.h_,I.len⟩
theorem Inv.rW(I:Inv (X.pX E) pins σ H s):Inv X pins σ H s:=⟨I.ok.rW,I.os,I.bare,I.base,I.loc,I.cell,I.free,I.nh,I.pin,I.h_,I.len⟩
theorem SP.rW{D:Ends}{f:Flow}{s':Shared}(h:SP (X.pX E) pins D f s'):SP X pins D f s':=by
 cases f with
 | next=>obtain⟨ik,U,I,q⟩:=h;exact⟨ik,U,I.rW,q⟩
 | brk=>obtain⟨ik,U,I,q⟩:=h;exact⟨ik,U,I.rW,q⟩
 | cont=>obtain⟨ik,U,I,q⟩:=h;exact⟨ik,U,I.rW,q⟩
 | ret u=>obtain⟨v,ik,U,I,r,q⟩:=h;exact⟨v,ik,U,I.rW,r,q⟩
theorem md.uQ{st:List Stmt}{t:TS}(h:md X.uQ st t):md X st t:=λpins s σ H D I hw=>
 dB (h pins s σ H D (I.pX _) hw) (λ_ _ q=>q.rW) λ_ _ z=>False.elim z
end
section
variable{X:Cx}{st:Stmt}{rest:List Stmt}{t u:TS}{e:Expr}{te:TE}{pos:Pos}
noncomputable def My:TS:=λD σ H=>D.nx σ H
noncomputable def pW(t u:TS):TS:=λD σ H=>t {D with nx:=u D} σ H
theorem iy:md X [] My:=λ_ _ σ H _ I h=>gd ⟨σ,H,I,h⟩
theorem gZ(h1:PS X st t)(h2:md X rest u):md X (st::rest) (pW t u):=by
 intro pins s σ H D I h
 refine wpAny_execs_cons (ir (h1 pins s σ H {D with nx:=u D} I h) λf s1 q=>?_)
 cases f with
 | next=>
  obtain⟨ik,U,I',q⟩:=q
  exact h2 pins s1 ik U D I' q
 | ret v=>exact q
 | brk=>exact q
 | cont=>exact q
theorem g9(h1:PS X st t):md X [st] t:=by
 intro pins s σ H D I h
 refine wpAny_execs_cons (ir (h1 pins s σ H D I h) λf s1 q=>?_)
 cases f with
 | next=>exact gd q
 | ret v=>exact q
 | brk=>exact q
 | cont=>exact q
theorem Inv.quiet{pins:List (Addr×Obj)}{σ:St}{H:Hp}{s:Shared}(I:Inv X pins σ H s):interactive X.env=false:=by simp[interactive,I.ok.kind]
noncomputable def abx(te:TE):TS:=λD σ H=>te σ H λ_ H1=>D.nx σ H1
theorem lR(he:PE X e te)(hs:swapsWith e none pos.line X.env=pure false:=by rfl):PS X (.Expr e pos) (abx te):=by
 intro pins s σ H D I h
 exact wpAny_Expr_any (ir (he pins s σ H _ I h) λv s1 ⟨x,H1,I1,r1,q1⟩=>⟨σ,H1,I1,q1⟩) I.quiet hs
noncomputable def MA(te:TE):TS:=λD σ H=>te σ H D.rt
theorem hJ(he:PE X e te):PS X (.Return (some e) pos) (MA te):=by
 intro pins s σ H D I h
 exact wpAny_Return_some (ir (he pins s σ H _ I h) λv s1 ⟨x,H1,I1,r1,q1⟩=>⟨x,σ,H1,I1,r1,q1⟩)
noncomputable def pU(c:TT)(t u:TS):TS:=λD σ H=>c σ H λb H1=>if b=true then t D σ H1 else u D σ H1
theorem iw{c:Expr}{a b:List Stmt}{tc:TT}(hc:PT X c tc)(ha:md X a t)(hb:md X b u):PS X (.If c a b pos) (pU tc t u):=by
 intro pins s σ H D I h
 refine wpAny_If (ir (hc pins s σ H _ I h) λd s1 zq=>?_)
 obtain⟨H1,I1,q1⟩:=zq
 cases d with
 | true=>exact ha pins s1 σ H1 D I1 q1
 | false=>exact hb pins s1 σ H1 D I1 q1
noncomputable def abE:TS:=λ_ _ _=>False
theorem Yy:PS X st abE:=λ_ _ _ _ _ _ h=>h.elim
end
noncomputable abbrev TG:=V->St->Hp->(St->Hp->Prop)->Prop
noncomputable abbrev sf:=List V->St->Hp->(St->Hp->Prop)->Prop
noncomputable def PG(X:Cx)(target:Expr)(t:TG):Prop:=
 ∀
  (pins:List (Addr×Obj)) (s:Shared) (σ:St) (H:Hp) (v:V) (u:Value) (Q:St->Hp->Prop),Inv X pins σ H s->RelV v u->t v σ H Q->
  wpAny (model X.prog X.w) X.A (assign target X.env u) (λ_ s'=>∃ik U,Inv X pins ik U s'/\Q ik U) X.xe s
noncomputable def xX(X:Cx)(ts:List Expr)(t:sf):Prop:=
 ∀
  (pins:List (Addr×Obj)) (s:Shared) (σ:St) (H:Hp) (vs:List V) (us:List Value) (Q:St->Hp->Prop),Inv X pins σ H s->iG vs us->t vs σ H Q->
  wpAny (model X.prog X.w) X.A (assignInOrder ((assignEach ts X.env).map (·.2)) us) (λ_ s'=>∃ik U,Inv X pins ik U s'/\Q ik U) X.xe s
section
variable{X:Cx}{pos:Pos}
noncomputable def jL(i:Nat):TG:=λv σ H Q=>Q (σ.set i (some v)) H
theorem iT{i:Nat}{x:Str}(hN:X.N.Nodup)(hi:X.N[i]? =some x)(hx:Loc X.env.scope x)(hf:X.fn x=true\/X.env.scope.names.lookup x=some .local:=by first | exact .inl rfl | exact .inr rfl | assumption):PG X (.Name x pos) (jL i):=by
 intro pins s σ H v u Q I r h
 exact wpAny_assign_Name (Mm I hN hi hx r (λs' I'=>⟨_,H,I',h⟩) hf)
noncomputable def qZ:sf:=λvs σ H Q=>vs=[]/\Q σ H
noncomputable def mf(t:TG)(u:sf):sf:=λvs σ H Q=>∃v r,vs=v::r/\t v σ H λik U=>u r ik U Q
theorem nG:xX X [] qZ:=by
 intro pins s σ H vs us Q I r h
 obtain⟨e,h⟩:=h
 subst e
 cases r
 exact assignInOrder_nil ⟨σ,H,I,h⟩
theorem jX{e:Expr}{es:List Expr}{t:TG}{u:sf}(h1:PG X e t)(h2:xX X es u)
 (hs:(assignEach (e::es) X.env).map (·.2)=assign e X.env::(assignEach es X.env).map (·.2):=by rfl):xX X (e::es) (mf t u):=by
 intro pins s σ H vs us Q I r h
 obtain⟨v,vr,e1,h⟩:=h
 subst e1
 cases r with
 | cons r rr=>
  rw[hs]
  refine assignInOrder_cons (ir (h1 pins s σ H _ _ _ I r h) λ_ s1 zq=>?_)
  obtain⟨vk,H1,I1,q1⟩:=zq
  exact h2 pins s1 vk H1 _ _ Q I1 rr q1
noncomputable def q5(K:Fg)(n:Nat)(t:sf):TG:=λv σ H Q=>∃a xs,v= .ref a/\iO K H a xs/\xs.length=n/\t xs σ H Q
theorem nF{es:List Expr}{k:Nat}{t:sf}{n:Nat}(hc:X.calm=true)(h:xX X es t)
 (hn:(assignEach es X.env).length=n:=by rfl) (T9:(assignEach es X.env).findIdx? (·.1)=none:=by rfl):PG X (.Tuple es k pos) (q5 X.K n t):=by
 intro pins s σ H v u Q I r hw
 obtain⟨a,xs,e1,hq,hl,hw⟩:=hw
 subst e1
 cases r
 obtain⟨g_,rv,ht,hz⟩:=I.tuple hq
 refine assign_Tuple_tuple (I.ok.hd hc) ht (by simp[hn,<-hl,rv.length]) T9 λh' hx=>?_
 have I1:Inv X pins σ H {s with heap:=h'}:=I.kept (t':=s.toks) λb o e=>hx b o (a9 (aF e)) e
 exact h pins _ σ H xs _ Q I1 (by simpa using rv) hw
noncomputable def Mt(te:TE)(g:TG):TS:=λD σ H=>te σ H λx H1=>g x σ H1 D.nx
theorem ic{i:Nat}{x:Str}{e:Expr}{te:TE}{pos':Pos}(hN:X.N.Nodup)(hi:X.N[i]? =some x)(hx:Loc X.env.scope x)(he:PE X e te)(hs:swapsWith e (some (.Name x pos')) pos.line X.env=pure false:=by rfl)(hf:X.fn x=true\/X.env.scope.names.lookup x=some .local:=by first | exact .inl rfl | exact .inr rfl | assumption):
 PS X (.Assign [.Name x pos'] e pos) (Mt te (jL i)):=by
 intro pins s σ H D I h
 refine wpAny_Assign_Name (ir (he pins s σ H _ I h) λv s1 ⟨y,H1,I1,r1,q1⟩=>?_) hs
 exact Mm I1 hN hi hx r1 (λs2 I2=>⟨_,H1,I2,q1⟩) hf
end
section
variable{X:Cx}{pos:Pos}
noncomputable def abM(c:TT)(tb:TS):TS:=λD σ H=>∃W:Nat->St->Hp->Prop,(∃m,W m σ H)/\∀m σ H,W m σ H->
 c σ H λb H1=>if b=true then ∃N:St->Hp->Prop,(∀ik U,N ik U->∃m',m'<m/\W m' ik U)/\tb {D with nx:=N,ct:=N,bk:=D.nx} σ H1 else D.nx σ H1
theorem uY{c:Expr}{body:List Stmt}{tc:TT}{tb:TS}(hp:PassesOwn (model X.prog X.w) X.A X.env X.xe)(hc:PT X c tc)(hb:md X body tb):PS X (.While c body [] pos) (abM tc tb):=by
 intro pins s σ H D I h
 obtain⟨W,⟨m0,w0⟩,turn⟩:=h
 refine wpAny_While (codeAny_whileLoop (λn s'=>∃ik U,Inv X pins ik U s'/\W n ik U) ?_ m0 ⟨σ,H,I,w0⟩)
 rintro n s1 ⟨vk,H1,I1,w1⟩
 refine dU hp (ir (hc pins s1 vk H1 _ I1 (turn n vk H1 w1)) λb s2 zq=>?_)
 obtain⟨H2,I2,q2⟩:=zq
 cases b with
 | true=>
  obtain⟨N,hN,q2⟩:=q2
  rw[aE rfl]
  refine dU hp (ir (hb pins s2 vk H2 _ I2 q2) λf s3 q3=>?_)
  cases f with
  | next=>
   obtain⟨oX,H3,I3,n3⟩:=q3
   obtain⟨m',hm,w3⟩:=hN oX H3 n3
   exact⟨m',hm,oX,H3,I3,w3⟩
  | cont=>
   obtain⟨oX,H3,I3,n3⟩:=q3
   obtain⟨m',hm,w3⟩:=hN oX H3 n3
   exact⟨m',hm,oX,H3,I3,w3⟩
  | brk=>exact q3
  | ret v=>exact q3
 | false=>
  rw[aq ao]
  exact gd ⟨vk,H2,I2,q2⟩
end
structure It where
 go:Nat->Hp->Prop
 l9:Nat->Hp->V->Hp->Prop
 stop:Nat->Hp->Prop
noncomputable def m6(X:Cx)(pins:List (Addr×Obj))(H:Hp)(b:Addr):Prop:=
 H b=none/\b≠X.env.locals/\b∉X.fs/\(b∈X.ex\/X.kU.heap.objs.size<=b)/\(∀x c,X.env.cells.lookup x=some c->c≠b)/\∀p∈X.pn++pins,p.1≠b
theorem Inv.qj{X:Cx}{pins:List (Addr×Obj)}{σ:St}{H U:Hp}{s:Shared}{b:Addr}(I:Inv X pins σ H s)(hb:s.heap.objs.size<=b)(hn:U b=none):m6 X pins U b:=by
 refine⟨hn,cp (aS I.lt hb),I.Wp hb,.inr (aN I.sz hb),λx c e z=>?_,λp hp z=>?_⟩
 ·obtain⟨v,q⟩:=I.cell x c e
  exact absurd (aS q.lt (by rw[z];exact hb)) (cO _)
 ·exact absurd (aS (aF (I.pin p hp).1) (by rw[z];exact hb)) (cO _)
structure Turn(P:Program)(w:World)(K:Fg)(tg:Expr)(J:It)(fp:List Addr)(it:Addr)(tn:Nat->Heap->Prop):Prop where
 mem:it∈fp
 obj:∀i h,tn i h->∀b∈fp,∃o,h.get? b=some o/\∀v,o.data≠.cell v
 keep:∀i h h',tn i h->(∀b∈fp,∀o,h.get? b=some o->h'.get? b=some o)->tn i h'
 item:∀(X:Cx),X.prog=P->X.w=w->X.K=K->X.calm=true->∀(i:Nat) (pins:List (Addr×Obj)) (s:Shared) (σ:St) (H:Hp) (E:Value->Shared->Prop),Inv X pins σ H s->(∀b∈fp,m6 X pins H b)->tn i s.heap->J.go i H->
  wpAny (model P w) X.A (pyNext (.ref it)) (λr s1=>∃u,r=some u/\
   wpAny (model P w) X.A (letOwnedTupleGo tg (.ref it) u) (λ_ s2=>∃x U,Inv X pins σ U s2/\RelV x u/\J.l9 i H x U/\tn (i+1) s2.heap/\∀b∈fp,U b=none) E s1) E s
 done:∀(X:Cx),X.prog=P->X.w=w->X.K=K->X.calm=true->∀(i:Nat) (pins:List (Addr×Obj)) (s:Shared) (σ:St) (H:Hp) (E:Value->Shared->Prop),Inv X pins σ H s->(∀b∈fp,m6 X pins H b)->tn i s.heap->J.stop i H->
  wpAny (model P w) X.A (pyNext (.ref it)) (λr s1=>r=none/\Inv X pins σ H s1) E s
 self:∀(A:Around) (i:Nat) (s:Shared) (Q:Value->Shared->Prop) (E:Value->Shared->Prop),tn i s.heap->Q (.ref it) s->wpAny (model P w) A (pyIter (.ref it)) Q E s
noncomputable abbrev TI:=St->Hp->(It->Hp->Prop)->Prop
noncomputable def vD(X:Cx)(pins:List (Addr×Obj))(σ:St)(tg:Expr)(R:It->Hp->Prop)(B0:Value)(s2:Shared):Prop:=
 ∃(it:Addr) (fp:List Addr) (tn:Nat->Heap->Prop) (J:It) (U:Hp),B0= .ref it/\Inv X pins σ U s2/\Turn X.prog X.w X.K tg J fp it tn/\tn 0 s2.heap/\(∀b∈fp,m6 X pins U b)/\R J U
noncomputable def PI(X:Cx)(tg iter:Expr)(wi:TI):Prop:=
 ∀
  (pins:List (Addr×Obj)) (s:Shared) (σ:St) (H:Hp) (R:It->Hp->Prop),Inv X pins σ H s->wi σ H R->
  wpAny (model X.prog X.w) X.A (eval iter X.env) (λv s1=>wpAny (model X.prog X.w) X.A (pyIter v) (vD X pins σ tg R) X.xe s1) X.xe s
theorem sF{M:Model}{A:Around}{E:Value->Shared->Prop}{s:Shared}{tg:Expr}{it:Addr}{u:Value}{o:Obj}{n:String}{vs:Array Value}{Q:Unit->Shared->Prop}(ho:s.heap.get? it=some o)(hc:o.cls= .type n)(hd:o.data= .fields vs)
 (hn:["enumerate","zip","dict_itemiterator","dict_reverseitemiterator","odict_iterator","itertools.zip_longest","itertools.pairwise"].contains n=false) (hQ:Q () s):wpAny M A (letOwnedTupleGo tg (.ref it) u) Q E s:=by
 unfold letOwnedTupleGo
 cases tg<;>first
  | exact af hQ
  | (cases u<;>first
   | exact af hQ
   | (
    refine aa (wpAny_load ho ?_)
    rw[hc,hd]
    show wpAny M A (if (["enumerate","zip","dict_itemiterator","dict_reverseitemiterator","odict_iterator","itertools.zip_longest","itertools.pairwise"].contains n&&vs[0]? == some (rawInt _))=true then _ else _) Q E s
    rw[aq (by intro h;rw[hn,fC]at h;cases h)]
    exact af hQ))
noncomputable def qN(K:Fg)(a:Addr):It:=
 ⟨λi H=>∃xs x,f_ K H a xs/\xs[i]? =some x,λi H x U=>U=H/\∀xs,f_ K H a xs->xs[i]? =some x,λi H=>∃xs,f_ K H a xs/\xs.length<=i⟩
noncomputable def vy(K:Fg)(a:Addr):It:=
 ⟨λi H=>∃xs x,iO K H a xs/\xs[i]? =some x,λi H x U=>U=H/\∀xs,iO K H a xs->xs[i]? =some x,λi H=>∃xs,iO K H a xs/\xs.length<=i⟩
noncomputable def o6(lo:Int)(n:Nat):It:=⟨λi _=>i<n,λi H x U=>U=H/\x= .int (lo+i),λi _=>n<=i⟩
theorem ab0{P:Program}{w:World}{K:Fg}{tg:Expr}(a it:Addr):Turn P w K tg (qN K a) [it] it (λi h=>h.IsListIter it a i) where
 mem:=by simp
 obj:=λi h st b hb=>by
  have e:b=it:=by simpa using hb
  subst e
  obtain⟨o,e,c,d⟩:=st
  exact⟨o,e,λv z=>by rw[d]at z;cases z⟩
 keep:=λi h h' st k=>st.at λo e=>k it (by simp) o e
 item:=by
  intro X hP hw hK hc i pins s σ H E I hf st hg
  subst hP hw hK
  obtain⟨xs,x,hq,hx⟩:=hg
  obtain⟨g_,rv,p,hz⟩:=I.list hq
  obtain⟨u,hu,ru⟩:=rv.get hx
  obtain⟨f0,f1,f2,f3,f4,f5⟩:=hf it (by simp)
  refine wpAny_pyNext_list_item st p.isList (x:=u) (by simpa using hu) λh' kG sb=>?_
  have I1:Inv X pins σ H {s with heap:=h'}:=I.turned (t':=s.toks) (λb o hb e=>(sb.2 b hb).trans e) f0 f1 f3 f4 f5
  obtain⟨o,e,c,d⟩:=id kG
  exact⟨u,rfl,sF (s:={s with heap:=h'}) e c d (by decide) ⟨x,H,I1,ru,⟨rfl,λys hy=>by rw[I.w6 hy hq];exact hx⟩,kG,λb hb=>(hf b hb).1⟩⟩
 done:=by
  intro X hP hw hK hc i pins s σ H E I hf st hg
  subst hP hw hK
  obtain⟨xs,hq,hx⟩:=hg
  obtain⟨g_,rv,p,hz⟩:=I.list hq
  obtain⟨f0,f1,f2,f3,f4,f5⟩:=hf it (by simp)
  have hl:=rv.length
  exact wpAny_pyNext_list_end (I.ok.hd hc) st p.isList (by simp;omega) λh' eb=>⟨rfl,I.turned (t':=s.toks) (λb o hb e=>eb b o hb e) f0 f1 f3 f4 f5⟩
 self:=λ_ _ _ _ _ st h=>wpAny_pyIter_listiter st h
theorem ab2{P:Program}{w:World}{K:Fg}{tg:Expr}(a it:Addr):Turn P w K tg (vy K a) [it] it (λi h=>h.IsTupleIter it a i) where
 mem:=by simp
 obj:=λi h st b hb=>by
  have e:b=it:=by simpa using hb
  subst e
  obtain⟨o,e,c,d⟩:=st
  exact⟨o,e,λv z=>by rw[d]at z;cases z⟩
 keep:=λi h h' st k=>st.at λo e=>k it (by simp) o e
 item:=by
  intro X hP hw hK hc i pins s σ H E I hf st hg
  subst hP hw hK
  obtain⟨xs,x,hq,hx⟩:=hg
  obtain⟨g_,rv,p,hz⟩:=I.tuple hq
  obtain⟨u,hu,ru⟩:=rv.get hx
  obtain⟨f0,f1,f2,f3,f4,f5⟩:=hf it (by simp)
  refine wpAny_pyNext_tuple_item st (show s.heap.IsTuple a g_.toArray from p) (x:=u) (by simpa using hu) λh' kG sb=>?_
  have I1:Inv X pins σ H {s with heap:=h'}:=I.turned (t':=s.toks) (λb o hb e=>(sb.2 b hb).trans e) f0 f1 f3 f4 f5
  obtain⟨o,e,c,d⟩:=id kG
  exact⟨u,rfl,sF (s:={s with heap:=h'}) e c d (by decide) ⟨x,H,I1,ru,⟨rfl,λys hy=>by rw[I.MI hy hq];exact hx⟩,kG,λb hb=>(hf b hb).1⟩⟩
 done:=by
  intro X hP hw hK hc i pins s σ H E I hf st hg
  subst hP hw hK
  obtain⟨xs,hq,hx⟩:=hg
  obtain⟨g_,rv,p,hz⟩:=I.tuple hq
  obtain⟨f0,f1,f2,f3,f4,f5⟩:=hf it (by simp)
  have hl:=rv.length
  exact wpAny_pyNext_tuple_end (I.ok.hd hc) st (show s.heap.IsTuple a g_.toArray from p) (by simp;omega) λh' eb=>⟨rfl,I.turned (t':=s.toks) (λb o hb e=>eb b o hb e) f0 f1 f3 f4 f5⟩
 self:=λ_ _ _ _ _ st h=>wpAny_pyIter_tupleiter st h
theorem ab1{P:Program}{w:World}{K:Fg}{tg:Expr}(it:Addr)(lo:Int)(n:Nat):Turn P w K tg (o6 lo n) [it] it (λi h=>IsRangeIter h it (lo+(i:Nat)*1) ((n:Int)-(i:Nat)) 1) where
 mem:=by simp
 obj:=λi h st b hb=>by
  have e:b=it:=by simpa using hb
  subst e
  exact⟨_,st,λv z=>by
   have z':Data.fields _=Data.cell v:=z
   cases z'⟩
 keep:=λi h h' st k=>k it (by simp) _ st
 item:=by
  intro X hP hw hK hc i pins s σ H E I hf st hg
  subst hP hw hK
  obtain⟨f0,f1,f2,f3,f4,f5⟩:=hf it (by simp)
  have W:=Walks.range (prog:=X.prog) (w:=X.w) (I.ok.hd hc) it lo 1 n
  refine W.item i s _ _ hg st λv h' tk hv kG kk=>?_
  obtain⟨t,rfl⟩:=hv
  have I1:Inv X pins σ H {s with heap:=h',toks:=tk}:=I.turned (λb o hb e=>kk b o (by simpa using hb) e) f0 f1 f3 f4 f5
  refine⟨_,rfl,sF (s:={s with heap:=h',toks:=tk}) (n:="range_iterator") kG rfl rfl (by decide) ⟨.int (lo+i),H,I1,⟨t,?_⟩,⟨rfl,rfl⟩,kG,λb hb=>(hf b hb).1⟩⟩
  rw[Int.mul_one]
 done:=by
  intro X hP hw hK hc i pins s σ H E I hf st hg
  subst hP hw hK
  obtain⟨f0,f1,f2,f3,f4,f5⟩:=hf it (by simp)
  exact wpAny_pyNext_range_end (I.ok.hd hc) st (by have:n<=i:=hg;omega) λh' eb=>⟨rfl,I.turned (t':=s.toks) (λb o hb e=>eb b o hb e) f0 f1 f3 f4 f5⟩
 self:=λ_ _ _ _ _ st h=>wpAny_pyIter_rangeiter st h
section
variable{X:Cx}{tg:Expr}
noncomputable def BU(K:Fg)(tl:TE):TI:=λσ H R=>tl σ H λx H1=>∃a,x= .ref a/\(∃xs,f_ K H1 a xs)/\R (qN K a) H1
noncomputable def FY(K:Fg)(tl:TE):TI:=λσ H R=>tl σ H λx H1=>∃a,x= .ref a/\(∃xs,iO K H1 a xs)/\R (vy K a) H1
theorem kj{l:Expr}{tl:TE}(hl:PE X l tl):PI X tg l (BU X.K tl):=by
 intro pins s σ H R I h
 refine ir (hl pins s σ H _ I h) λv s1 zq=>?_
 obtain⟨x,H1,I1,r1,q1⟩:=zq
 obtain⟨a,e,⟨xs,hq⟩,q⟩:=q1
 subst e
 cases r1
 obtain⟨g_,rv,p,hz⟩:=I1.list hq
 refine wpAny_pyIter_list p.isList ?_
 refine⟨s1.heap.objs.size,[s1.heap.objs.size],_,_,H1,rfl,I1.kept (t':=s1.toks) λb o e=>ag _ e,ab0 a _,⟨_,aC _ rfl,rfl,rfl⟩,λb hb=>?_,q⟩
 have e:b=s1.heap.objs.size:=by simpa using hb
 subst e
 exact I1.qj (ax _) (I1.h_.fresh (ax _))
theorem Yn{l:Expr}{tl:TE}(hl:PE X l tl):PI X tg l (FY X.K tl):=by
 intro pins s σ H R I h
 refine ir (hl pins s σ H _ I h) λv s1 zq=>?_
 obtain⟨x,H1,I1,r1,q1⟩:=zq
 obtain⟨a,e,⟨xs,hq⟩,q⟩:=q1
 subst e
 cases r1
 obtain⟨g_,rv,p,hz⟩:=I1.tuple hq
 refine wpAny_pyIter_tuple (show s1.heap.IsTuple a g_.toArray from p) ?_
 refine⟨s1.heap.objs.size,[s1.heap.objs.size],_,_,H1,rfl,I1.kept (t':=s1.toks) λb o e=>ag _ e,ab2 a _,⟨_,aC _ rfl,rfl,rfl⟩,λb hb=>?_,q⟩
 have e:b=s1.heap.objs.size:=by simpa using hb
 subst e
 exact I1.qj (ax _) (I1.h_.fresh (ax _))
theorem Ir{pins:List (Addr×Obj)}{σ:St}{H:Hp}{s:Shared}{R:It->Hp->Prop}{E:Value->Shared->Prop}{lo hi:Int}{t u v:Tok}{tk:Nat}(I:Inv X pins σ H s)(h1:-(2^62)<=lo)(h2:lo<2^62)(h3:-(2^62)<=hi)(h4:hi<2^62)
 (q:R (o6 lo (hi-lo).toNat) H):wpAny (model X.prog X.w) X.A (pyIter (.ref s.heap.objs.size)) (vD X pins σ tg R) E {s with heap:=s.heap.push {cls:=.type "range",data:=.fields #[.int lo t,.int hi u,.int 1 v]},toks:=tk}:=by
 refine wpAny_pyIter_range (IsRange.new ..) (small_one h1 h2 h3 h4) ?_
 have I1:Inv X pins σ H {s with heap:=s.heap.push {cls:=.type "range",data:=.fields #[.int lo t,.int hi u,.int 1 v]},toks:=tk}:=I.kept λb o e=>ag _ e
 refine⟨(s.heap.push {cls:=.type "range",data:=.fields #[.int lo t,.int hi u,.int 1 v]}).objs.size,[(s.heap.push {cls:=.type "range",data:=.fields #[.int lo t,.int hi u,.int 1 v]}).objs.size],_,_,H,rfl,
  I1.kept (t':=tk) λb o e=>ag _ e,ab1 _ lo (hi-lo).toNat,?_,λb hb=>?_,q⟩
 ·have e1:lo+((0:Nat):Int)*1=lo:=by simp
  have e2:(((hi-lo).toNat:Nat):Int)-((0:Nat):Int)=Builtin.Range.rangeSize lo hi 1:=by rw[rangeSize_one];split<;>omega
  show IsRangeIter _ _ (lo+((0:Nat):Int)*1) ((((hi-lo).toNat:Nat):Int)-((0:Nat):Int)) 1
  rw[e1,e2]
  exact aC _ rfl
 ·have e:b=(s.heap.push {cls:=.type "range",data:=.fields #[.int lo t,.int hi u,.int 1 v]}).objs.size:=by simpa using hb
  subst e
  exact I1.qj (ax _) (I1.h_.fresh (ax _))
noncomputable def UD(ta:TA):TI:=λσ H R=>ta σ H λvs H1=>∃j:Int,vs=[.int j]/\-(2^62)<=j/\j<2^62/\R (o6 0 j.toNat) H1
noncomputable def UE(ta:TA):TI:=λσ H R=>ta σ H λvs H1=>∃i j:Int,vs=[.int i,.int j]/\(-(2^62)<=i/\i<2^62/\-(2^62)<=j/\j<2^62)/\R (o6 i (j-i).toNat) H1
theorem CU{a:Expr}{ta:TA}{p pos:Pos}(hg:Gl X "range")(hm:X.mg "range"=none)(ha:PA X [a] ta)(hs:starEach [a] X.env=[(false,eval a X.env)]:=by rfl):PI X tg (.Call (.Name "range" p) [a] [] pos) (UD ta):=by
 intro pins s σ H R I h
 refine Call_ (qD I hg hm boot_range (bK (ir (ha pos pins s σ H _ I h) λus s1 ⟨vs,H1,I1,r1,q1⟩=>?_) hs rfl))
 obtain⟨j,e,q1,q2,q⟩:=q1
 subst e
 cases r1 with
 | cons r rr=>
  cases rr
  obtain⟨t,rfl⟩:=r
  exact call_range_1 (Ir I1 (by omega) (by omega) q1 q2 (by simpa using q))
theorem Yl{a b:Expr}{ta:TA}{p pos:Pos}(hg:Gl X "range")(hm:X.mg "range"=none)(ha:PA X [a,b] ta)(hs:starEach [a,b] X.env=[(false,eval a X.env),(false,eval b X.env)]:=by rfl)(sO:starEach [b] X.env=[(false,eval b X.env)]:=by rfl):
 PI X tg (.Call (.Name "range" p) [a,b] [] pos) (UE ta):=by
 intro pins s σ H R I h
 refine Call_ (qD I hg hm boot_range (bK (ir (ha pos pins s σ H _ I h) λus s1 ⟨vs,H1,I1,r1,q1⟩=>?_) (by rw[hs,sO]) (by rw[sO];rfl)))
 obtain⟨i,j,e,⟨q1,q2,q3,q4⟩,q⟩:=q1
 subst e
 cases r1 with
 | cons r rr=>
  cases rr with
  | cons r' rr=>
   cases rr
   obtain⟨t,rfl⟩:=r
   obtain⟨t',rfl⟩:=r'
   exact call_range_2 (Ir I1 q1 q2 q3 q4 q)
noncomputable def aby(wi:TI)(g:TG)(tb:TS):TS:=λD σ H=>wi σ H λJ H1=>∃W:Nat->Nat->St->Hp->Prop,(∃m,W 0 m σ H1)/\∀i m σ H,W i m σ H->
 (J.stop i H/\D.nx σ H)\/(J.go i H/\∃N:St->Hp->Prop,(∀ik U,N ik U->∃m',m'<m/\W (i+1) m' ik U)/\∀x U,J.l9 i H x U->g x σ U λiA H2=>tb {D with nx:=N,ct:=N,bk:=D.nx} iA H2)
noncomputable def xy(fp:List Addr)(h:Heap):List (Addr×Obj):=fp.filterMap λb=>(h.get? b).map λo=>(b,o)
theorem Cf{fp:List Addr}{h:Heap}{b:Addr}{o:Obj}(hb:b∈fp)(e:h.get? b=some o):(b,o)∈xy fp h:=eu.mpr ⟨b,hb,by rw[e];rfl⟩
theorem WO{fp:List Addr}{h:Heap}{p:Addr×Obj}(hp:p∈xy fp h):p.1∈fp/\h.get? p.1=some p.2:=by
 obtain⟨b,hb,e⟩:=eu.mp hp
 cases q:h.get? b with
 | none=>rw[q]at e;cases e
 | some o=>
  rw[q]at e
  have e':(b,o)=p:=ae e
  subst e'
  exact⟨hb,q⟩
theorem Inv.pinned{pins:List (Addr×Obj)}{σ:St}{H:Hp}{s:Shared}{fp:List Addr}(I:Inv X pins σ H s)(hf:∀b∈fp,m6 X pins H b)(ho:∀b∈fp,∃o,s.heap.get? b=some o/\∀v,o.data≠.cell v):Inv X (pins++xy fp s.heap) σ H s:=
 I.HX λp hp=>(bg.mp hp).elim (λz=>I.pin p (bP _ z)) λz=>by
  obtain⟨hb,e⟩:=WO z
  obtain⟨f0,f1,f2,_⟩:=hf p.1 hb
  obtain⟨o,e',d⟩:=ho p.1 hb
  rw[e]at e';cases e'
  exact⟨e,f0,f1,f2,d⟩
theorem Inv.z0{pins pl:List (Addr×Obj)}{σ:St}{H:Hp}{s:Shared}(I:Inv X (pins++pl) σ H s):Inv X pins σ H s:=I.HX λp hp=>I.pin p (bP _ (di _ hp))
theorem lC{iter:Expr}{body:List Stmt}{wi:TI}{g:TG}{tb:TS}{pos:Pos}(hp:PassesOwn (model X.prog X.w) X.A X.env X.xe)(hc:X.calm=true)(hi:PI X tg iter wi)(hg:PG X tg g)(hb:md X body tb)
 (hs:∀x,foldedSetIterable iter X.env x=pure x:=by intro _;rfl):PS X (.For tg iter body [] pos) (aby wi g tb):=by
 intro pins s σ H D I h
 refine wpAny_For (ir (hi pins s σ H _ I h) λv s1 h1=>ir h1 λB0 s2 h2=>?_) hs
 obtain⟨it,fp,tn,J,H2,e,I2,T,u7,f2,W,⟨m0,w0⟩,turn⟩:=h2
 subst e
 have tF:∀{U:Hp},(∀b∈fp,U b=none)->∀b∈fp,m6 X pins U b:=λhn b hb=>⟨hn b hb,(f2 b hb).2⟩
 refine codeAny_forLoop_any (λn s'=>∃i ik U,Inv X pins ik U s'/\tn i s'.heap/\(∀b∈fp,U b=none)/\W i n ik U) ?_ m0 ⟨0,σ,H2,I2,u7,λb hb=>(f2 b hb).1,w0⟩
 rintro n s3 ⟨i,oX,H3,I3,tE,Ez,w3⟩
 rcases turn i n oX H3 w3 with⟨stop,qn⟩ | ⟨go,N,hN,step⟩
 ·refine dU hp (ir (T.done X rfl rfl rfl hc i pins s3 oX H3 X.xe I3 (tF Ez) tE stop) λr s4 zq=>?_)
  obtain⟨hr,I4⟩:=zq
  subst hr
  exact gd ⟨oX,H3,I4,qn⟩
 ·refine dU hp (ir (T.item X rfl rfl rfl hc i pins s3 oX H3 X.xe I3 (tF Ez) tE go) λr s4 zq=>?_)
  obtain⟨u,hr,h4⟩:=zq
  subst hr
  refine dU hp (ir h4 λ_ s5 zq=>?_)
  obtain⟨x,H5,I5,r5,y5,u9,Q_⟩:=zq
  have Nc:=I5.pinned (tF Q_) (T.obj _ _ u9)
  refine dU hp (ir (hg _ s5 oX H5 x u _ Nc r5 (step x H5 y5)) λ_ s6 zq=>?_)
  obtain⟨σ6,H6,I6,q6⟩:=zq
  refine dU hp (ir (hb _ s6 σ6 H6 _ I6 q6) λf s7 q7=>?_)
  have again:∀{oY:St} {H7:Hp},Inv X (pins++xy fp s5.heap) oY H7 s7->N oY H7->∃m,m<n/\∃i ik U,Inv X pins ik U s7/\tn i s7.heap/\(∀b∈fp,U b=none)/\W i m ik U:=λ{oY H7} I7 n7=>by
   obtain⟨m',hm,w7⟩:=hN oY H7 n7
   refine⟨m',hm,i+1,oY,H7,I7.z0,T.keep _ _ _ u9 λb hb o e=>(I7.pin (b,o) (bP _ (bP _ (Cf hb e)))).1,λb hb=>?_,w7⟩
   obtain⟨o,e,d⟩:=T.obj _ _ u9 b hb
   exact(I7.pin (b,o) (bP _ (bP _ (Cf hb e)))).2.1
  cases f with
  | next=>obtain⟨oY,H7,I7,n7⟩:=q7;exact again I7 n7
  | cont=>obtain⟨oY,H7,I7,n7⟩:=q7;exact again I7 n7
  | brk=>obtain⟨oY,H7,I7,q7⟩:=q7;exact⟨oY,H7,I7.z0,q7⟩
  | ret v=>obtain⟨x7,oY,H7,I7,r7,q7⟩:=q7;exact⟨x7,oY,H7,I7.z0,r7,q7⟩
end
theorem qY{K:Fg}{a:Addr}{xs:List V}{g:TG}{tb:TS}{D:Ends}{σ:St}{H:Hp}(Pv:Nat->St->Hp->Prop)(h0:Pv 0 σ H)(hl:∀i σ H,i<=xs.length->Pv i σ H->f_ K H a xs)
 (hs:∀i x σ H,xs[i]? =some x->Pv i σ H->g x σ H λiA H2=>tb {D with nx:=Pv (i+1),ct:=Pv (i+1),bk:=D.nx} iA H2) (hd:∀σ H,Pv xs.length σ H->D.nx σ H):
 ∃
  W:Nat->Nat->St->Hp->Prop,(∃m,W 0 m σ H)/\∀i m σ H,W i m σ H->
  ((qN K a).stop i H/\D.nx σ H)\/((qN K a).go i H/\∃N:St->Hp->Prop,(∀ik U,N ik U->∃m',m'<m/\W (i+1) m' ik U)/\∀x U,(qN K a).l9 i H x U->g x σ U λiA H2=>tb {D with nx:=N,ct:=N,bk:=D.nx} iA H2):=by
 refine⟨λi m σ H=>m=xs.length-i/\i<=xs.length/\Pv i σ H,⟨xs.length,by simp,aU _,h0⟩,?_⟩
 rintro i m σ H ⟨rfl,hi,p⟩
 have q:=hl i σ H hi p
 by_cases iP:i<xs.length
 ·refine .inr ⟨⟨xs,xs[i],q,by simp[iP]⟩,Pv (i+1),λik U p'=>⟨xs.length-(i+1),by omega,rfl,iP,p'⟩,λx U y=>?_⟩
  obtain⟨e,y⟩:=y
  subst e
  exact hs i x σ _ (y xs q) p
 ·have e:i=xs.length:=by omega
  subst e
  exact .inl ⟨⟨xs,q,ax _⟩,hd σ H p⟩
theorem AY{lo:Int}{n:Nat}{g:TG}{tb:TS}{D:Ends}{σ:St}{H:Hp}(Pv:Nat->St->Hp->Prop)(h0:Pv 0 σ H)
 (hs:∀i σ H,i<n->Pv i σ H->g (.int (lo+i)) σ H λiA H2=>tb {D with nx:=Pv (i+1),ct:=Pv (i+1),bk:=D.nx} iA H2) (hd:∀σ H,Pv n σ H->D.nx σ H):
 ∃
  W:Nat->Nat->St->Hp->Prop,(∃m,W 0 m σ H)/\∀i m σ H,W i m σ H->
  ((o6 lo n).stop i H/\D.nx σ H)\/((o6 lo n).go i H/\∃N:St->Hp->Prop,(∀ik U,N ik U->∃m',m'<m/\W (i+1) m' ik U)/\∀x U,(o6 lo n).l9 i H x U->g x σ U λiA H2=>tb {D with nx:=N,ct:=N,bk:=D.nx} iA H2):=by
 refine⟨λi m σ H=>m=n-i/\i<=n/\Pv i σ H,⟨n,by simp,aU _,h0⟩,?_⟩
 rintro i m σ H ⟨rfl,hi,p⟩
 by_cases iP:i<n
 ·refine .inr ⟨iP,Pv (i+1),λik U p'=>⟨n-(i+1),by omega,rfl,iP,p'⟩,λx U y=>?_⟩
  obtain⟨e,y⟩:=y
  subst e y
  exact hs i σ _ iP p
 ·have e:i=n:=by omega
  subst e
  exact .inl ⟨ax _,hd σ H p⟩
noncomputable abbrev R2:=V->V->Hp->VK->Prop
noncomputable def jE(X:Cx)(f:Value->Value->Sem Value)(r:R2):Prop:=
 ∀
  (pins:List (Addr×Obj)) (s:Shared) (σ:St) (H:Hp) (x y:V) (v u:Value) (Q:VK),Inv X pins σ H s->RelV x v->RelV y u->r x y H Q->
  wpAny (model X.prog X.w) X.A (f v u) (EP X pins σ Q) X.xe s
noncomputable def Ap(X:Cx)(f:Value->Sem Value)(r:V->Hp->VK->Prop):Prop:=
 ∀
  (pins:List (Addr×Obj)) (s:Shared) (σ:St) (H:Hp) (x:V) (v:Value) (Q:VK),Inv X pins σ H s->RelV x v->r x H Q->
  wpAny (model X.prog X.w) X.A (f v) (EP X pins σ Q) X.xe s
noncomputable def ma(X:Cx)(f:Value)(r:List V->Hp->VK->Prop):Prop:=
 ∀
  (pins:List (Addr×Obj)) (s:Shared) (σ:St) (H:Hp) (xs:List V) (us:List Value) (Q:VK),Inv X pins σ H s->iG xs us->r xs H Q->
  wpAny (model X.prog X.w) X.A (call f us) (EP X pins σ Q) X.xe s
noncomputable def Ni(X:Cx)(r:V->Hp->(Bool->Hp->Prop)->Prop):Prop:=
 ∀
  (pins:List (Addr×Obj)) (s:Shared) (σ:St) (H:Hp) (x:V) (v:Value) (Q:Bool->Hp->Prop),Inv X pins σ H s->RelV x v->r x H Q->
  wpAny (model X.prog X.w) X.A (truthy v) (TP X pins σ Q) X.xe s
noncomputable def mH(r:R2)(ta tb:TE):TE:=λσ H Q=>ta σ H λx H1=>tb σ H1 λy H2=>r x y H2 Q
noncomputable def tUn(r:V->Hp->VK->Prop)(ta:TE):TE:=λσ H Q=>ta σ H λx H1=>r x H1 Q
noncomputable def rI(C:Int->Int->Prop)(g:Int->Int->V):R2:=λx y H Q=>∃i j,x= .int i/\y= .int j/\C i j/\Q (g i j) H
noncomputable def qG(g:Int->Int->V):R2:=λx y H Q=>∃i j,x= .int i/\y= .int j/\Q (g i j) H
noncomputable def rU(g:Int->V):V->Hp->VK->Prop:=λx H Q=>∃i,x= .int i/\Q (g i) H
section
variable{X:Cx}{a b c:Expr}{ta tb tc:TE}{pos:Pos}
theorem Aw(ha:PE X a ta)(hb:PE X b tb){pins:List (Addr×Obj)}{s:Shared}{σ:St}{H:Hp}{R:V->V->Hp->Prop}(I:Inv X pins σ H s)
 (h:ta σ H λx H1=>tb σ H1 λy H2=>R x y H2) {Q:Value->Shared->Prop} {f:Value->Value->Sem Value}
 (hf:∀v u s2 x y H2,Inv X pins σ H2 s2->RelV x v->RelV y u->R x y H2->wpAny (model X.prog X.w) X.A (f v u) Q X.xe s2):
 wpAny (model X.prog X.w) X.A (eval a X.env) (λv iW=>wpAny (model X.prog X.w) X.A (eval b X.env) (λu kO=>wpAny (model X.prog X.w) X.A (f v u) Q X.xe kO) X.xe iW) X.xe s:=by
 refine ir (ha pins s σ H _ I h) λv s1 zq=>?_
 obtain⟨x,H1,I1,r1,q1⟩:=zq
 refine ir (hb pins s1 σ H1 _ I1 q1) λu s2 zq=>?_
 obtain⟨y,H2,I2,r2,q2⟩:=zq
 exact hf v u s2 x y H2 I2 r1 r2 q2
theorem iH{op:Operator}{r:R2}(ho:jE X (binaryOp op) r)(ha:PE X a ta)(hb:PE X b tb):PE X (.BinOp a op b pos) (mH r ta tb):=by
 intro pins s σ H Q I h
 exact wpAny_BinOp (Aw ha hb I h λv u s2 x y H2 I2 rx ry q=>ho pins s2 σ H2 x y v u Q I2 rx ry q)
theorem uV{op:UnaryOp}{r:V->Hp->VK->Prop}(ho:Ap X (unaryOp op) r)(ha:PE X a ta):PE X (.UnaryOp op a pos) (tUn r ta):=by
 intro pins s σ H Q I h
 exact UnaryOp_ (ir (ha pins s σ H _ I h) λv s1 ⟨x,H1,I1,r1,q1⟩=>ho pins s1 σ H1 x v Q I1 r1 q1)
theorem xq{f:Value->Value->Sem Value}{C:Int->Int->Prop}{g:Int->Int->Int}
 (rule:∀(i j:Int) (t u:Tok) (s:Shared) (Q:Value->Shared->Prop) (E:Value->Shared->Prop),C i j->Q (.int (g i j) s.toks) {s with toks:=s.toks+1}->wpAny (model X.prog X.w) X.A (f (.int i t) (.int j u)) Q E s):
 jE X f (rI C λi j=>.int (g i j)):=by
 intro pins s σ H x y v u Q I rx ry h
 obtain⟨i,j,rfl,rfl,hc,q⟩:=h
 obtain⟨t,rfl⟩:=rx
 obtain⟨t',rfl⟩:=ry
 exact rule i j t t' s _ _ hc ⟨.int (g i j),H,I.tok _,⟨_,rfl⟩,q⟩
theorem HA{f:Value->Value->Sem Value}{g:Int->Int->Int}
 (rule:∀(i j:Int) (t u:Tok) (s:Shared) (Q:Value->Shared->Prop) (E:Value->Shared->Prop),Q (.int (g i j) s.toks) {s with toks:=s.toks+1}->wpAny (model X.prog X.w) X.A (f (.int i t) (.int j u)) Q E s):
 jE X f (qG λi j=>.int (g i j)):=by
 intro pins s σ H x y v u Q I rx ry h
 obtain⟨i,j,rfl,rfl,q⟩:=h
 obtain⟨t,rfl⟩:=rx
 obtain⟨t',rfl⟩:=ry
 exact rule i j t t' s _ _ ⟨.int (g i j),H,I.tok _,⟨_,rfl⟩,q⟩
theorem zC{f:Value->Value->Sem Value}{g:Int->Int->Bool}
 (rule:∀(i j:Int) (t u:Tok) (s:Shared) (Q:Value->Shared->Prop) (E:Value->Shared->Prop),Q (.bool (g i j)) s->wpAny (model X.prog X.w) X.A (f (.int i t) (.int j u)) Q E s):
 jE X f (qG λi j=>.bl (g i j)):=by
 intro pins s σ H x y v u Q I rx ry h
 obtain⟨i,j,rfl,rfl,q⟩:=h
 obtain⟨t,rfl⟩:=rx
 obtain⟨t',rfl⟩:=ry
 exact rule i j t t' s _ _ ⟨.bl (g i j),H,I,rfl,q⟩
noncomputable def M_(i j:Int):Prop:=0<j/\j<1073741824
noncomputable def tJ(i j:Int):Prop:=(-(2^64)<i/\i<2^64)\/(-(2^64)<j/\j<2^64)
theorem tJ.ok{i j:Int}(h:tJ i j):IntMulOk i j:=by
 rcases h with⟨h1,h2⟩ | ⟨h1,h2⟩
 ·exact .of_left (intBits_le_64 h1 h2)
 ·exact .of_right (intBits_le_64 h1 h2)
theorem mV:jE X (binaryOp .Add) (qG λi j=>.int (i+j)):=HA λ_ _ _ _ _ _ _ q=>add_int q
theorem xu:jE X (binaryOp .Sub) (qG λi j=>.int (i-j)):=HA λ_ _ _ _ _ _ _ q=>sub_int q
theorem rO:jE X (binaryOp .Mult) (rI tJ λi j=>.int (i*j)):=xq λ_ _ _ _ _ _ _ hc q=>mul_int q hc.ok
theorem CH:jE X (binaryOp .FloorDiv) (rI M_ λi j=>.int (i/j)):=xq λi j _ _ _ _ _ hc q=>by
 have h1:(0:Int)<j:=hc.1
 have h2:j<1073741824:=hc.2
 exact floordiv_int (by omega) (by rw[eX i (by omega)];exact q) (.inl (PyProof.noPylong_small (by omega)))
theorem xt:jE X (binaryOp .Mod) (rI (λ_ j=>0<j) λi j=>.int (i % j)):=xq λi j _ _ _ _ _ hc q=>by
 have h1:(0:Int)<j:=hc
 exact mod_int' (by omega) (by rw[Int.fmod_eq_emod_of_nonneg i (by omega)];exact q)
theorem unI{f:Value->Sem Value}{g:Int->Int}
 (rule:∀(i:Int) (t:Tok) (s:Shared) (Q:Value->Shared->Prop) (E:Value->Shared->Prop),Q (.int (g i) s.toks) {s with toks:=s.toks+1}->wpAny (model X.prog X.w) X.A (f (.int i t)) Q E s):
 Ap X f (rU λi=>.int (g i)):=by
 intro pins s σ H x v Q I rx h
 obtain⟨i,rfl,q⟩:=h
 obtain⟨t,rfl⟩:=rx
 exact rule i t s _ _ ⟨.int (g i),H,I.tok _,⟨_,rfl⟩,q⟩
theorem vc:Ap X (unaryOp .USub) (rU λi=>.int (-i)):=unI λ_ _ _ _ _ q=>neg_int q
end
noncomputable def LY:V->V->Bool
 | .ia,.ia=>true | .ia,.int _=>true | .int _,.ia=>true | .ia,.bl _=>true | .bl _,.ia=>true | .ia,.str _=>true | .str _,.ia=>true
 | .int _,.int _=>true | .bl _,.bl _=>true | .str _,.str _=>true | .lj _,.lj _=>true
 | .int _,.str _=>true | .str _,.int _=>true | .bl _,.str _=>true | .str _,.bl _=>true
 | _,_=>false
noncomputable def rEq:R2:=λx y H Q=>LY x y=true/\Q (.bl (decide (x=y))) H
noncomputable def Il:R2:=λx y H Q=>LY x y=true/\Q (.bl (!decide (x=y))) H
theorem D7{i j:Int}:decide (V.int i=V.int j)=(i == j):=by
 rw[aH]
 simp
theorem D5{i j:Bool}:decide (V.bl i=V.bl j)=(i == j):=by
 rw[aH]
 simp
theorem D8{i j:Str}:decide (V.str i=V.str j)=(i == j):=by
 rw[aH]
 simp
theorem D6{i j:Array UInt8}:decide (V.lj i=V.lj j)=(i.toList == j.toList):=by
 rw[aH]
 cases i
 cases j
 simp
section
variable{X:Cx}{a b c:Expr}{ta tb tc:TE}{pos:Pos}
theorem jz{pins:List (Addr×Obj)}{σ:St}{H:Hp}{s:Shared}{Q:VK}{k k':Bool}(I:Inv X pins σ H s)(q:Q (.bl k) H)(e:k=k'):EP X pins σ Q (.bool k') s:=by
 subst e
 exact⟨.bl k,H,I,rfl,q⟩
theorem je:jE X (compareOp .Eq) rEq:=by
 intro pins s σ H x y v u Q I rx ry h
 obtain⟨hs,q⟩:=h
 cases x with
 | ia=>
  cases rx
  cases y with
  | ia=>cases ry;exact PySem.EqNone.eq_none_none (jz I q (by simp))
  | bl j=>cases ry;exact PySem.EqNone.eq_none_bool (jz I q (by simp))
  | int j=>obtain⟨t',rfl⟩:=ry;exact PySem.EqNone.eq_none_int (jz I q (by simp))
  | str j=>obtain⟨t',rfl⟩:=ry;exact PySem.EqNone.eq_none_str (jz I q (by simp))
  | _=>exact absurd (show false=true from hs) ao
 | bl i=>
  cases rx
  cases y with
  | ia=>cases ry;exact PySem.EqNone.eq_bool_none (jz I q (by simp))
  | bl j=>cases ry;exact eq_bool (jz I q D5)
  | str j=>obtain⟨t',rfl⟩:=ry;exact PySem.EqMixed.eq_bool_str (jz I q (by simp))
  | _=>exact absurd (show false=true from hs) ao
 | int i=>
  obtain⟨t,rfl⟩:=rx
  cases y with
  | ia=>cases ry;exact PySem.EqNone.eq_int_none (jz I q (by simp))
  | int j=>obtain⟨t',rfl⟩:=ry;exact eq_int (jz I q D7)
  | str j=>obtain⟨t',rfl⟩:=ry;exact PySem.EqMixed.eq_int_str (jz I q (by simp))
  | _=>exact absurd (show false=true from hs) ao
 | str i=>
  obtain⟨t,rfl⟩:=rx
  cases y with
  | ia=>cases ry;exact PySem.EqNone.eq_str_none (jz I q (by simp))
  | bl j=>cases ry;exact PySem.EqMixed.eq_str_bool (jz I q (by simp))
  | int j=>obtain⟨t',rfl⟩:=ry;exact PySem.EqMixed.eq_str_int (jz I q (by simp))
  | str j=>obtain⟨t',rfl⟩:=ry;exact eq_str (jz I q D8)
  | _=>exact absurd (show false=true from hs) ao
 | lj i=>
  obtain⟨t,rfl⟩:=rx
  cases y with
  | lj j=>obtain⟨t',rfl⟩:=ry;exact PySem.W.eq_bytes (jz I q D6)
  | _=>exact absurd (show false=true from hs) ao
 | _=>cases y<;>exact absurd (show false=true from hs) ao
theorem CI:jE X (compareOp .NotEq) Il:=by
 intro pins s σ H x y v u Q I rx ry h
 obtain⟨hs,q⟩:=h
 cases x with
 | ia=>
  cases rx
  cases y with
  | ia=>cases ry;exact PySem.EqNone.ne_none_none (jz I q (by simp))
  | bl j=>cases ry;exact PySem.EqNone.ne_none_bool (jz I q (by simp))
  | int j=>obtain⟨t',rfl⟩:=ry;exact PySem.EqNone.ne_none_int (jz I q (by simp))
  | str j=>obtain⟨t',rfl⟩:=ry;exact PySem.EqNone.ne_none_str (jz I q (by simp))
  | _=>exact absurd (show false=true from hs) ao
 | bl i=>
  cases rx
  cases y with
  | ia=>cases ry;exact PySem.EqNone.ne_bool_none (jz I q (by simp))
  | bl j=>cases ry;exact ne_bool (jz I q (cB not D5))
  | str j=>obtain⟨t',rfl⟩:=ry;exact PySem.EqMixed.ne_bool_str (jz I q (by simp))
  | _=>exact absurd (show false=true from hs) ao
 | int i=>
  obtain⟨t,rfl⟩:=rx
  cases y with
  | ia=>cases ry;exact PySem.EqNone.ne_int_none (jz I q (by simp))
  | int j=>obtain⟨t',rfl⟩:=ry;exact ne_int (jz I q (cB not D7))
  | str j=>obtain⟨t',rfl⟩:=ry;exact PySem.EqMixed.ne_int_str (jz I q (by simp))
  | _=>exact absurd (show false=true from hs) ao
 | str i=>
  obtain⟨t,rfl⟩:=rx
  cases y with
  | ia=>cases ry;exact PySem.EqNone.ne_str_none (jz I q (by simp))
  | bl j=>cases ry;exact PySem.EqMixed.ne_str_bool (jz I q (by simp))
  | int j=>obtain⟨t',rfl⟩:=ry;exact PySem.EqMixed.ne_str_int (jz I q (by simp))
  | str j=>obtain⟨t',rfl⟩:=ry;exact ne_str (jz I q (cB not D8))
  | _=>exact absurd (show false=true from hs) ao
 | lj i=>
  obtain⟨t,rfl⟩:=rx
  cases y with
  | lj j=>obtain⟨t',rfl⟩:=ry;exact PySem.W.ne_bytes (jz I q (cB not D6))
  | _=>exact absurd (show false=true from hs) ao
 | _=>cases y<;>exact absurd (show false=true from hs) ao
theorem kN:jE X (compareOp .Lt) (qG λi j=>.bl (decide (i<j))):=zC λ_ _ _ _ _ _ _ q=>lt_int q
theorem rN:jE X (compareOp .LtE) (qG λi j=>.bl (decide (i<=j))):=zC λ_ _ _ _ _ _ _ q=>le_int q
theorem ly:jE X (compareOp .Gt) (qG λi j=>.bl (decide (j<i))):=zC λ_ _ _ _ _ _ _ q=>gt_int q
theorem pN:jE X (compareOp .GtE) (qG λi j=>.bl (decide (j<=i))):=zC λ_ _ _ _ _ _ _ q=>ge_int q
theorem l0:jE X (compareOp .Is) (λx y H Q=>y= .ia/\Q (.bl (decide (x= .ia))) H):=by
 intro pins s σ H x y v u Q I rx ry h
 obtain⟨rfl,q⟩:=h
 cases ry
 refine is_none_gen (jz I q ?_)
 cases x<;>first
  | (cases rx;rfl)
  | (obtain⟨t,rfl⟩:=rx;rfl)
theorem zG:jE X (compareOp .IsNot) (λx y H Q=>y= .ia/\Q (.bl (!decide (x= .ia))) H):=by
 intro pins s σ H x y v u Q I rx ry h
 obtain⟨rfl,q⟩:=h
 cases ry
 refine isnot_none_gen (jz I q ?_)
 cases x<;>first
  | (cases rx;rfl)
  | (obtain⟨t,rfl⟩:=rx;rfl)
theorem ig(b:Expr){op:CmpOp}(h:op≠.In:=by decide)(h2:op≠.NotIn:=by decide):behindInMarks op b=false:=by
 have e1:(op == CmpOp.In)=false:=by cases op<;>first | rfl | exact absurd rfl h
 have e2:(op == CmpOp.NotIn)=false:=by cases op<;>first | rfl | exact absurd rfl h2
 cases b<;>simp[behindInMarks,e1,e2]
theorem kF{op:CmpOp}{r:R2}(ho:jE X (compareOp op) r)(ha:PE X a ta)(hb:PE X b tb)(hm:behindInMarks op b=false):PE X (.Compare a [op] [b] pos) (mH r ta tb):=by
 intro pins s σ H Q I h
 exact wpAny_Compare1 (Aw ha hb I h λv u s2 x y H2 I2 rx ry q=>ho pins s2 σ H2 x y v u Q I2 rx ry q) hm
noncomputable def Dy(t:TE):TT:=λσ H Q=>t σ H λx U=>∃k,x= .bl k/\Q k U
theorem iq{op:CmpOp}{r:R2}(ho:jE X (compareOp op) r)(ha:PE X a ta)(hb:PE X b tb)(hm:behindInMarks op b=false):PT X (.Compare a [op] [b] pos) (Dy (mH r ta tb)):=by
 intro pins s σ H Q I h
 refine wpAny_isTrue_Compare1 (ir (ha pins s σ H _ I h) λv s1 ⟨x,H1,I1,r1,q1⟩=>ir (hb pins s1 σ H1 _ I1 q1) λu s2 ⟨y,H2,I2,r2,q2⟩=>
  ir (ho pins s2 σ H2 x y v u _ I2 r1 r2 q2) λc s3 ⟨z,H3,I3,r3,k,e,q3⟩=>?_) hm
 subst e
 cases r3
 exact cK ⟨H3,I3,q3⟩
noncomputable def abq(r r':R2)(ta tb tc:TE):TE:=λσ H Q=>ta σ H λx H1=>tb σ H1 λy H2=>r x y H2 λz H3=>∃k,z= .bl k/\
 (if k=true then tc σ H3 λw' H4=>r' y w' H4 Q else Q (.bl false) H3)
theorem HM{op CF:CmpOp}{r r':R2}(ho:jE X (compareOp op) r)(n6:jE X (compareOp CF) r')(ha:PE X a ta)(hb:PE X b tb)(hc:PE X c tc)
 (hm:lastMarks [op,CF] [b,c]=false:=by with_unfolding_all rfl):PE X (.Compare a [op,CF] [b,c] pos) (abq r r' ta tb tc):=by
 intro pins s σ H Q I h
 refine Compare_chain (ir (ha pins s σ H _ I h) λv s1 ⟨x,H1,I1,r1,q1⟩=>chain_link (ir (hb pins s1 σ H1 _ I1 q1) λu s2 ⟨y,H2,I2,r2,q2⟩=>
  ir (ho pins s2 σ H2 x y v u _ I2 r1 r2 q2) λd s3 ⟨z,H3,I3,r3,k,e,q3⟩=>?_)) hm
 subst e
 cases r3
 refine cK ?_
 cases k with
 | false=>exact ite_ff ⟨.bl false,H3,I3,rfl,q3⟩
 | true=>exact ite_tt (chain_last (ir (hc pins s3 σ H3 _ I3 q3) λw' s4 ⟨z',H4,I4,r4,q4⟩=>n6 pins s4 σ H4 y z' u w' Q I4 r2 r4 q4))
noncomputable def Ao(K:Fg)(x:V)(H:Hp)(k:Bool):Prop:=
 match x with
 | .ia=>k=false
 | .bl b=>k=b
 | .int i=>k=(i != 0)
 | .str y=>y.length<=sizeLine/\k=((y.length:Int) != 0)
 | .lj y=>y.size<=sizeLine/\k=((y.size:Int) != 0)
 | .ref p=>(∃xs,f_ K H p xs/\k=!xs.isEmpty)\/(∃xs,iO K H p xs/\k=!xs.isEmpty)\/∃kvs,H p=some (.dK kvs)/\k=!kvs.isEmpty
 | _=>False
theorem UL{κ:Type}{kvs:List (κ×V)}{vs:List (κ×Value)}(r:KV kvs vs):(!vs.isEmpty)=!kvs.isEmpty:=by
 cases r<;>rfl
theorem F5{xs:List V}{g_:List Value}(r:iG xs g_):(!g_.toArray.isEmpty)=!xs.isEmpty:=by
 cases r<;>simp
theorem uG:(sizeLine:Nat)<2^63:=by rw[gE];decide
theorem abU:Ni X (λx H Q=>∃k,Ao X.K x H k/\Q k H):=by
 intro pins s σ H x v Q I rx h
 obtain⟨k,e,q⟩:=h
 have hl:=uG
 have hs:sizeLine=16777216:=gE
 cases x with
 | ia=>
  cases rx
  have e':k=false:=e
  subst e'
  exact truthy_none ⟨H,I,q⟩
 | bl b=>
  cases rx
  have e':k=b:=e
  subst e'
  exact cK ⟨H,I,q⟩
 | int i=>
  obtain⟨t,rfl⟩:=rx
  have e':k=(i != 0):=e
  subst e'
  exact PySem.P.truthy_int ⟨H,I,q⟩
 | str y=>
  obtain⟨t,rfl⟩:=rx
  obtain⟨hy,e'⟩:y.length<=sizeLine/\k=((y.length:Int) != 0):=e
  subst e'
  exact PySem.P.truthy_str (by omega) ⟨H,I.tok _,q⟩
 | lj y=>
  obtain⟨t,rfl⟩:=rx
  obtain⟨hy,e'⟩:y.size<=sizeLine/\k=((y.size:Int) != 0):=e
  subst e'
  exact PySem.W.truthy_bytes (by omega) ⟨H,I.tok _,q⟩
 | ref p=>
  cases rx
  have e':(∃xs,f_ X.K H p xs/\k=!xs.isEmpty)\/(∃xs,iO X.K H p xs/\k=!xs.isEmpty)\/∃kvs,H p=some (.dK kvs)/\k=!kvs.isEmpty:=e
  rcases e' with⟨xs,hx,e'⟩ | ⟨xs,hx,e'⟩ | ⟨kvs,hx,e'⟩
  ·subst e'
   obtain⟨g_,r,pl,hz⟩:=I.list hx
   have hlen:=r.length
   exact wpAny_truthy_list pl.isList (by simp only[aJ];omega) ⟨H,I.tok _,by rw[F5 r];exact q⟩
  ·subst e'
   obtain⟨g_,r,pl,hz⟩:=I.tuple hx
   have hlen:=r.length
   exact truthy_tuple pl (by simp only[aJ];omega) ⟨H,I.tok _,by rw[F5 r];exact q⟩
  ·subst e'
   obtain⟨hz,hS,vs,r,m⟩:kvs.length<=sizeLine/\(p == sysModules)=false/\∃vs,KV kvs vs/\s.heap.DictOf (i4 X.prog X.w) p vs:=I.h_ p _ hx
   have hlen:kvs.length=vs.length:=cF r
   exact wpAny_truthy_dict hS m (by omega) ⟨H,I.tok _,by rw[UL r];exact q⟩
 | _=>exact(show False from e).elim
theorem ju(ha:PE X a ta)(he:∀whole,isTrue a X.env whole=(do let v <-whole;standAt a.pos;holding [v] (truthy v))):
 PT X a (λσ H Q=>ta σ H λx U=>∃k,Ao X.K x U k/\Q k U):=by
 intro pins s σ H Q I h
 exact isTrue_plain (ir (ha pins s σ H _ I h) λv s1 ⟨x,H1,I1,r1,q1⟩=>abU pins s1 σ H1 x v Q I1 r1 q1) (he _)
theorem CG:jE X (binaryOp .Add) (λx y H Q=>∃i j,x= .str i/\y= .str j/\i.length+j.length<=sizeLine/\Q (.str (i++j)) H):=by
 intro pins s σ H x y v u Q I rx ry h
 obtain⟨i,j,rfl,rfl,hz,q⟩:=h
 obtain⟨t,rfl⟩:=rx
 obtain⟨t',rfl⟩:=ry
 exact add_str (λt' tk=>⟨.str (i++j),H,I.tok _,⟨_,rfl⟩,q⟩) hz
theorem vals1{x:V}{us:List Value}(r:iG [x] us):∃u,us=[u]/\RelV x u:=by
 cases r with
 | cons r1 r2=>cases r2;exact⟨_,rfl,r1⟩
theorem sy:ma X (.builtin "abs") (λxs H Q=>∃i,xs=[.int i]/\Q (.int (if i<0 then -i else i)) H):=by
 intro pins s σ H xs us Q I r h
 obtain⟨i,rfl,q⟩:=h
 obtain⟨u,rfl,t,rfl⟩:=vals1 r
 exact call_abs_int λu tk=>⟨.int (if i<0 then -i else i),H,I.tok _,⟨_,rfl⟩,q⟩
theorem yg:ma X (.type "str") (λxs H Q=>∃i,xs=[.int i]/\i.natAbs.log2<1920/\Q (.str (toString i)) H):=by
 intro pins s σ H xs us Q I r h
 obtain⟨i,rfl,hz,q⟩:=h
 obtain⟨u,rfl,t,rfl⟩:=vals1 r
 exact PySem.P.str_of_int hz ⟨.str _,H,I.tok _,⟨_,rfl⟩,q⟩
theorem NW:ma X (.builtin "ord") (λxs H Q=>∃x,xs=[.str x]/\x.length=1/\Q (.int (x.cps.getD 0 0:Nat)) H):=by
 intro pins s σ H xs us Q I r h
 obtain⟨x,rfl,hz,q⟩:=h
 obtain⟨u,rfl,t,rfl⟩:=vals1 r
 exact ord_of_one hz ⟨.int _,H,I.tok _,⟨_,rfl⟩,q⟩
end
structure tO(h:Heap)(x dx C:Addr)(mA:Str->Option Value):Prop where
 obj:h.get? x=some (PySem.W.instObj C dx)
 ns:h.Ns1 dx mA
 ne:dx≠x
theorem VD{h:Heap}{dx:Addr}{mA:Str->Option Value}(n:h.Ns1 dx mA):∃od,h.get? dx=some od/\∀name,PySem.W.lookIn name od=some (mA name):=by
 obtain⟨o,es,ep,ho,hd,hk,_,hm⟩:=n
 refine⟨o,ho,λname=>?_⟩
 have e:=hm name
 unfold nsFind findBy at e
 rw[<-Array.find?_toList]at e
 unfold PySem.W.lookIn
 rw[hd]
 dsimp only
 split
 ·rename_i y q
  rw[q]at e
  exact cB some e
 ·rename_i q
  rw[q]at e
  have a:es.toList.any (·.refKey)=false:=by
   rw[List.any_eq_false]
   intro y hy
   obtain⟨z,t,lW⟩:=hk y (Array.mem_toList_iff.mp hy)
   simp[DictEntry.refKey,lW]
  have a':¬es.toList.any (·.refKey)=true:=by rw[a];exact ao
  rw[aq a']
  exact cB some e
theorem tO.look{h:Heap}{x dx C:Addr}{mA:Str->Option Value}(I:tO h x dx C mA):∃od,PySem.W.InstAt h x (PySem.W.instObj C dx) C (some od)/\∀name,PySem.W.lookIn name od=some (mA name):=
 let ⟨od,ho,hl⟩:=VD I.ns
 ⟨od,⟨I.obj,rfl,rfl,ho⟩,hl⟩
section
variable{prog:Program}{w:World}{A:Around}{E:Value->Shared->Prop}{s:Shared}{K:Fg}{x dx C f:Addr}{mA:Str->Option Value}{name:Str}{v:Value}
theorem get_map{expr:Bool}{Q:Value->Shared->Prop}(X:K.In s.heap)(I:tO s.heap x dx C mA)(hg:PySem.W.plainGet K C name=true)(hh:PySem.W.hasDictIn K C=true)
 (ha:PySem.W.findIn K (.ref C) name=some none) (hv:mA name=some v) (oP:PySem.W.handedIn v=true) (h:Q v {s with toks:=s.toks+1}):
 wpAny (model prog w) A (getAttr (.ref x) name expr) Q E s:=by
 obtain⟨od,J,hl⟩:=I.look
 exact PySem.W.get_value X J (PySem.W.plainGet_of hg).1 (PySem.W.findObj_own hh ha rfl (by rw[hl,hv])) oP h
theorem aa4{ns:List Str}{Q:Unit->Shared->Prop}(X:K.In s.heap)(I:tO s.heap x dx C mA)
 (hs:PySem.W.findIn K (.ref C) "__setattr__"=some (some (.builtin "object.__setattr__"))) (hp:PySem.W.plainOver K C=true) (ht:PySem.W.takerIn K C name=some none) (hh:PySem.W.hasDictIn K C=true)
 (hw:PySem.Within mA ns) (hsz:ns.length<=sizeLine)
 (h:∀h',tO h' x dx C (λy=>if y=name then some v else mA y)->Heap.SameBut dx s.heap h'->Q () {s with heap:=h',toks:=s.toks+2}):
 wpAny (model prog w) A (setAttr (.ref x) name v) Q E s:=by
 obtain⟨od,J,hl⟩:=I.look
 refine PySem.W.set_plain X J hs (PySem.W.osa_open (s:={s with toks:=s.toks+1}) (r:=none) X J hp ht λb=>?_)
 obtain⟨cd,hc,lV⟩:=PySem.W.any_some hh
 have hx:s.heap.get? x=some ⟨.ref C,some dx,.plain,#[]⟩:=I.obj
 refine aa (af (aa (aa (wpAny_loadPart hx (aa (PySem.W.Looks.here (s:={s with toks:=s.toks+1}) (PySem.W.looks_clsIn X hc) ?_))))))
 rw[lV]
 refine af (a:=some dx) (aa (af (aa ?_)))
 refine wpAny_nsSet1 (s:={s with toks:=s.toks+1}) I.ns λh' Fo sO=>?_
 obtain⟨oD,esD,epD,Tw,Sz,Sq⟩:=Fo.count (PySem.Within.cons name v hw)
 refine aa (wpAny_lookBehind Tw (by rw[Sz];exact pastItsLine_dict (aN Sq (by rw[ai];omega))) ?_)
 exact af (h _ ⟨(sO.2 _ (cJ I.ne)).trans I.obj,Fo,I.ne⟩ sO)
theorem VM{R:Result->Shared->Prop}{vs:List Value}{kw:List (Str×Value)}(X:K.In s.heap)(hm:PySem.W.makesIn K C=true)
 (hi:PySem.W.findIn K (.ref C) "__init__"=some (some (.ref f))) (hf:PySem.W.typeIn K (.ref f)=some (.type "function"))
 (h:codeAny (model prog w) (A.under (.builtin "type.__call__" ⟨.ref C::vs,kw⟩)) (.call (.ref f) ⟨.ref (s.heap.objs.size+1)::vs,kw⟩) (PySem.W.InitBack (s.heap.objs.size+1) R)
  {s with heap:=(s.heap.push PySem.W.emptyDict).push (PySem.W.instObj C s.heap.objs.size)}):
 codeAny (model prog w) A (.call (.ref C) ⟨vs,kw⟩) R s:=by
 obtain⟨hh,g,d,t,os⟩:=s
 exact PySem.W.make_core (PySem.W.makes_of X hm) (PySem.W.looks_findIn X hi) (λself=>PySem.W.bind_fn X self hf) (.inl rfl) h
end
noncomputable def l8(f:Str)(v:V):List (Str×V)->List (Str×V)
 | []=>[(f,v)]
 | (g,x)::r=>if g=f then (g,v)::r else (g,x)::l8 f v r
theorem Gn(f g:Str)(v:V):∀fs:List (Str×V),(l8 f v fs).lookup g=if g=f then some v else fs.lookup g
 | []=>by
  show List.lookup g [(f,v)]=_
  by_cases h:g=f
  ·have hb:(g == f)=true:=dM.mpr h
   simp only[List.lookup,hb,aE h]
  ·have hb:(g == f)=false:=bX.mpr h
   simp only[List.lookup,hb,aq h]
 | (k,x)::r=>by
  have ih:=Gn f g v r
  rw[show l8 f v ((k,x)::r)=(if k=f then (k,v)::r else (k,x)::l8 f v r) from rfl]
  by_cases hk:k=f
  ·rw[aE hk]
   by_cases h:g=k
   ·have hb:(g == k)=true:=dM.mpr h
    simp only[List.lookup,hb,aE (h.trans hk)]
   ·have hb:(g == k)=false:=bX.mpr h
    simp only[List.lookup,hb,aq (λe:g=f=>h (e.trans hk.symm))]
  ·rw[aq hk]
   by_cases h:g=k
   ·have hb:(g == k)=true:=dM.mpr h
    simp only[List.lookup,hb,aq (λe:g=f=>hk (h.symm.trans e))]
   ·have hb:(g == k)=false:=bX.mpr h
    simp only[List.lookup,hb]
    exact ih
theorem B9(f:Str)(v:V):∀fs:List (Str×V),f∈(l8 f v fs).map (·.1)/\∀g,g∈fs.map (·.1)->g∈(l8 f v fs).map (·.1)
 | []=>⟨by simp[l8],λg h=>by simp at h⟩
 | (k,x)::r=>by
  obtain⟨i1,i2⟩:=B9 f v r
  rw[show l8 f v ((k,x)::r)=(if k=f then (k,v)::r else (k,x)::l8 f v r) from rfl]
  by_cases hk:k=f
  ·rw[aE hk]
   subst hk
   exact⟨by simp,λg h=>by simpa using h⟩
  ·rw[aq hk]
   refine⟨?_,λg h=>?_⟩
   ·rw[aO]
    exact aw _ i1
   ·rw[aO]at h ⊢
    rcases aM.mp h with e | e
    ·exact aM.mpr (.inl e)
    ·exact aw _ (i2 g e)
theorem Gj(f:Str)(v:V):∀fs:List (Str×V),(l8 f v fs).length<=fs.length+1
 | []=>by simp[l8]
 | (k,x)::r=>by
  have ih:=Gj f v r
  rw[show l8 f v ((k,x)::r)=(if k=f then (k,v)::r else (k,x)::l8 f v r) from rfl]
  by_cases hk:k=f
  ·rw[aE hk,ai,ai];omega
  ·rw[aq hk,ai,ai];omega
theorem lh.some_of{v:V}{o:Option Value}(r:lh (some v) o):∃u,o=some u/\RelV v u:=by
 cases o with
 | none=>exact(show False from r).elim
 | some u=>exact⟨u,rfl,r⟩
theorem Se{v:V}{u:Value}(r:RelV v u):PySem.W.handedIn u=true:=by
 cases v with
 | ia=>cases (show u=Value.none from r);rfl
 | bl b=>cases (show u=Value.bool b from r);rfl
 | int i=>obtain⟨t,e⟩:=(show ∃t,u=Value.int i t from r);cases e;rfl
 | str x=>obtain⟨t,e⟩:=(show ∃t,u=Value.str x t from r);cases e;rfl
 | lj b=>obtain⟨t,e⟩:=(show ∃t,u=Value.bytes b t from r);cases e;rfl
 | yw b=>obtain⟨t,e⟩:=(show ∃t,u=Value.float b t from r);cases e;rfl
 | ref a=>cases (show u=Value.ref a from r);rfl
 | ty n=>cases (show u=Value.type n from r);rfl
section
variable{P:Program}{w:World}{H U:Hp}{h h':Heap}{a C dx:Addr}{fs Ra:List (Str×V)}
theorem F0(h_:jg P w H h)(e:H a=some (.ins C dx fs)):∃mA,tO h a dx C mA/\(∀f,lh (fs.lookup f) (mA f))/\PySem.Within mA (fs.map (·.1))/\fs.length<=1000/\H dx=some (.own a):=by
 obtain⟨d,z,ne,ob,mA,n,r,q⟩:=(show jl P w H h a (.ins C dx fs) from h_ a _ e)
 exact⟨mA,⟨ob,n,ne⟩,r,q,z,d⟩
end
structure pY(K:Fg)(C:Addr):Prop where
 pg:PySem.W.plainGet K C Str.empty=true
 hd:PySem.W.hasDictIn K C=true
 po:PySem.W.plainOver K C=true
 sa:PySem.W.findIn K (.ref C) "__setattr__"=some (some (.builtin "object.__setattr__"))
theorem pY.get{K:Fg}{C:Addr}(c:pY K C)(f:Str):PySem.W.plainGet K C f=true:=c.pg
noncomputable def jh(K:Fg)(C:Addr)(f:Str):Prop:=PySem.W.findIn K (.ref C) f=some none
theorem jh.abO{K:Fg}{C:Addr}{f:Str}(n:jh K C f):PySem.W.takerIn K C f=some none:=by
 unfold PySem.W.takerIn
 rw[show PySem.W.findIn K (.ref C) f=some none from n]
 rfl
section
variable{X:Cx}{pins:List (Addr×Obj)}{σ:St}{H:Hp}{s:Shared}{a C dx:Addr}{fs:List (Str×V)}{f:Str}{v:V}{A:Around}{E:Value->Shared->Prop}
theorem R1{b:Bool}{Q:Value->Shared->Prop}(I:Inv X pins σ H s)(e:H a=some (.ins C dx fs))(c:pY X.K C)(n:jh X.K C f)(l:fs.lookup f=some v)
 (h:∀u s',Inv X pins σ H s'->RelV v u->Q u s'):wpAny (model X.prog X.w) A (getAttr (.ref a) f b) Q E s:=by
 obtain⟨mA,O,r,_,_,_⟩:=F0 I.h_ e
 obtain⟨u,hu,ru⟩:=lh.some_of (v:=v) (o:=mA f) (by rw[<-l];exact r f)
 exact get_map I.n8 O (c.get f) c.hd n hu (Se ru) (h u _ (I.tok _) ru)
theorem aa5{y:V}{u:Value}{Q:Unit->Shared->Prop}(I:Inv X pins σ H s)(e:H a=some (.ins C dx fs))(c:pY X.K C)(n:jh X.K C f)(hl:fs.length<1000)(ry:RelV y u)
 (h:∀s',Inv X pins σ (upd H a (.ins C dx (l8 f y fs))) s'->Q () s'):wpAny (model X.prog X.w) A (setAttr (.ref a) f u) Q E s:=by
 obtain⟨mA,O,r,wi,_,ho⟩:=F0 I.h_ e
 have hz:(fs.map (·.1)).length<=sizeLine:=by rw[ab,gE];omega
 refine aa4 I.n8 O c.sa c.po n.abO c.hd wi hz λh' O' sb=>h _ ?_
 have hd:∃o,h'.get? dx=some o:=let ⟨o,_,_,e',_⟩:=O'.ns;⟨o,e'⟩
 refine I.write (x:=a) (e:=dx) (by rw[e];exact True.intro) (.inr ho) (λb q hb z=>(sb.2 b hb).trans z) hd ?_
 refine⟨by rw[ip O.ne];exact ho,?_,O.ne,O'.obj,_,O'.ns,λg=>?_,λg hg=>?_⟩
 ·have:=Gj f y fs;omega
 ·show lh ((l8 f y fs).lookup g) (if g=f then some u else mA g)
  rw[Gn]
  by_cases q:g=f
  ·rw[aE q,aE q];exact ry
  ·rw[aq q,aq q];exact r g
 ·by_cases q:g=f
  ·rw[q];exact(B9 f y fs).1
  ·refine(B9 f y fs).2 g (wi g λz=>hg ?_)
   show(if g=f then some u else mA g)=none
   rw[aq q];exact z
theorem Inv.made(I:Inv X pins σ H s):Inv X pins σ (upd (upd H s.heap.objs.size (.own (s.heap.objs.size+1))) (s.heap.objs.size+1) (.ins C s.heap.objs.size []))
 {s with heap:=(s.heap.push PySem.W.emptyDict).push (PySem.W.instObj C s.heap.objs.size)}:=by
 have e1:(s.heap.push PySem.W.emptyDict).get? s.heap.objs.size=some PySem.W.emptyDict:=aC s.heap rfl
 have e2:((s.heap.push PySem.W.emptyDict).push (PySem.W.instObj C s.heap.objs.size)).get? (s.heap.objs.size+1)=some (PySem.W.instObj C s.heap.objs.size):=by
  have:=aC (s.heap.push PySem.W.emptyDict) (o:=PySem.W.instObj C s.heap.objs.size) rfl
  rwa [bC]at this
 have e3:(s.heap.push PySem.W.emptyDict).Ns s.heap.objs.size (λ_=>none):=⟨PySem.W.emptyDict,#[],_,e1,rfl,(λe he=>absurd he (by simp)),λ_=>rfl⟩
 have I1:=I.laid (a:=s.heap.objs.size) (o:=.own (s.heap.objs.size+1)) (h':=s.heap.push PySem.W.emptyDict) (t':=s.toks) (λb u q=>ag _ q) (ax _) ⟨_,e1⟩
 refine I1.laid (a:=s.heap.objs.size+1) (o:=.ins C s.heap.objs.size []) (t':=s.toks) (λb u q=>ag _ q) (gp (bC _ _)) ?_
 have ne:s.heap.objs.size≠s.heap.objs.size+1:=a9 (fV _)
 refine⟨by rw[ip ne,e_],aU _,ne,e2,λ_=>none,(Heap.Ns1.of_empty e3).at λo q=>ag _ q,λ_=>True.intro,λy hy=>absurd rfl hy⟩
theorem ND{prog:Program}{w:World}{env:Env}{e:Expr}{f:Str}{pos:Pos}{s:Shared}{Q:Value->Shared->Prop}(hb:attributeBase e f env (eval e env)=eval e env)
 (h:wpAny (model prog w) A (eval e env) (λo iW=>wpAny (model prog w) A (getAttr o f true) Q E iW) E s):wpAny (model prog w) A (eval (.Attribute e f pos) env) Q E s:=
 Attribute_any_ h (by rw[arm_eval_Attribute,hb])
end
noncomputable def lE(K:Fg)(ta:TE)(f:Str):TE:=λσ H Q=>ta σ H λx H1=>∃a C dx fs v,x= .ref a/\H1 a=some (.ins C dx fs)/\pY K C/\jh K C f/\fs.lookup f=some v/\Q v H1
noncomputable def aaq(K:Fg)(ta tv:TE)(f:Str):TS:=λD σ H=>tv σ H λy H1=>ta σ H1 λx H2=>∃a C dx fs,x= .ref a/\H2 a=some (.ins C dx fs)/\pY K C/\jh K C f/\fs.length<1000/\
 D.nx σ (upd H2 a (.ins C dx (l8 f y fs)))
section
variable{X:Cx}{o e value:Expr}{f:Str}{pos pos' lF:Pos}{ta tv:TE}
theorem hG(he:PE X e ta)(hb:attributeBase e f X.env (eval e X.env)=eval e X.env):PE X (.Attribute e f pos) (lE X.K ta f):=by
 intro pins s σ H Q I h
 refine ND hb (ir (he pins s σ H _ I h) λu s1 zq=>?_)
 obtain⟨x,H1,I1,rx,a,C,dx,fs,v,ex,ea,c,n,l,q⟩:=zq
 subst ex
 obtain rfl:u=Value.ref a:=rx
 exact R1 I1 ea c n l λu' s2 I2 ru=>⟨v,H1,I2,ru,q⟩
theorem jH(ha:PE X o ta)(hv:PE X value tv)(hs:swapsWith value (some (.Attribute o f pos')) pos.line X.env=pure false):PS X (.Assign [.Attribute o f pos'] value pos) (aaq X.K ta tv f):=by
 intro pins s σ H D I h
 refine plainObj_wpAny_Assign_Attribute (ir (hv pins s σ H _ I h) λu s1 ⟨y,H1,I1,ry,q⟩=>ir (ha pins s1 σ H1 _ I1 q) λov s2 ⟨x,H2,I2,rx,a,C,dx,fs,ex,ea,c,n,l,q2⟩=>?_) hs
 subst ex
 obtain rfl:ov=Value.ref a:=rx
 exact aa5 I2 ea c n l ry λs3 I3=>⟨σ,_,I3,q2⟩
end
section
variable{X:Cx}{pins:List (Addr×Obj)}{σ:St}{H:Hp}{s:Shared}{A:Around}{E:Value->Shared->Prop}{Q:Value->Shared->Prop}{c:Value}{b:Bool}
end
structure jy(k:Nat)(A:Around):Prop where
 hd:A.handled=none
 dp:A.depth+3*k+5<recursionLimit
 un:A.units+16*k+200<cLine
theorem jy.mono{j k:Nat}{A:Around}(r:jy k A)(h:j<=k):jy j A:=⟨r.hd,by have:=r.dp;omega,by have:=r.un;omega⟩
theorem jy.deeper{k:Nat}{A:Around}(r:jy (k+1) A)(env:Env):jy k (A.deeper env):=
 ⟨r.hd,by have:=r.dp;show A.depth+1+3*k+5<_;omega,by have:=r.un;show A.units+3+16*k+200<_;omega⟩
theorem VL{A:Around}{C:Addr}{us:List Value}{kw:List (Str×Value)}:(A.under (.builtin "type.__call__" ⟨.ref C::us,kw⟩)).depth=A.depth+1:=by
 first | rfl | simp[Around.under,Code.weight,Code.isCreation,Code.isGuard,Code.isCaller,Code.frames,Code.isFrame,guardIds]
theorem VN{A:Around}{C:Addr}{us:List Value}{kw:List (Str×Value)}:(A.under (.builtin "type.__call__" ⟨.ref C::us,kw⟩)).units=A.units+1:=by
 first | rfl | simp[Around.under,Code.cUnits,Code.frames,Code.isFrame]
theorem jy.make{k:Nat}{A:Around}(r:jy (k+1) A)(C:Addr)(us:List Value)(kw:List (Str×Value)):jy k (A.under (.builtin "type.__call__" ⟨.ref C::us,kw⟩)):=
 ⟨r.hd,by have:=r.dp;rw[VL];omega,by have:=r.un;rw[VN];omega⟩
theorem jy.depth{k:Nat}{A:Around}(r:jy k A):A.depth<recursionLimit:=by have:=r.dp;omega
theorem jy.units{k:Nat}{A:Around}(r:jy k A):A.units+64<cLine:=by have:=r.un;omega
noncomputable def pV:TA:=λ_ H Q=>Q [] H
noncomputable def mG(ta:TE)(tr:TA):TA:=λσ H Q=>ta σ H λx H1=>tr σ H1 λxs H2=>Q (x::xs) H2
section
variable{X:Cx}{e:Expr}{es:List Expr}{te:TE}{t:TA}{pos:Pos}
theorem d_:PA X [] pV:=λ_ _ _ _ H Q I h=>dW ⟨[],H,I,.nil,h⟩
theorem b_(ha:PE X e te)(hr:PA X es t)(hs:starEach (e::es) X.env=(false,eval e X.env)::starEach es X.env:=by rfl):PA X (e::es) (mG te t):=by
 intro pos pins s σ H Q I h
 rw[hs]
 show wpAny _ _ (spliced ((false,eval e X.env)::backTo pos (starEach es X.env))) _ _ s
 refine cU (ir (ha pins s σ H _ I h) λu s1 zq=>?_)
 obtain⟨x,H1,I1,r1,q1⟩:=zq
 exact ir (hr pos pins s1 σ H1 _ I1 q1) λus s2 ⟨xs,H2,I2,r2,q2⟩=>⟨x::xs,H2,I2,.cons r1 r2,q2⟩
noncomputable def ME(t:TA):TE:=λσ H Q=>t σ H λxs H1=>xs.length<=sizeLine/\∀p,H1 p=none->Q (.ref p) (upd H1 p (.tup xs))
noncomputable def Mx(t:TA):TE:=λσ H Q=>t σ H λxs H1=>xs.length<=sizeLine/\∀p,H1 p=none->Q (.ref p) (upd H1 p (.lst xs))
theorem rQ{x1}(h:PA X es t):PE X (.Tuple es x1 pos) (ME t):=by
 intro pins s σ H Q I hq
 refine wpAny_Tuple_spliced (ir (h pos pins s σ H _ I hq) λus s1 ⟨xs,H1,I1,r,z,q⟩=>⟨by rw[<-r.length];exact z,?_⟩)
 have hf:H1 s1.heap.objs.size=none:=I1.h_.fresh (ax _)
 refine⟨.ref s1.heap.objs.size,upd H1 s1.heap.objs.size (.tup xs),I1.laid (t':=s1.toks) (λb u e=>ag _ e) (ax _) ?_,rfl,q _ hf⟩
 exact⟨z,us,r,⟨_,aC _ rfl,rfl,_,rfl⟩⟩
theorem iL(h:PA X es t):PE X (.List es pos) (Mx t):=by
 intro pins s σ H Q I hq
 refine wpAny_List_spliced (ir (h pos pins s σ H _ I hq) λus s1 ⟨xs,H1,I1,r,z,q⟩=>⟨by rw[<-r.length];exact z,?_⟩)
 have hf:H1 s1.heap.objs.size=none:=I1.h_.fresh (ax _)
 refine⟨.ref s1.heap.objs.size,upd H1 s1.heap.objs.size (.lst xs),I1.laid (t':=s1.toks) (λb u e=>ag _ e) (ax _) ?_,rfl,q _ hf⟩
 exact⟨z,us,0,r,aC _ rfl⟩
end
noncomputable abbrev Sp:=List V->Hp->VK->XK->Prop
noncomputable abbrev nN:=List Env->Hp->Shared->XK->Value->Shared->Prop
structure rY(P:Program)(w:World)(K:Fg)(mg:Str->Option Value)(base:Heap)(A:Around)(outer:List Env)(s:Shared)(H:Hp):Prop where
 frames:A.frames=some outer
 mod:Mod K mg base
 bs:∀b o,base.get? b=some o->s.heap.get? b=some o/\H b=none
 qc:base.objs.size<=s.heap.objs.size
 nV:s.heap.FunFrames base outer
 sE:∀b∈oF outer,H b=none
 h_:jg P w H s.heap
 bare:AllBare s.gens
noncomputable def CE(outer:List Env)(P:Program)(w:World)(H:Hp)(s:Shared)(Q:VK)(u:Value)(s':Shared):Prop:=
 ∃v U,s'.os=s.os/\AllBare s'.gens/\Un (oF outer) [] H U s.heap s'.heap/\jg P w U s'.heap/\RelV v u/\Q v U
noncomputable def CR(CX:nN)(outer:List Env)(P:Program)(w:World)(H:Hp)(s:Shared)(Q:VK)(E:XK)(r:Result)(s':Shared):Prop:=
 match r with
 | .ok (.ret u)=>CE outer P w H s Q u s'
 | .ok _=>False
 | .error e=>CX outer H s E e s'
structure m5(P:Program)(w:World)(K:Fg)(mg:Str->Option Value)(base:Heap)(CX:nN)(k:Nat)(f:Addr)(fd:FuncData)(ps:List Str)(sp:Sp):Prop where
 len:∀vs H Q E,sp vs H Q E->vs.length=ps.length
 run:∀(A:Around) (outer:List Env) (s:Shared) (H:Hp) (args:Args) (us:List Value) (vs:List V) (Q:VK) (E:XK),jy k A->rY P w K mg base A outer s H->BindsTo s fd args (ps.zip us)->iG vs us->sp vs H Q E->
  codeAny (model P w) A (.call (.ref f) args) (CR CX outer P w H s Q E) s
theorem rY.make{P:Program}{w:World}{K:Fg}{mg:Str->Option Value}{base:Heap}{A:Around}{outer:List Env}{s:Shared}{H:Hp}(e:rY P w K mg base A outer s H)(C:Addr)(us:List Value)(kw:List (Str×Value)):
 rY P w K mg base (A.under (.builtin "type.__call__" ⟨.ref C::us,kw⟩)) outer s H:=⟨by first | exact e.frames | (simpa [Around.under,Code.envs,Code.isFrame,pushEnvs] using e.frames),e.mod,e.bs,e.qc,e.nV,e.sE,e.h_,e.bare⟩
section
variable{X:Cx}{pins:List (Addr×Obj)}{σ:St}{H:Hp}{s s':Shared}
theorem Inv.Eg(I:Inv X pins σ H s):rY X.prog X.w X.K X.mg X.base X.A X.stack s H:=
 ⟨I.ok.frames,I.ok.mod,I.bs,aN I.ok.qc I.sz,I.stack,I.Ml,I.h_,I.bare⟩
theorem Inv.after{Q:VK}{u:Value}(I:Inv X pins σ H s)(h:CE X.stack X.prog X.w H s Q u s'):EP X pins σ Q u s':=by
 obtain⟨v,U,os,bare,un,h_,r,q⟩:=h
 obtain⟨hh,g,d,t,X4⟩:=s'
 obtain rfl:X4=s.os:=os
 exact⟨v,U,I.call (h':=hh) (g':=g) (d':=d) (t':=t) (ch:=[]) un h_ bare (λb z=>absurd z (by simp)),r,q⟩
end
noncomputable def tG(sp:Sp)(lJ:List V)(E:XK)(t:TA):TE:=λσ H Q=>t σ H λvs H1=>sp (vs++lJ) H1 Q E
noncomputable def abD(C:Addr)(sp:Sp)(lJ:List V)(E:XK)(t:TA):TE:=λσ H Q=>t σ H λvs H1=>∀x dx,H1 x=none->H1 dx=none->dx≠x->
 sp (.ref x::(vs++lJ)) (upd (upd H1 dx (.own x)) x (.ins C dx [])) (λv H2=>v= .ia/\Q (.ref x) H2) E
noncomputable def Binds(K:Fg)(fd:FuncData)(ps:List Str)(ds:List Value):Prop:=
 ∀(s:Shared) (us:List Value),K.In s.heap->(us++ds).length=ps.length->BindsTo s fd ⟨us,[]⟩ (ps.zip (us++ds))
theorem Binds.all{K:Fg}{fd:FuncData}{ps:List Str}(h:∀us:List Value,us.length=ps.length->bindArgs fd ⟨us,[]⟩=pure (ps.zip us)):Binds K fd ps []:=λs us _ hl=>by
 rw[cv]at hl ⊢
 exact .of_eq (h us hl)
noncomputable def vF(CX:nN)(X:Cx)(E:XK):Prop:=∀(pins:List (Addr×Obj)) (σ:St) (H:Hp) (s:Shared) (e:Value) (s':Shared),Inv X pins σ H s->CX X.stack H s E e s'->X.xe e s'
section
variable{X:Cx}{CX:nN}{k:Nat}{f C:Addr}{fd:FuncData}{ps:List Str}{sp:Sp}{lJ:List V}{ds:List Value}{E:XK}{x m:Str}{p pos apos:Pos}{e o:Expr}{es:List Expr}{ta:TE}{t:TA}
theorem aan{pins:List (Addr×Obj)}{σ:St}{H:Hp}{s:Shared}{Q:VK}{us:List Value}{vs:List V}(F:m5 X.prog X.w X.K X.mg X.base CX k f fd ps sp)(hr:jy k X.A)(hb:Binds X.K fd ps ds)(hd:iG lJ ds)(hx:vF CX X E)
 (I:Inv X pins σ H s) (r:iG vs us) (h:sp (vs++lJ) H Q E):wpAny (model X.prog X.w) X.A (call (.ref f) us) (EP X pins σ Q) X.xe s:=by
 have r2:iG (vs++lJ) (us++ds):=r.append hd
 have hl:(us++ds).length=ps.length:=by rw[<-r2.length];exact F.len _ _ _ _ h
 refine wpAny_call (codeAny_mono (F.run X.A X.stack s H ⟨us,[]⟩ (us++ds) (vs++lJ) Q E hr I.Eg (hb s us I.n8 hl) r2 h) λr s' hq=>?_)
 cases r with
 | error e=>exact hx pins σ H s e s' I hq
 | ok fl=>
  cases fl with
  | ret u=>exact I.after hq
  | next=>exact False.elim hq
  | brk=>exact False.elim hq
  | cont=>exact False.elim hq
theorem X8(F:m5 X.prog X.w X.K X.mg X.base CX k f fd ps sp)(hr:jy k X.A)(hg:Gl X x)(hm:X.mg x=some (.ref f))(hk:PySem.W.keepIn X.K (.ref f)=true)(hb:Binds X.K fd ps ds)(hd:iG lJ ds)(hx:vF CX X E)
 (ha:PA X (e::es) t) (oJ:(x == ("__debug__":Str))=false:=by decide) (he:starEach (e::es) X.env=(false,eval e X.env)::starEach es X.env:=by rfl) (i9:(backTo pos (starEach es X.env)).any (·.1)=false:=by rfl):
 PE X (.Call (.Name x p) (e::es) [] pos) (tG sp lJ E t):=by
 intro pins s σ H Q I h
 refine eA (zb I hg hm ?_ oJ)
 refine PySem.W.callWith_K (h₀:=X.base) I.ok.mod.kin hk (ir (ha pos pins s σ H _ I h) λus s1 ⟨vs,H1,I1,r,q⟩=>⟨I1.n8,?_⟩) he i9
 exact aan F hr hb hd hx I1 r q
structure Mk(K:Fg)(C f:Addr):Prop where
 makes:PySem.W.makesIn K C=true
 init:PySem.W.findIn K (.ref C) "__init__"=some (some (.ref f))
 fn:PySem.W.isFn K (.ref f)=true
 kp:PySem.W.keepIn K (.ref C)=true
theorem Iz{pins:List (Addr×Obj)}{σ:St}{H:Hp}{s:Shared}{Q:VK}{us:List Value}{vs:List V}(M:Mk X.K C f)(F:m5 X.prog X.w X.K X.mg X.base CX k f fd ps sp)(hr:jy (k+1) X.A)(hb:Binds X.K fd ps ds)(hd:iG lJ ds)
 (hx:vF CX X E) (I:Inv X pins σ H s) (r:iG vs us)
 (h:∀x dx,H x=none->H dx=none->dx≠x->sp (.ref x::(vs++lJ)) (upd (upd H dx (.own x)) x (.ins C dx [])) (λv H2=>v= .ia/\Q (.ref x) H2) E):
 wpAny (model X.prog X.w) X.A (call (.ref C) us) (EP X pins σ Q) X.xe s:=by
 have hq:=h (s.heap.objs.size+1) s.heap.objs.size (I.h_.fresh (Nat.le_succ _)) (I.h_.fresh (ax _)) (a9 (fV _))
 have I2:=Inv.made (C:=C) I
 have r2:iG (V.ref (s.heap.objs.size+1)::(vs++lJ)) (Value.ref (s.heap.objs.size+1)::(us++ds)):=.cons rfl (r.append hd)
 have hl:(Value.ref (s.heap.objs.size+1)::us++ds).length=ps.length:=by
  have e:=r2.length
  rw[F.len _ _ _ _ hq]at e
  exact e.symm
 refine wpAny_call (VM (f:=f) I.n8 M.makes M.init (dM.mp M.fn) (codeAny_mono (F.run _ X.stack _ _ ⟨Value.ref (s.heap.objs.size+1)::us,[]⟩ (Value.ref (s.heap.objs.size+1)::(us++ds)) _ _ E (hr.make C us [])
  (I2.Eg.make C us []) (hb _ (Value.ref (s.heap.objs.size+1)::us) I2.n8 hl) r2 hq) λr s' kg=>?_))
 cases r with
 | error e=>exact hx pins σ _ _ e s' I2 kg
 | ok fl=>
  cases fl with
  | ret u=>
   obtain⟨v,U,I3,rv,ev,q3⟩:=I2.after kg
   subst ev
   exact⟨rv,⟨V.ref (s.heap.objs.size+1),U,I3,rfl,q3⟩⟩
  | next=>exact False.elim kg
  | brk=>exact False.elim kg
  | cont=>exact False.elim kg
theorem Yh(M:Mk X.K C f)(F:m5 X.prog X.w X.K X.mg X.base CX k f fd ps sp)(hr:jy (k+1) X.A)(hg:Gl X x)(hm:X.mg x=some (.ref C))(hb:Binds X.K fd ps ds)(hd:iG lJ ds)(hx:vF CX X E)
 (oJ:(x == ("__debug__":Str))=false:=by decide):PE X (.Call (.Name x p) [] [] pos) (abD C sp lJ E pV):=by
 intro pins s σ H Q I h
 refine eA (zb I hg hm ?_ oJ)
 exact PySem.W.callWith_K0 I.n8 M.kp (Iz (us:=[]) M F hr hb hd hx I .nil h)
end
section
variable{X:Cx}{CX:nN}{k:Nat}{f C:Addr}{fd:FuncData}{ps ks:List Str}{sp:Sp}{E:XK}{x m:Str}{p pos apos acU:Pos}{e o:Expr}{es:List Expr}{kws:List Keyword}{te ta:TE}{t tk:TA}{nm:Option Str}
variable{g:List Value->List Value->List Value}{gV:List V->List V->List V}
end
structure ie(N P:List Str)(sc:Scope):Prop where
 kind:sc.kind= .function
 co:sc.isCoroutine=false
 gen:sc.isGenerator=false
 nd:N.Nodup
 pre:N.take P.length=P
 par:∀x∈P,sc.names.lookup x=some .local\/sc.names.lookup x=some .cell
 Wo:∀y∈sc.names,y.2≠.free
theorem DV{kindOf:Str->Option NameKind}{x:Str}:∀{binds:List (Str×Value)} {m:Str->Option Value},(∀v,(x,v)∉binds)->bindL kindOf binds m x=m x
 | [],_,_=>rfl
 | (n,v)::r,m,h=>by
  unfold bindL
  rw[DV λw hw=>h w (aw _ hw)]
  split
  ·have:x≠n:=by rintro rfl;exact h v aD
   simp[this]
  ·rfl
theorem DT{kindOf:Str->Option NameKind}{x:Str}:∀{binds:List (Str×Value)} {m:Str->Option Value},(∀v,(x,v)∉binds)->bindC kindOf binds m x=m x
 | [],_,_=>rfl
 | (n,v)::r,m,h=>by
  unfold bindC
  rw[DT λw hw=>h w (aw _ hw)]
  split
  ·rfl
  ·have:x≠n:=by rintro rfl;exact h v aD
   simp[this]
theorem DU{kindOf:Str->Option NameKind}{x:Str}{v:Value}:∀{P:List Str} {vs:List Value} {i:Nat} {m:Str->Option Value},P.Nodup->P[i]? =some x->vs[i]? =some v->kindOf x=some .local->
 bindL kindOf (P.zip vs) m x=some v
 | [],_,_,_,_,h,_,_=>by simp at h
 | _::_,[],_,_,_,_,h,_=>by simp at h
 | p::P,w::vs,0,m,nd,h1,h2,hk=>by
  simp at h1 h2;subst h1;subst h2
  show bindL kindOf ((p,w)::P.zip vs) m p=_
  unfold bindL
  rw[DV λv hv=>(cS.mp nd).1 (gW hv).1,aE hk]
  simp
 | p::P,w::vs,i+1,m,nd,h1,h2,hk=>by
  show bindL kindOf ((p,w)::P.zip vs) m x=_
  unfold bindL
  exact DU (i:=i) (cS.mp nd).2 (by simpa using h1) (by simpa using h2) hk
theorem DS{kindOf:Str->Option NameKind}{x:Str}{v:Value}:∀{P:List Str} {vs:List Value} {i:Nat} {m:Str->Option Value},P.Nodup->P[i]? =some x->vs[i]? =some v->kindOf x≠some .local->
 bindC kindOf (P.zip vs) m x=some v
 | [],_,_,_,_,h,_,_=>by simp at h
 | _::_,[],_,_,_,_,h,_=>by simp at h
 | p::P,w::vs,0,m,nd,h1,h2,hk=>by
  simp at h1 h2;subst h1;subst h2
  show bindC kindOf ((p,w)::P.zip vs) m p=_
  unfold bindC
  rw[DT λv hv=>(cS.mp nd).1 (gW hv).1,aq hk]
  simp
 | p::P,w::vs,i+1,m,nd,h1,h2,hk=>by
  show bindC kindOf ((p,w)::P.zip vs) m x=_
  unfold bindC
  exact DS (i:=i) (cS.mp nd).2 (by simpa using h1) (by simpa using h2) hk
noncomputable def start(N:List Str)(vs:List V):St:=vs.map some++List.replicate (N.length-vs.length) none
noncomputable def il(CX:nN)(P:Program)(w:World)(K:Fg)(mg:Str->Option Value)(base:Heap)(N:List Str)(qual:Str)(scope:Scope)(f:Addr)(cd:Value)(A:Around)(outer:List Env)(s:Shared)(H:Hp)(E:XK):Cx where
 prog:=P
 w:=w
 K:=K
 mg:=mg
 base:=base
 A:=A.deeper (envOfC qual scope s.heap.objs.size f cd)
 N:=N
 kU:=s
 r0:=H
 env:=envOfC qual scope s.heap.objs.size f cd
 outer:=outer
 stack:=envOfC qual scope s.heap.objs.size f cd::outer
 ex:=[]
 calm:=true
 fn:=λ_=>true
 pn:=[]
 xe:=λe s'=>wpAny (model P w) (A.deeper (envOfC qual scope s.heap.objs.size f cd)) («leaving» (envOfC qual scope s.heap.objs.size f cd) e) (λ_ Dg=>CX outer H s E e Dg) (λe' Dg=>CX outer H s E e' Dg) s'
theorem DY{sc:Scope}{n:Nat}{x:Str}(h:sc.names.lookup x=some .cell):∃c,(cellsFrom n sc.names []).lookup x=some c:=by
 have q:=PySem.W.cellsFrom_some sc.names n [] (.inl h)
 exact cP.mp q
theorem UK{CX:nN}{P:Program}{w:World}{K:Fg}{mg:Str->Option Value}{base:Heap}{N ps:List Str}{qual:Str}{scope:Scope}{f:Addr}{cd:Value}{A:Around}{outer:List Env}{s s1:Shared}{H:Hp}{E:XK}{us:List Value}{vs:List V}
 (S:ie N ps scope) (hd:A.handled=none) (e0:rY P w K mg base A outer s H) (hl:vs.length=ps.length) (r:iG vs us)
 (x:InCallC s s.heap.objs.size (bindL (envOfC qual scope s.heap.objs.size f cd).kindOf (ps.zip us) λ_=>none) (cellsFrom (s.heap.objs.size+1) scope.names []) (bindC (envOfC qual scope s.heap.objs.size f cd).kindOf (ps.zip us) λ_=>none) s1):
 Inv (il CX P w K mg base N qual scope f cd A outer s H E) [] (start N vs) H s1:=by
 have i9:ps.length<=N.length:=by have:=cB List.length S.pre;rw[aB]at this;omega
 obtain⟨h1,tk,rfl,hk⟩:=x.done
 have uP:∀b:Addr,b∉(il CX P w K mg base N qual scope f cd A outer s H E).ex:=λb z=>absurd (show b∈([]:List Addr) from z) (by simp)
 refine⟨⟨e0.mod,S.kind,rfl,rfl,ax _,λy z c h1 h2=>?_,λy hy=>?_,λy c _ h=>?_,λ_=>hd,Around.frames_deeper e0.frames,.inr ⟨rfl,rfl⟩,λb z=>absurd z (uP b),e0.bs,e0.qc,λb _ _=>uP b,λb z=>absurd z (uP b),e0.nV,e0.sE⟩,
  rfl,e0.bare,Un.kept hk,⟨_,x.toInCall.ns,λi y v h1 h2 h3=>?_⟩,λy c h=>⟨_,x.cell y c h⟩,e0.h_.fresh (ax _),λy c h=>?_,λp hp=>absurd (show p∈([]:List (Addr×Obj)) from hp) (by simp),e0.h_.kept hk,?_⟩
 ·exact name_of_addr x.apart (bh h1) (bh h2)
 ·have hy:scope.names.lookup y=some .cell\/scope.names.lookup y=some .free:=hy
  rcases hy with hy | hy
  ·exact DY hy
  ·exact absurd rfl (S.Wo _ (bh hy))
 ·exact aI (x.above y c (bh h))
 ·have hi:i<vs.length:=by
   unfold start at h2
   by_cases hi:i<vs.length
   ·exact hi
   ·rw[bD (by simpa using hi)]at h2
    rw[List.getElem?_replicate]at h2
    split at h2<;>cases h2
  have ha:vs[i]? =some v:=by
   unfold start at h2
   rw[cg (by simpa using hi),bN]at h2
   cases e:vs[i]? with
   | none=>rw[e]at h2;cases h2
   | some a=>rw[e]at h2;cases h2;rfl
  obtain⟨u,hu,rv⟩:=r.get ha
  have hp:ps[i]? =some y:=by
   rw[<-S.pre,List.getElem?_take_of_lt (by omega)];exact h1
  have GS:ps.Nodup:=by rw[<-S.pre];exact S.nd.sublist (List.take_sublist _ _)
  refine⟨u,rv,?_⟩
  rcases S.par y (aG hp) with k | k
  ·exact .inl ⟨k,DU GS hp hu k⟩
  ·obtain⟨c,e⟩:=DY (n:=s.heap.objs.size+1) k
   refine .inr ⟨.inl k,c,e,?_⟩
   have q:=x.cell y c e
   rw[DS GS hp hu (by show scope.names.lookup y≠_;rw[k];decide)]at q
   exact q
 ·exact e0.h_.fresh (aI (x.above y c (bh h)))
 ·unfold start
  show _=N.length
  rw[aj,ab,List.length_replicate]
  omega
theorem Q9{CX:nN}{P:Program}{w:World}{K:Fg}{mg:Str->Option Value}{base:Heap}{k:Nat}{f:Addr}{name qual:Str}{params:Arguments}{body:List Stmt}{scope:Scope}{dV kV doc pm h8 ct oc:Value}{an od:Option Addr}
 {mz:Array (Option Value)} {N ps:List Str} {sp:Sp} (lk:K.lookup f=some ⟨oc,od,.func (PySem.W.fnOf name qual params body scope dV kV doc pm an h8 ct),mz⟩) (pb:PySem.W.codeIn K h8 qual=true) (S:ie N ps scope)
 (len:∀vs H Q E,sp vs H Q E->vs.length=ps.length)
 (sH:∀(A:Around) (outer:List Env) (s:Shared) (H:Hp) (vs:List V) (Q:VK) (E:XK),jy k (A.deeper (envOfC qual scope s.heap.objs.size f h8))->sp vs H Q E->
  ∃t,md (il CX P w K mg base N qual scope f h8 A outer s H E) body t/\t {nx:=λ_ U=>Q .ia U,rt:=Q} (start N vs) H):
 m5 P w K mg base CX (k+1) f (PySem.W.fnOf name qual params body scope dV kV doc pm an h8 ct) ps sp:=by
 refine⟨len,λA outer s H args us vs Q E hr e0 hb r pD=>?_⟩
 have hl:=len _ _ _ _ pD
 have KX:K.In s.heap:=e0.mod.kin.keeps λb o e=>(e0.bs b o e).1
 have lim:s.heap.NoLimit:=e0.mod.nolimit.keeps λb o e=>(e0.bs b o e).1
 have S5:∀y∈ps.zip us,scope.names.lookup y.1=some .local\/(scope.names.lookup y.1=some .cell/\((cellsFrom (s.heap.objs.size+1) scope.names []).lookup y.1).isSome=true):=λ⟨n,v⟩ hy=>by
  rcases S.par n (gW hy).1 with q | q
  ·exact .inl q
  ·exact .inr ⟨q,PySem.W.cellsFrom_some _ _ _ (.inl q)⟩
 refine codeAny_call_function hr.depth (KX _ _ lk) rfl S.co S.gen rfl (PySem.W.codeRec_of KX pb) (hb _ _ _ _ ?_)
 refine wpAny_newFunctionEnv_cells S.kind S5 λenv he s1 x=>?_
 subst he
 refine⟨lim.keeps x.toInCall.keep,codeAny_func ?_⟩
 obtain⟨t,ht,hq⟩:=sH A outer s H vs Q E (hr.deeper _) pD
 have I:Inv (il CX P w K mg base N qual scope f h8 A outer s H E) [] (start N vs) H s1:=UK S hr.hd e0 hl r x
 refine dB (ht [] s1 (start N vs) H _ I hq) (λfl s' hs=>?_) λe s' hs=>hs
 have fin:∀{ik:St} {U:Hp} {v:V} {u:Value},Inv (il CX P w K mg base N qual scope f h8 A outer s H E) [] ik U s'->RelV v u->Q v U->CE outer P w H s Q u s':=
  λ{ik U v u} J rv q=>⟨v,U,J.os,J.bare,J.base,J.h_,rv,q⟩
 cases fl with
 | ret u=>
  obtain⟨v,ik,U,J,rv,q⟩:=hs
  exact fin J rv q
 | next=>
  obtain⟨ik,U,J,q⟩:=hs
  exact fin (v:=V.ia) (u:=Value.none) J rfl q
 | brk=>
  obtain⟨_,_,_,q⟩:=hs
  exact False.elim q
 | cont=>
  obtain⟨_,_,_,q⟩:=hs
  exact False.elim q
section
variable{X:Cx}{x:Str}{p pos:Pos}{e:Expr}{es:List Expr}{t:TA}{id T:String}{r:List V->Hp->VK->Prop}
noncomputable def Mu(r:List V->Hp->VK->Prop)(t:TA):TE:=λσ H Q=>t σ H λvs H1=>r vs H1 Q
theorem i7(hc:ma X (.builtin id) r)(hg:Gl X x)(hm:X.mg x=none)(hv:bootBuiltins x=some (.builtin id))(ha:PA X (e::es) t)(hn:x≠"__name__":=by decide)(oJ:(x == ("__debug__":Str))=false:=by decide)
 (he:starEach (e::es) X.env=(false,eval e X.env)::starEach es X.env:=by rfl) (i9:(backTo pos (starEach es X.env)).any (·.1)=false:=by rfl):PE X (.Call (.Name x p) (e::es) [] pos) (Mu r t):=by
 intro pins s σ H Q I h
 refine eA (qD I hg hm hv ?_ hn oJ)
 exact PyProof.Rows.callWith_builtin1 (ir (ha pos pins s σ H _ I h) λus s1 ⟨vs,H1,I1,r1,q1⟩=>hc pins s1 σ H1 vs us Q I1 r1 q1) he i9
theorem l7(hc:ma X (.type T) r)(hg:Gl X x)(hm:X.mg x=none)(hv:bootBuiltins x=some (.type T))(ha:PA X (e::es) t)(hn:x≠"__name__":=by decide)(oJ:(x == ("__debug__":Str))=false:=by decide)
 (he:starEach (e::es) X.env=(false,eval e X.env)::starEach es X.env:=by rfl) (i9:(backTo pos (starEach es X.env)).any (·.1)=false:=by rfl):PE X (.Call (.Name x p) (e::es) [] pos) (Mu r t):=by
 intro pins s σ H Q I h
 refine eA (qD I hg hm hv ?_ hn oJ)
 exact bK (ir (ha pos pins s σ H _ I h) λus s1 ⟨vs,H1,I1,r1,q1⟩=>hc pins s1 σ H1 vs us Q I1 r1 q1) he i9
end
end L2
namespace HT
open PySem PyProof.Rows
section
open PySem.SeqAt
open PySem.AutoSeq1 (wpAny_loadPart')
open PySem.MeetsSeq PySem.MeetsSeq2 PySem.MeetsSeq3
end
section
variable{prog:Program}{w:World}{A:Around}{E:Value->Shared->Prop}{s:Shared}
noncomputable def iS(n d:Nat):Option Int->Nat
 | none=>d
 | some v=>if v<0 then (v+(n:Int)).toNat else min v.toNat n
theorem u0(n d:Nat):iS n d none=d:=rfl
theorem tw(n d k:Nat):iS n d (some (k:Int))=min k n:=by
 show(if (k:Int)<0 then ((k:Int)+(n:Int)).toNat else min (k:Int).toNat n)=min k n
 rw[aq (by omega),b9]
theorem ID(n d:Nat)(hd:d<=n)(o:Option Int):iS n d o<=n:=by
 cases o with
 | none=>exact hd
 | some v=>
  show(if v<0 then (v+(n:Int)).toNat else min v.toNat n)<=n
  by_cases hv:v<0
  ·rw[aE hv];omega
  ·rw[aq hv];exact Nat.min_le_right _ _
end
end HT
namespace L2
open PySem PySem.Spec PyProof.Rows
noncomputable abbrev TO:=St->Hp->(Option Int->Hp->Prop)->Prop
noncomputable def PO(X:Cx)(e:Option Expr)(t:TO):Prop:=
 ∀
  (pins:List (Addr×Obj)) (s:Shared) (σ:St) (H:Hp) (Q:Option Int->Hp->Prop),Inv X pins σ H s->t σ H Q->
  wpAny (model X.prog X.w) X.A (evalPart e X.env) (λu s'=>∃o U,Inv X pins σ U s'/\IsPart u o/\Q o U) X.xe s
noncomputable def abH:TO:=λ_ H Q=>Q none H
noncomputable def Dx(t:TE):TO:=λσ H Q=>t σ H λx H1=>∃i,x= .int i/\Q (some i) H1
section
variable{X:Cx}{e:Expr}{te:TE}{lo hi:Option Expr}{tl th:TO}{pos p2:Pos}
theorem mC:PO X none abH:=by
 intro pins s σ H Q I h
 rw[evalPart_none]
 exact af ⟨none,H,I,.none,h⟩
theorem k_(h:PE X e te):PO X (some e) (Dx te):=by
 intro pins s σ H Q I hw
 rw[evalPart_some]
 refine ir (h pins s σ H _ I hw) λu s1 zq=>?_
 obtain⟨x,H1,I1,r1,q1⟩:=zq
 obtain⟨i,rfl,q⟩:=q1
 obtain⟨t,rfl⟩:=r1
 exact⟨some i,H1,I1,.int i t,q⟩
noncomputable def Am(X:Cx)(r:V->Option Int->Option Int->Hp->VK->Prop):Prop:=
 ∀
  (pins:List (Addr×Obj)) (s:Shared) (σ:St) (H:Hp) (x:V) (v vl vu:Value) (lo hi:Option Int) (sl:Addr) (Q:VK),Inv X pins σ H s->RelV x v->s.heap.IsSliceOf sl vl vu .none->IsPart vl lo->IsPart vu hi->r x lo hi H Q->
  ∃T id,typeLookup (.type T) "__getitem__"=pure (some (.builtin id))/\s.TypeIs v T/\wpAny (model X.prog X.w) X.A (getItem v (.ref sl)) (EP X pins σ Q) X.xe s
noncomputable def MC(r:V->Option Int->Option Int->Hp->VK->Prop)(te:TE)(tl th:TO):TE:=λσ H Q=>te σ H λx H1=>tl σ H1 λl H2=>th σ H2 λu H3=>r x l u H3 Q
theorem lQ{r:V->Option Int->Option Int->Hp->VK->Prop}(hr:Am X r)(he:PE X e te)(hl:PO X lo tl)(hu:PO X hi th):PE X (.Subscript e (.Slice lo hi none p2) pos) (MC r te tl th):=by
 intro pins s σ H Q I h
 refine Subscript_ (ir (he pins s σ H _ I h) λv s1 zq=>?_)
 obtain⟨x,H1,I1,r1,q1⟩:=zq
 refine wpAny_Slice (ir (hl pins s1 σ H1 _ I1 q1) λvl s2 ⟨l,H2,I2,pl,q2⟩=>ir (hu pins s2 σ H2 _ I2 q2) λvu s3 zq=>?_)
 obtain⟨u,H3,I3,pu,q3⟩:=zq
 rw[evalPart_none]
 refine af ?_
 have I4:Inv X pins σ H3 {s3 with heap:=s3.heap.push {cls:=.type "slice",data:=.fields #[vl,vu,.none]}}:=I3.kept (t':=s3.toks) λb ob q=>ag _ q
 obtain⟨T,id,hT,ht,hg⟩:=hr pins {s3 with heap:=s3.heap.push {cls:=.type "slice",data:=.fields #[vl,vu,.none]}} σ H3 x v vl vu l u s3.heap.objs.size Q I4 r1 (Heap.IsSliceOf.new ..) pl pu q3
 show wpAny (model X.prog X.w) X.A (subscriptTail e (.Slice lo hi none p2) v (.ref s3.heap.objs.size)) (EP X pins σ Q) X.xe {s3 with heap:=s3.heap.push {cls:=.type "slice",data:=.fields #[vl,vu,.none]}}
 exact tail_any (ops:=[.ref s3.heap.objs.size,v]) ht hT hg (by with_unfolding_all rfl)
noncomputable def i5(xs:List V)(lo hi:Option Int):List V:=(xs.drop (HT.iS xs.length 0 lo)).take (HT.iS xs.length xs.length hi-HT.iS xs.length 0 lo)
theorem N8(xs:List V)(lo hi:Option Int):(i5 xs lo hi).length<=xs.length:=by
 unfold i5
 rw[aB,aR]
 omega
end
noncomputable def rA(n:Nat)(i:Int):Option Nat:=if 0<=i then (if i<n then some i.toNat else none) else if -(n:Int)<=i then some (i+n).toNat else none
noncomputable def qb{α:Type}(xs:List α)(i:Int):Option α:=(rA xs.length i).bind λj=>xs[j]?
theorem UR{n:Nat}{i:Int}{j:Nat}(h:rA n i=some j):seqIndex? i n=some j/\j<n/\-(n:Int)<=i/\i<n:=by
 unfold rA at h
 by_cases h0:0<=i
 ·rw[aE h0]at h
  by_cases h1:i<n
  ·rw[aE h1]at h
   have e:i.toNat=j:=ae h
   exact⟨by rw[seqIndex_of h0 h1,e],by omega,by omega,h1⟩
  ·rw[aq h1]at h;cases h
 ·rw[aq h0]at h
  by_cases h1:-(n:Int)<=i
  ·rw[aE h1]at h
   have e:(i+n).toNat=j:=ae h
   exact⟨by rw[seqIndex_neg (by omega) h1,e],by omega,h1,by omega⟩
  ·rw[aq h1]at h;cases h
theorem DO{α:Type}{xs:List α}{i:Int}{v:α}(h:qb xs i=some v):∃j,seqIndex? i xs.length=some j/\xs[j]? =some v/\j<xs.length/\-(xs.length:Int)<=i/\i<xs.length:=by
 unfold qb at h
 cases e:rA xs.length i with
 | none=>rw[e]at h;cases h
 | some j=>
  rw[e]at h
  obtain⟨h1,h2,h3,h4⟩:=UR e
  exact⟨j,h1,h,h2,h3,h4⟩
theorem NB{α:Type}{xs:List α}{j:Nat}{v:α}(h:xs[j]? =some v):qb xs (j:Int)=some v:=by
 have hj:j<xs.length:=(bw.mp h).1
 have e:rA xs.length (j:Int)=some j:=by
  unfold rA
  rw[aE (by omega),aE (by omega)];simp
 unfold qb;rw[e];exact h
theorem DP{α:Type}(xs:List α)(v:α):qb (xs++[v]) (-1)=some v:=by
 have hl:(xs++[v]).length=xs.length+1:=by simp
 have e:rA (xs++[v]).length (-1)=some xs.length:=by
  unfold rA
  rw[hl,aq (by decide),aE (by omega)]
  congr 1
  omega
 unfold qb
 rw[e]
 show(xs++[v])[xs.length]? =some v
 simp
noncomputable def Nh(b:Expr):Prop:=∀o i,subscripted b false o i=operate [o,i] (getItem o i)
noncomputable def Af(X:Cx)(r:R2):Prop:=
 ∀
  (value slice:Expr) (pins:List (Addr×Obj)) (s:Shared) (σ:St) (H:Hp) (x y:V) (v u:Value) (Q:VK),Inv X pins σ H s->RelV x v->RelV y u->r x y H Q->
  subscripted slice false v u=operate [v,u] (getItem v u)->wpAny (model X.prog X.w) X.A (subscriptTail value slice v u) (EP X pins σ Q) X.xe s
noncomputable def xW(X:Cx)(id:String)(r:V->List V->Hp->VK->Prop):Prop:=
 ∀
  (pins:List (Addr×Obj)) (s:Shared) (σ:St) (H:Hp) (x:V) (xs:List V) (v:Value) (us:List Value) (Q:VK),Inv X pins σ H s->RelV x v->iG xs us->r x xs H Q->
  wpAny (model X.prog X.w) X.A (call (.builtin id) (v::us)) (EP X pins σ Q) X.xe s
section
variable{X:Cx}{a b:Expr}{ta tb:TE}{pos:Pos}
theorem mW{r:R2}(hr:Af X r)(ha:PE X a ta)(hb:PE X b tb)(hs:Nh b):PE X (.Subscript a b pos) (mH r ta tb):=by
 intro pins s σ H Q I h
 exact Subscript_ (Aw ha hb I h λv u s2 x y H2 I2 rx ry q=>hr a b pins s2 σ H2 x y v u Q I2 rx ry q (hs _ _))
noncomputable def C5(K:Fg):R2:=λx y H Q=>∃p xs i v,x= .ref p/\y= .int i/\f_ K H p xs/\qb xs i=some v/\Q v H
noncomputable def Ik(K:Fg):R2:=λx y H Q=>∃p xs i v,x= .ref p/\y= .int i/\iO K H p xs/\qb xs i=some v/\Q v H
theorem pE:Af X (C5 X.K):=by
 intro value slice pins s σ H x y v u Q I rx ry h hs
 obtain⟨p,xs,i,z,rfl,rfl,hq,he,q⟩:=h
 cases rx
 obtain⟨t,rfl⟩:=ry
 obtain⟨g_,r,pl,hz⟩:=I.list hq
 obtain⟨j,h1,h2,h3,h4,h5⟩:=DO he
 obtain⟨w,ew,nJ⟩:=r.get h2
 have hl:=r.length
 have hn:=uG
 have fin:EP X pins σ Q w s:=⟨z,H,I,nJ,q⟩
 by_cases h0:0<=i
 ·have hj:i.toNat=j:=by
   rw[seqIndex_of h0 h5]at h1
   exact ae h1
  exact item_listR pl.isList h0 (by omega) (by rw[hj];simpa using ew) fin hs
 ·have hj:(i+(g_.toArray.size:Int)).toNat=j:=by
   rw[seqIndex_neg (by omega) h4]at h1
   rw[aJ,<-hl]
   exact ae h1
  exact subscriptTail_builtinR (x:=w) pl.isList.typeIs slot_list_getitem.lookup
   (wpAny_getItem_list_neg (Q:=λr s'=>r=w/\EP X pins σ Q r s') pl.isList (by omega) (by rw[aJ]<;>omega) (by omega) (by rw[hj];simpa using ew) ⟨rfl,fin⟩) hs
theorem y_:Af X (Ik X.K):=by
 intro value slice pins s σ H x y v u Q I rx ry h hs
 obtain⟨p,xs,i,z,rfl,rfl,hq,he,q⟩:=h
 cases rx
 obtain⟨t,rfl⟩:=ry
 obtain⟨g_,r,pl,hz⟩:=I.tuple hq
 obtain⟨j,h1,h2,h3,h4,h5⟩:=DO he
 obtain⟨w,ew,nJ⟩:=r.get h2
 have hl:=r.length
 have hn:=uG
 have fin:EP X pins σ Q w s:=⟨z,H,I,nJ,q⟩
 exact subscriptTail_builtinR (x:=w) pl.typeIs slot_tuple_getitem.lookup
  (getItem_tuple (j:=j) (Q:=λr s'=>r=w/\EP X pins σ Q r s') pl (by omega) (by omega) (by rw[aJ,<-hl];exact h1) (by simpa using ew) ⟨rfl,fin⟩) hs
theorem abe(lo hi:Option Int)(n:Nat):(sliceBounds lo hi none n).1=((HT.iS n 0 lo:Nat):Int)/\(sliceBounds lo hi none n).2.1=((HT.iS n n hi:Nat):Int)/\(sliceBounds lo hi none n).2.2=1:=by
 refine⟨?_,?_,rfl⟩
 ·cases lo with
  | none=>simp[sliceBounds,HT.iS]
  | some i=>
   simp only[sliceBounds,HT.iS,Option.getD_none,show(1:Int)>0 by decide,dQ]
   by_cases h:i<0
   ·simp only[h,dQ]<;>omega
   ·simp only[h,bq]<;>omega
 ·cases hi with
  | none=>simp[sliceBounds,HT.iS]
  | some i=>
   simp only[sliceBounds,HT.iS,Option.getD_none,show(1:Int)>0 by decide,dQ]
   by_cases h:i<0
   ·simp only[h,dQ]<;>omega
   ·simp only[h,bq]<;>omega
theorem abd(g_:List Value)(lo hi:Option Int):slicePick g_.toArray lo hi none=((g_.drop (HT.iS g_.length 0 lo)).take (HT.iS g_.length g_.length hi-HT.iS g_.length 0 lo)).toArray:=by
 obtain⟨h1,h2,h3⟩:=abe lo hi g_.toArray.size
 unfold slicePick
 rw[h1,h2,h3]
 simp only[sliceRange_one,pick_run,aJ]<;>rfl
noncomputable def Ip(K:Fg):V->Option Int->Option Int->Hp->VK->Prop:=λx lo hi H Q=>∃a xs,x= .ref a/\f_ K H a xs/\∀p,H p=none->Q (.ref p) (upd H p (.lst (i5 xs lo hi)))
theorem mF:Am X (Ip X.K):=by
 intro pins s σ H x v vl vu lo hi sl Q I rx hs pl pu h
 obtain⟨a,xs,rfl,hx,q⟩:=h
 cases rx
 obtain⟨g_,r,ht,hz⟩:=I.list hx
 have hlen:=r.length
 refine⟨"list",_,slot_list_getitem.lookup,ht.isList.typeIs,?_⟩
 refine wpAny_getItem_list_slice ht.isList hs pl pu .none (by simp) ?_ (by rw[aJ]<;>omega)
 rw[abd,<-hlen]
 refine⟨.ref s.heap.objs.size,_,I.laid (t':=s.toks) (o:=.lst (i5 xs lo hi)) (λb ob q=>ag _ q) (ax _) ?_,rfl,q _ (I.h_.fresh (ax _))⟩
 exact⟨aN (N8 xs lo hi) hz,_,0,(r.drop (HT.iS xs.length 0 lo)).take (HT.iS xs.length xs.length hi-HT.iS xs.length 0 lo),aC _ rfl⟩
noncomputable def ng:V->Bool
 | .ia=>true
 | .bl _=>true
 | .int _=>true
 | .str _=>true
 | _=>false
noncomputable def nU:V->V->Bool
 | .ia,.ia=>true
 | .bl a,.bl b=>a == b
 | .bl a,.int b=>(if a then 1 else 0) == b
 | .int a,.bl b=>a == (if b then 1 else 0)
 | .int a,.int b=>a == b
 | .str a,.str b=>a == b
 | _,_=>false
theorem QU{A:Around}{s:Shared}{y x:V}{u v:Value}(ry:RelV y u)(rx:RelV x v)(fy:ng y=true)(fx:ng x=true):SeqAt.EqAt A s u v (nU y x):=by
 cases y with
 | ia=>
  cases ry
  cases x with
  | ia=>cases rx;exact SeqAt.EqAt.same _
  | bl b=>cases rx;exact SeqAt.EqAt.none_bool b
  | int b=>obtain⟨t,rfl⟩:=rx;exact SeqAt.EqAt.none_int b t
  | str b=>obtain⟨t,rfl⟩:=rx;exact SeqAt.EqAt.none_str b t
  | _=>exact absurd (show false=true from fx) ao
 | bl a=>
  cases ry
  cases x with
  | ia=>cases rx;exact SeqAt.EqAt.bool_none a
  | bl b=>cases rx;exact SeqAt.EqAt.bool_bool a b
  | int b=>obtain⟨t,rfl⟩:=rx;exact SeqAt.EqAt.bool_int a b t
  | str b=>obtain⟨t,rfl⟩:=rx;exact SeqAt.EqAt.bool_str a b t
  | _=>exact absurd (show false=true from fx) ao
 | int a=>
  obtain⟨t',rfl⟩:=ry
  cases x with
  | ia=>cases rx;exact SeqAt.EqAt.int_none a t'
  | bl b=>cases rx;exact SeqAt.EqAt.int_bool a t' b
  | int b=>obtain⟨t,rfl⟩:=rx;exact SeqAt.EqAt.int_int a t' b t
  | str b=>obtain⟨t,rfl⟩:=rx;exact SeqAt.EqAt.int_str a t' b t
  | _=>exact absurd (show false=true from fx) ao
 | str a=>
  obtain⟨t',rfl⟩:=ry
  cases x with
  | ia=>cases rx;exact SeqAt.EqAt.str_none a t'
  | bl b=>cases rx;exact SeqAt.EqAt.str_bool a t' b
  | int b=>obtain⟨t,rfl⟩:=rx;exact SeqAt.EqAt.str_int a t' b t
  | str b=>obtain⟨t,rfl⟩:=rx;exact SeqAt.EqAt.str_str a t' b t
  | _=>exact absurd (show false=true from fx) ao
 | _=>exact absurd (show false=true from fy) ao
noncomputable def lS(x:V)(u:Value):Bool:=match u with
 | .none=>nU .ia x
 | .bool b=>nU (.bl b) x
 | .int i _=>nU (.int i) x
 | .str z _=>nU (.str z) x
 | _=>false
theorem yr{x y:V}{u:Value}(r:RelV y u)(f:ng y=true):lS x u=nU y x:=by
 cases y with
 | ia=>cases r;rfl
 | bl b=>cases r;rfl
 | int i=>obtain⟨t,rfl⟩:=r;rfl
 | str z=>obtain⟨t,rfl⟩:=r;rfl
 | _=>exact absurd (show false=true from f) ao
theorem vJ{x:V}:∀{xs:List V} {us:List Value},iG xs us->xs.all ng=true->us.any (lS x)=xs.any λy=>nU y x
 | _,_,.nil,_=>rfl
 | y::xs,u::us,.cons r t,f=>by
  rw[ff,aZ]at f
  rw[eJ,eJ,yr r f.1,vJ t f.2]
theorem uI{A:Around}{s:Shared}{x:V}{v:Value}(rx:RelV x v)(fx:ng x=true):∀{xs:List V} {us:List Value},iG xs us->xs.all ng=true->∀u∈us,SeqAt.EqAt A s u v (lS x u)
 | _,_,.nil,_=>λu hu=>by cases hu
 | y::xs,u::us,.cons r t,f=>λu' hu=>by
  rw[ff,aZ]at f
  rcases aM.mp hu with rfl | hu
  ·rw[yr r f.1];exact QU r rx f.1 fx
  ·exact uI rx fx t f.2 u' hu
noncomputable def k7(x:V)(xs:List V):Bool:=xs.any λy=>nU y x
noncomputable def Ij(K:Fg)(neg:Bool):R2:=λx y H Q=>∃p xs,y= .ref p/\(f_ K H p xs\/iO K H p xs)/\ng x=true/\xs.all ng=true/\Q (.bl (if neg then !k7 x xs else k7 x xs)) H
theorem zF:jE X (compareOp .In) (Ij X.K false):=by
 intro pins s σ H x y v u Q I rx ry h
 obtain⟨p,xs,rfl,hq,fx,fs,q⟩:=h
 cases ry
 rcases hq with hq | hq
 ·obtain⟨g_,r,pl,hz⟩:=I.list hq
  refine SeqAt.in_listAt (lS x) pl.isList (λw hw=>uI rx fx r fs w (by simpa using hw)) ⟨.bl _,H,I,rfl,?_⟩
  rw[show g_.toArray.any (lS x)=g_.any (lS x) by simp,vJ r fs]
  exact q
 ·obtain⟨g_,r,pl,hz⟩:=I.tuple hq
  refine SeqAt.in_tupleAt (lS x) pl (λw hw=>uI rx fx r fs w (by simpa using hw)) ⟨.bl _,H,I,rfl,?_⟩
  rw[show g_.toArray.any (lS x)=g_.any (lS x) by simp,vJ r fs]
  exact q
theorem X2:jE X (compareOp .NotIn) (Ij X.K true):=by
 intro pins s σ H x y v u Q I rx ry h
 obtain⟨p,xs,rfl,hq,fx,fs,q⟩:=h
 cases ry
 rcases hq with hq | hq
 ·obtain⟨g_,r,pl,hz⟩:=I.list hq
  refine SeqAt.notIn_listAt (lS x) pl.isList (λw hw=>uI rx fx r fs w (by simpa using hw)) ⟨.bl _,H,I,rfl,?_⟩
  rw[show g_.toArray.any (lS x)=g_.any (lS x) by simp,vJ r fs]
  exact q
 ·obtain⟨g_,r,pl,hz⟩:=I.tuple hq
  refine SeqAt.notIn_tupleAt (lS x) pl (λw hw=>uI rx fx r fs w (by simpa using hw)) ⟨.bl _,H,I,rfl,?_⟩
  rw[show g_.toArray.any (lS x)=g_.any (lS x) by simp,vJ r fs]
  exact q
theorem ka:ma X (.builtin "len") (λxs H Q=>∃p ys,xs=[.ref p]/\(f_ X.K H p ys\/iO X.K H p ys)/\Q (.int ys.length) H):=by
 intro pins s σ H xs us Q I r h
 obtain⟨p,ys,rfl,hq,q⟩:=h
 obtain⟨u,rfl,rx⟩:=vals1 r
 cases rx
 have hn:=uG
 rcases hq with hq | hq
 ·obtain⟨g_,r',pl,hz⟩:=I.list hq
  have hlen:=r'.length
  exact Calls.call_len_list pl.isList (by simp only[aJ]<;>omega) ⟨.int ys.length,H,I.tok _,⟨s.toks+1,by rw[aJ,hlen]⟩,q⟩
 ·obtain⟨g_,r',pl,hz⟩:=I.tuple hq
  have hlen:=r'.length
  exact len_tuple pl (by simp only[aJ]<;>omega) ⟨.int ys.length,H,I.tok _,⟨s.toks+1,by rw[aJ,hlen]⟩,q⟩
theorem NU:ma X (.builtin "len") (λxs H Q=>∃z,xs=[.str z]/\z.length<=sizeLine/\Q (.int z.length) H):=by
 intro pins s σ H xs us Q I r h
 obtain⟨z,rfl,hz,q⟩:=h
 obtain⟨u,rfl,t,rfl⟩:=vals1 r
 have hn:=uG
 exact len_str (by omega) ⟨.int z.length,H,I.tok _,⟨_,rfl⟩,q⟩
theorem vT:ma X (.type "list") (λxs H Q=>∃p ys,xs=[.ref p]/\(f_ X.K H p ys\/iO X.K H p ys)/\∀l,H l=none->Q (.ref l) (upd H l (.lst ys))):=by
 intro pins s σ H xs us Q I r h
 obtain⟨p,ys,rfl,hq,q⟩:=h
 obtain⟨u,rfl,rx⟩:=vals1 r
 cases rx
 have fin:∀(g_:List Value),iG ys g_->ys.length<=sizeLine->∀(h':Heap) (c':Nat),(∀b o',s.heap.get? b=some o'->h'.get? b=some o')->
  h'.get? s.heap.objs.size=some {cls:=.type "list",dict:=none,data:=.seq g_.toArray c',slots:=#[]}->EP X pins σ Q (.ref s.heap.objs.size) {s with heap:=h'}:=λg_ r' hz h' c' kp e=>
  ⟨.ref s.heap.objs.size,_,I.laid (t':=s.toks) kp (ax _) (show jl X.prog X.w _ h' _ (.lst ys) from⟨hz,g_,c',r',e⟩),rfl,q _ (I.h_.fresh (ax _))⟩
 rcases hq with hq | hq
 ·obtain⟨g_,r',pl,hz⟩:=I.list hq
  have hlen:=r'.length
  obtain⟨o,ho,hc,n,hd⟩:=pl.isList
  exact call_list_seq p (.inl rfl) ho hc hd (λh' c' kp e=>fin g_ r' hz h' c' kp e) (by simp only[aJ]<;>omega)
 ·obtain⟨g_,r',pl,hz⟩:=I.tuple hq
  have hlen:=r'.length
  obtain⟨o,ho,hc,n,hd⟩:=pl
  exact call_list_seq p (.inr rfl) ho hc hd (λh' c' kp e=>fin g_ r' hz h' c' kp e) (by simp only[aJ]<;>omega)
theorem t5:ma X (.type "tuple") (λxs H Q=>∃p ys,xs=[.ref p]/\((f_ X.K H p ys/\∀l,H l=none->Q (.ref l) (upd H l (.tup ys)))\/(iO X.K H p ys/\Q (.ref p) H))):=by
 intro pins s σ H xs us Q I r h
 obtain⟨p,ys,rfl,h⟩:=h
 obtain⟨u,rfl,rx⟩:=vals1 r
 cases rx
 rcases h with⟨hq,q⟩ | ⟨hq,q⟩
 ·obtain⟨g_,r',pl,hz⟩:=I.list hq
  have hlen:=r'.length
  refine call_tuple_list pl.isList (λh' kp=>?_) (by simp only[aJ]<;>omega)
  have I1:Inv X pins σ H {s with heap:=h'}:=I.kept (t':=s.toks) kp
  have I2:Inv X pins σ (upd H h'.objs.size (.tup ys)) {s with heap:=h'.push {cls:=.type "tuple",data:=.seq g_.toArray}}:=
   I1.laid (t':=s.toks) (λb o e=>ag _ e) (ax _) (show jl X.prog X.w _ _ _ (.tup ys) from⟨hz,g_,r',IsTup.new _ _⟩)
  exact⟨.ref h'.objs.size,_,I2,rfl,q _ (I1.h_.fresh (ax _))⟩
 ·obtain⟨g_,r',pl,hz⟩:=I.tuple hq
  exact call_tuple_same pl ⟨.ref p,H,I,rfl,q⟩
noncomputable def MN(K:Fg)(T:String)(x:V)(H:Hp):Prop:=match x with
 | .str _=>T="str"
 | .int _=>T="int"
 | .ref p=>(T="list"/\∃xs,f_ K H p xs)\/(T="tuple"/\∃o,K.lookup p=some o/\o.cls= .type "tuple"/\o.dict=none)\/
  (T="dict"/\((∃kvs,H p=some (.dK kvs))\/∃kvs,H p=some (.dT kvs)))\/(T="set"/\∃S n,H p=some (.set S n))
 | _=>False
theorem ab6{pins:List (Addr×Obj)}{σ:St}{H:Hp}{s:Shared}{T:String}{x:V}{v:Value}(I:Inv X pins σ H s)(r:RelV x v)(ty:MN X.K T x H):
 s.TypeIs v T/\∀a,v= .ref a->∃ob,s.heap.get? a=some ob/\ob.dict=none:=by
 cases x with
 | str z=>
  obtain⟨t,rfl⟩:=r
  cases (show T="str" from ty)
  exact⟨typeIs_str s z t,λ_ e=>nomatch e⟩
 | int i=>
  obtain⟨t,rfl⟩:=r
  cases (show T="int" from ty)
  exact⟨typeIs_int s i t,λ_ e=>nomatch e⟩
 | ref p=>
  cases r
  rcases ty with⟨rfl,xs,hq⟩ | ⟨rfl,o,hk,hc,hd⟩ | ⟨rfl,hk⟩ | ⟨rfl,S,n,hk⟩
  ·obtain⟨g_,_,pl,_⟩:=I.list hq
   refine⟨pl.isList.typeIs,λa e=>?_⟩
   cases e
   obtain⟨o,n,e,c,hd,_⟩:=pl
   exact⟨o,e,hd⟩
  ·refine⟨⟨o,I.n8 p o hk,hc⟩,λa e=>?_⟩
   cases e
   exact⟨o,I.n8 _ o hk,hd⟩
  ·have z:∃o,s.heap.get? p=some o/\o.ExactDict:=by
    rcases hk with⟨kvs,hk⟩ | ⟨kvs,hk⟩
    ·obtain⟨_,_,_,_,o,_,_,e,ex,_⟩:=I.h_ p _ hk
     exact⟨o,e,ex⟩
    ·obtain⟨_,_,_,_,o,_,_,e,ex,_⟩:=I.h_ p _ hk
     exact⟨o,e,ex⟩
   obtain⟨o,e,ex⟩:=z
   refine⟨⟨o,e,ex.1⟩,λa e2=>?_⟩
   cases e2
   exact⟨o,e,ex.2.1⟩
  ·obtain⟨o,_,_,_,e,ex,_⟩:=I.h_ p _ hk
   refine⟨⟨o,e,ex.1⟩,λa e2=>?_⟩
   cases e2
   exact⟨o,e,ex.2.1⟩
 | _=>exact False.elim ty
noncomputable def tBM(K:Fg)(T:String)(r:V->List V->Hp->VK->Prop)(to:TE)(t:TA):TE:=λσ H Q=>to σ H λx H1=>MN K T x H1/\t σ H1 λxs H2=>r x xs H2 Q
variable{o e:Expr}{es:List Expr}{to:TE}{t:TA}{name:Str}{apos jm:Pos}{T id:String}{r:V->List V->Hp->VK->Prop}
theorem lP(pa:PlainAttrs T)(slot:Slot T name id)(uz:typeOf (.builtin id)=pure (.type "method_descriptor"))(hm:xW X id r)(ho:PE X o to)(ha:PA X (e::es) t)
 (qt:attributeBase o name X.env (eval o X.env)=eval o X.env:=by rfl)
 (SH:((backTo jm (starEach (e::es) X.env)).all (λx=>!x.1)&&(backToKw jm (keywordEach [] X.env)).all (λx=>x.1.isSome)
  &&decide ((e::es).length+([]:List Keyword).length+(if ([]:List Keyword).isEmpty then 0 else 1)<30))=true:=by rfl)
 (sL:(apos.endLine == jm.line)=true:=by rfl) (hs:starEach (e::es) X.env=(false,eval e X.env)::starEach es X.env:=by rfl) (TK:(backTo jm (starEach es X.env)).any (·.1)=false:=by rfl):
 PE X (.Call (.Attribute o name apos) (e::es) [] jm) (tBM X.K T r to t):=by
 intro pins s σ H Q I h
 refine wpAny_Call_method_late qt SH sL rfl (ir (ho pins s σ H _ I h) λv s1 zq=>?_)
 obtain⟨x,H1,I1,r1,ty,q1⟩:=zq
 obtain⟨h1,h2⟩:=ab6 I1 r1 ty
 refine⟨T,id,pa,slot,uz,h1,h2,?_⟩
 have hA:=ha jm pins s1 σ H1 _ I1 q1
 rw[hs]at hA ⊢
 refine dH (by show(false||(backTo jm (starEach es X.env)).any (·.1))=false;rw[TK]<;>rfl) (dX ?_)
 exact ir hA λus s2 ⟨vs,H2,I2,r2,q2⟩=>hm pins s2 σ H2 x vs v us Q I2 r1 r2 q2
end
noncomputable def xV(X:Cx)(id:String)(r:V->List V->Hp->VK->Prop):Prop:=
 ∀
  (pins:List (Addr×Obj)) (s:Shared) (σ:St) (H:Hp) (x:V) (xs:List V) (v:Value) (us:List Value) (Q:VK),Inv X pins σ H s->RelV x v->iG xs us->r x xs H Q->
  wpAny (model X.prog X.w) X.A (call (.builtin id) (v::us)) (EP X pins σ Q) X.xe s
theorem iG.one:∀{x:V} {us:List Value},iG [x] us->∃u,us=[u]/\RelV x u
 | _,_,.cons r .nil=>⟨_,rfl,r⟩
section
variable{X:Cx}{pins:List (Addr×Obj)}{σ:St}{H:Hp}{s:Shared}{l b:Addr}{xs ys zs:List V}
theorem Inv.ze{g_ its':List Value}{n:Nat}{f:Array Value->Array Value}{t':Nat}(I:Inv X pins σ H s)(hH:H l=some (.lst xs))
 (e:s.heap.get? l=some {cls:=.type "list",data:=.seq g_.toArray n}) (hf:f g_.toArray=its'.toArray) (hv:iG ys its') (hz:ys.length<=sizeLine):
 Inv X pins σ (upd H l (.lst ys)) {s with heap:=s.heap.update l (Obj.mapSeq f),toks:=t'}:=by
 have q:=PySem.IsL.update e f
 rw[hf]at q
 refine I.write (x:=l) (e:=l) (by rw[hH];exact trivial) (.inl rfl) (λb' u hb hu=>(Heap.get?_update_other s.heap (Obj.mapSeq f) (cJ hb)).trans hu) ⟨_,q⟩ ?_
 exact⟨hz,its',_,hv,q⟩
theorem Inv.VB{g_:List Value}{t':Nat}(I:Inv X pins σ H s)(hv:iG ys g_)(hz:ys.length<=sizeLine):
 Inv X pins σ (upd H s.heap.objs.size (.lst ys)) {s with heap:=s.heap.push {cls:=.type "list",data:=.seq g_.toArray},toks:=t'}:=
 I.laid (λ_ _ q=>ag _ q) (ax _) ⟨hz,g_,0,hv,aC _ rfl⟩
theorem Inv.fresh(I:Inv X pins σ H s):H s.heap.objs.size=none:=I.h_.fresh (ax _)
theorem Inv.sV(I:Inv X pins σ H s)(hH:H l=some (.lst xs)):xs.length<=sizeLine/\∃(g_:List Value) (n:Nat),iG xs g_/\xs.length=g_.length/\s.heap.get? l=some {cls:=.type "list",data:=.seq g_.toArray n}:=by
 obtain⟨z,g_,n,r,e⟩:=I.h_ l _ hH
 exact⟨z,g_,n,r,r.length,e⟩
theorem G6{n:Nat}(h:n<=sizeLine):Builtin.List.listTooLong n=false:=by
 unfold Builtin.List.listTooLong
 exact az (by omega)
end
section
variable{X:Cx}
noncomputable def aac:V->List V->Hp->VK->Prop:=λx vs H Q=>∃l xs y,x= .ref l/\vs=[y]/\H l=some (.lst xs)/\xs.length<sizeLine/\Q .ia (upd H l (.lst (xs++[y])))
theorem rC:xV X "list.append" aac:=by
 intro pins s σ H x vs v us Q I rx rv h
 obtain⟨l,xs,y,rfl,rfl,hH,hz,q⟩:=h
 cases rx
 obtain⟨u,rfl,ru⟩:=rv.one
 obtain⟨z,g_,n,r,hl,e⟩:=I.sV hH
 refine gw F.slot_list_append ⟨_,e,rfl⟩ F.entry_list_append (F.args_list_append_2 _ _) (PySem.list_append l g_.toArray n u (by rw[aJ];omega)) ⟨e,?_⟩
 refine⟨.ia,_,I.ze (its':=g_++[u]) hH e (by simp) (r.append (.cons ru .nil)) ?_,rfl,q⟩
 rw[aj,aA]
 omega
noncomputable def aad:V->List V->Hp->VK->Prop:=λx vs H Q=>∃l b xs zs,x= .ref l/\vs=[.ref b]/\H l=some (.lst xs)/\H b=some (.lst zs)/\xs.length+zs.length<=sizeLine/\Q .ia (upd H l (.lst (xs++zs)))
theorem GH:xV X "list.extend" aad:=by
 intro pins s σ H x vs v us Q I rx rv h
 obtain⟨l,b,xs,zs,rfl,rfl,hH,hB,hz,q⟩:=h
 cases rx
 obtain⟨u,rfl,ru⟩:=rv.one
 cases ru
 obtain⟨z,g_,n,r,hl,e⟩:=I.sV hH
 obtain⟨z2,kE,n2,r2,jd,e2⟩:=I.sV hB
 have hsz:g_.toArray.size+kE.toArray.size<=sizeLine:=by rw[aJ,aJ];omega
 have Bm:¬(!g_.toArray.isEmpty&&Builtin.List.listTooLong (g_.toArray.size+kE.toArray.size))=true:=by
  rw[G6 hsz,Bool.and_false]
  exact ao
 refine gw F.slot_list_extend ⟨_,e,rfl⟩ F.entry_list_extend (F.args_list_extend_2 _ _)
  (AutoSeq1.list_extend_list_list_0 l g_.toArray n b kE.toArray n2 Bm (by rw[aJ];omega) (by omega)) ⟨e,e2,?_⟩
 refine⟨.ia,_,I.ze (its':=g_++kE) hH e (by simp) (r.append r2) ?_,rfl,q⟩
 rw[aj]
 omega
noncomputable def Ii:R2:=λx y H Q=>∃l b xs zs,x= .ref l/\y= .ref b/\H l=some (.lst xs)/\H b=some (.lst zs)/\xs.length+zs.length<=sizeLine/\∀p,H p=none->Q (.ref p) (upd H p (.lst (xs++zs)))
theorem kS:jE X (binaryOp .Add) Ii:=by
 intro pins s σ H x y v u Q I rx ry h
 obtain⟨l,b,xs,zs,rfl,rfl,hH,hB,hz,q⟩:=h
 cases rx
 cases ry
 obtain⟨z,g_,n,r,hl,e⟩:=I.sV hH
 obtain⟨z2,kE,n2,r2,jd,e2⟩:=I.sV hB
 refine PySem.P.add_list e e2 ?_ (by rw[aJ,aJ];omega)
 have ea:g_.toArray++kE.toArray=(g_++kE).toArray:=by simp
 rw[ea]
 exact⟨.ref _,_,I.VB (t':=s.toks) (r.append r2) (by rw[aj];omega),rfl,q _ I.fresh⟩
end
section
variable{prog:Program}{w:World}{A:Around}{E:Value->Shared->Prop}{s:Shared}
set_option maxRecDepth 100000 in
end
section
variable{X:Cx}
end
theorem iG.ints:∀{ns:List Int} {us:List Value},iG (ns.map V.int) us->IntsAre us ns
 | [],us,h=>by
  rw[dY]at h
  cases h
  exact IntsAre.nil
 | n::ns,us,h=>by
  rw[aO]at h
  cases h with
  | cons r t=>
   obtain⟨k,rfl⟩:=r
   exact IntsAre.cons n k (iG.ints t)
theorem iG.Ax:∀{bs:List Bool} {us:List Value},iG (bs.map V.bl) us->us=bs.map Value.bool
 | [],us,h=>by
  rw[dY]at h
  cases h
  rfl
 | b::bs,us,h=>by
  rw[aO]at h
  cases h with
  | cons r t=>
   cases r
   rw[iG.Ax t,aO]
theorem iG.zP{a:Addr}{us:List Value}(r:iG [V.ref a] us):us=[Value.ref a]:=by
 cases r with
 | cons r t=>
  cases t
  cases r
  rfl
section
variable{prog:Program}{w:World}{A:Around}{E:Value->Shared->Prop}{s:Shared}{l:Addr}{g_:List Value}{ns:List Int}{Q:Value->Shared->Prop}
theorem abn(hh:A.handled=none)(hl:s.heap.IsList l g_.toArray)(hi:IntsAre g_ ns)
 (h:∀h' tk t',(∀b o,s.heap.get? b=some o->h'.get? b=some o)->Q (.int ns.sum t') {s with heap:=h',toks:=tk}):wpAny (model prog w) A (call (.builtin "sum") [.ref l]) Q E s:=by
 obtain⟨xs,e⟩:=hi.allInts.items
 have hn:numsOf (intItems xs).toList=ns:=by rw[<-e];exact hi.numsOf
 rw[nums_intItems]at hn
 rw[e]at hl
 refine PySem.sum_intListG hh hl λh' tk t' hk=>?_
 have:=h h' tk t' hk
 rw[preSum_eq,cu (by simp),hn];exact this
end
section
variable{X:Cx}
noncomputable def aai(K:Fg):List V->Hp->VK->Prop:=λvs H Q=>∃(a:Addr) (ns:List Int),vs=[V.ref a]/\f_ K H a (ns.map V.int)/\Q (.int ns.sum) H
theorem N6(hc:X.calm=true):ma X (.builtin "sum") (aai X.K):=by
 intro pins s σ H vs us Q I r h
 obtain⟨a,ns,rfl,hs,q⟩:=h
 obtain⟨g_,rv,hl,_⟩:=I.list hs
 rw[iG.zP r]
 exact abn (I.ok.hd hc) hl.isList rv.ints λh' tk t' hk=>⟨.int _,H,I.kept hk,⟨_,rfl⟩,q⟩
end
section
variable{X:Cx}
noncomputable def aaf(K:Fg):V->List V->Hp->VK->Prop:=λx xs H Q=>∃(a:Addr) (ys:List V) (y:V) (j:Nat) (z:V),x=V.ref a/\xs=[y]/\f_ K H a ys/\ng y=true/\ys.all ng=true/\ys[j]? =some z/\nU z y=true/\
 (∀(m:Nat) (z':V),m<j->ys[m]? =some z'->nU z' y=false)/\Q (.int (j:Nat)) H
theorem Es{ys:List V}(f:ys.all ng=true){j:Nat}{z:V}(h:ys[j]? =some z):ng z=true:=cx.mp f z (aG h)
theorem w_:xW X "list.index" (aaf X.K):=by
 intro pins s σ H x xs v us Q I rx rxs h
 obtain⟨a,ys,y,j,z,rfl,rfl,hs,fy,A4,hz,y6,rf,q⟩:=h
 cases rx
 cases rxs with
 | cons ry rt=>
  rename_i uy ut
  cases rt
  obtain⟨g_,rv,⟨⟨cls,dd,data,sl⟩,n,ho,hc,hdn,hd⟩,hlen⟩:=I.list hs
  simp only at hc hd
  subst hc hd
  obtain⟨u,hu,ru⟩:=rv.get hz
  obtain⟨yO,SW⟩:=bw.mp hu
  have hvl:=rv.length
  have hj:j<g_.toArray.size:=by simpa using yO
  have qz:=gE
  refine gw cV ⟨_,ho,rfl⟩ PySem.F.entry_list_index (PySem.F.args_list_index_2 _ _)
   (SeqAt.list_indexAt a g_.toArray n dd sl uy (lS y) j hj (by omega) ?_ ?_) ⟨ho,λu' Ug=>uI ry fy rv A4 u' (by simpa using Ug),?_⟩
  ·have e1:g_.toArray[j]=u:=by simpa using SW
   rw[e1,yr ru (Es A4 hz)]
   exact y6
  ·intro m hm Tj
   have pB:m<g_.length:=by simpa using hm
   have To:m<ys.length:=by omega
   have BP:ys[m]? =some ys[m]:=ay To
   obtain⟨u2,sR,xG⟩:=rv.get BP
   obtain⟨_,Th⟩:=bw.mp sR
   have e1:g_.toArray[m]=u2:=by simpa using Th
   rw[e1,yr xG (Es A4 BP)]
   exact rf m _ Tj BP
  ·exact⟨.int (j:Nat),H,I.tok _,⟨_,rfl⟩,q⟩
end
section
variable{X:Cx}
end
theorem BY{prog:Program}{w:World}{A:Around}{E:Value->Shared->Prop}{s:Shared}{l:Addr}{items:Array Value}{Q:Value->Shared->Prop}(hl:s.heap.IsList l items)
 (h:∀kO:Shared,kO={s with heap:=s.heap.push {cls:=.type "list_iterator",data:=.fields #[.ref l,.int 0 0]}}->
  (kO.heap.IsListIter s.heap.objs.size l 0/\kO.heap.IsList l items)->l≠s.heap.objs.size->Q (.ref s.heap.objs.size) kO):wpAny (model prog w) A (pyIter (.ref l)) Q E s:=by
 have iP:l<s.heap.objs.size:=by obtain⟨_,e,_⟩:=hl;exact aF e
 exact wpAny_pyIter_list hl (h _ rfl ⟨⟨_,aC _ rfl,rfl,rfl⟩,hl.push _⟩ (a9 iP))
theorem MH{prog:Program}{w:World}{A:Around}{bs:List Bool}{g_:List Value}(e:g_=bs.map Value.bool):
 TruthOf prog w A (λi v=>g_.toArray[i]? =some v) (λi=>bs.getD i false):=λi v s Q E hv hq=>by
 have oP:g_[i]? =some v:=by simpa using hv
 rw[e,bN]at oP
 obtain⟨b,hb,rfl⟩:=fD.mp oP
 have hg:bs.getD i false=b:=by rw[bE,hb]<;>rfl
 have kg:Q (bs.getD i false) s:=hq
 rw[hg]at kg
 exact cK kg
theorem any_range:∀bs:List Bool,(List.range bs.length).any (λi=>bs.getD i false)=bs.any id
 | []=>rfl
 | b::bs=>by
  rw[ai,List.range_succ_eq_map,eJ,fE,eJ,<-any_range bs]
  all_goals rfl
theorem all_range:∀bs:List Bool,(List.range bs.length).all (λi=>bs.getD i false)=bs.all id
 | []=>rfl
 | b::bs=>by
  rw[ai,List.range_succ_eq_map,ff,gq,ff,<-all_range bs]
  all_goals rfl
section
variable{X:Cx}
noncomputable def aaa(K:Fg):List V->Hp->VK->Prop:=λvs H Q=>∃(a:Addr) (bs:List Bool),vs=[V.ref a]/\f_ K H a (bs.map V.bl)/\Q (.bl (bs.any id)) H
noncomputable def Z_(K:Fg):List V->Hp->VK->Prop:=λvs H Q=>∃(a:Addr) (bs:List Bool),vs=[V.ref a]/\f_ K H a (bs.map V.bl)/\Q (.bl (bs.all id)) H
theorem yj(hc:X.calm=true):ma X (.builtin "any") (aaa X.K):=by
 intro pins s σ H vs us Q I r h
 obtain⟨a,bs,rfl,hs,q⟩:=h
 obtain⟨g_,rv,hl,_⟩:=I.list hs
 rw[iG.zP r]
 have hb:=rv.Ax
 refine call_any_walk (BY hl.isList λkO e2 st iJ=>?_)
 subst e2
 refine⟨_,_,_,_,_,_,_,rfl,Walks.list (A:=X.A.in1) (I.ok.hd hc) _ a iJ g_.toArray,st,MH hb,λh' tk hk=>?_⟩
 refine⟨.bl _,H,I.kept λb o eo=>hk b o (λke=>?_) (ag _ eo),?_,q⟩
 ·rcases aM.mp ke with e1 | ke
  ·exact absurd (e1▸aF eo) (cO _)
  ·cases ke
 ·show Value.bool _=Value.bool _
  rw[<-any_range,hb,aJ,ab]
theorem AH(hc:X.calm=true):ma X (.builtin "all") (Z_ X.K):=by
 intro pins s σ H vs us Q I r h
 obtain⟨a,bs,rfl,hs,q⟩:=h
 obtain⟨g_,rv,hl,_⟩:=I.list hs
 rw[iG.zP r]
 have hb:=rv.Ax
 refine call_all_walk (BY hl.isList λkO e2 st iJ=>?_)
 subst e2
 refine⟨_,_,_,_,_,_,_,rfl,Walks.list (A:=X.A.in1) (I.ok.hd hc) _ a iJ g_.toArray,st,MH hb,λh' tk hk=>?_⟩
 refine⟨.bl _,H,I.kept λb o eo=>hk b o (λke=>?_) (ag _ eo),?_,q⟩
 ·rcases aM.mp ke with e1 | ke
  ·exact absurd (e1▸aF eo) (cO _)
  ·cases ke
 ·show Value.bool _=Value.bool _
  rw[<-all_range,hb,aJ,ab]
end
mutual
inductive Dp(K:Fg)(H:Hp):V->PyData->Prop
 | ia:Dp K H .ia .none
 | bl (b:Bool):Dp K H (.bl b) (.bool b)
 | int (i:Int):Dp K H (.int i) (.int i)
 | str (x:Str):Dp K H (.str x) (.str x)
 | lst {a:Addr} {xs:List V} {ds:List PyData}:f_ K H a xs->rX K H xs ds->Dp K H (.ref a) (.list ds)
 | tup {a:Addr} {xs:List V} {ds:List PyData}:iO K H a xs->rX K H xs ds->Dp K H (.ref a) (.tuple ds)
inductive rX(K:Fg)(H:Hp):List V->List PyData->Prop
 | nil:rX K H [] []
 | cons {v:V} {vs:List V} {d:PyData} {ds:List PyData}:Dp K H v d->rX K H vs ds->rX K H (v::vs) (d::ds)
end
section
variable{X:Cx}{pins:List (Addr×Obj)}{σ:St}{H:Hp}{s:Shared}
mutual
theorem Dp.reads(I:Inv X pins σ H s):∀(d:PyData) (v:V) (u:Value),Dp X.K H v d->RelV v u->∃as,Reads s.heap u d as
 | .none,_,_,h,r=>by
  cases h
  cases r
  exact⟨_,Reads.none⟩
 | .bool b,_,_,h,r=>by
  cases h
  cases r
  exact⟨_,Reads.bool b⟩
 | .int i,_,_,h,r=>by
  cases h
  obtain⟨t,rfl⟩:=r
  exact⟨_,Reads.int i t⟩
 | .str x,_,_,h,r=>by
  cases h
  obtain⟨t,rfl⟩:=r
  exact⟨_,Reads.str x t⟩
 | .list ds,_,_,h,r=>by
  cases h with
  | lst hs ha=>
   cases r
   obtain⟨g_,rv,⟨o,n,ho,hc,_,hd⟩,_⟩:=I.list hs
   obtain⟨as,hr⟩:=Dp.readsAll I ds _ g_ ha rv
   exact⟨_,Reads.list ho hc hd hr⟩
 | .tuple ds,_,_,h,r=>by
  cases h with
  | tup hs ha=>
   cases r
   obtain⟨g_,rv,⟨o,ho,hc,n,hd⟩,_⟩:=I.tuple hs
   obtain⟨as,hr⟩:=Dp.readsAll I ds _ g_ ha rv
   exact⟨_,Reads.tuple ho hc hd hr⟩
 | .dict _,_,_,h,_=>by cases h
theorem Dp.readsAll(I:Inv X pins σ H s):∀(ds:List PyData) (vs:List V) (us:List Value),rX X.K H vs ds->iG vs us->∃as,ReadsAll s.heap us ds as
 | [],_,_,h,r=>by
  cases h
  cases r
  exact⟨_,ReadsAll.nil⟩
 | d::ds,_,_,h,r=>by
  cases h with
  | cons h1 h2=>
   cases r with
   | cons r1 r2=>
    obtain⟨as,q1⟩:=Dp.reads I d _ _ h1 r1
    obtain⟨bs,q2⟩:=Dp.readsAll I ds _ _ h2 r2
    exact⟨_,ReadsAll.cons q1 q2⟩
end
end
section
variable{X:Cx}
noncomputable def C4(K:Fg):R2:=λx y H Q=>∃d e,Dp K H x d/\Dp K H y e/\SeqAt.shaped d=true/\SeqAt.shaped e=true/\Q (.bl (PyData.eqv d e)) H
noncomputable def Im(K:Fg):R2:=λx y H Q=>∃d e,Dp K H x d/\Dp K H y e/\SeqAt.shaped d=true/\SeqAt.shaped e=true/\Q (.bl (!PyData.eqv d e)) H
theorem zD(hu:X.A.units+64<cLine):jE X (compareOp .Eq) (C4 X.K):=by
 intro pins s σ H x y v u Q I rx ry h
 obtain⟨d,e,hd,he,sd,se,q⟩:=h
 obtain⟨as,r1⟩:=Dp.reads I d x v hd rx
 obtain⟨bs,r2⟩:=Dp.reads I e y u he ry
 exact SeqAt.compareEq_shaped r1 r2 sd se hu ⟨.bl _,H,I,rfl,q⟩
theorem X1(hu:X.A.units+64<cLine):jE X (compareOp .NotEq) (Im X.K):=by
 intro pins s σ H x y v u Q I rx ry h
 obtain⟨d,e,hd,he,sd,se,q⟩:=h
 obtain⟨as,r1⟩:=Dp.reads I d x v hd rx
 obtain⟨bs,r2⟩:=Dp.reads I e y u he ry
 exact SeqAt.compareNe_shaped r1 r2 sd se hu ⟨.bl _,H,I,rfl,q⟩
end
noncomputable abbrev DH(h:Heap)(c:Addr)(v:Option Value):Prop:=h.IsCell c v
noncomputable def aak(scope sc:Scope):Scope:=
 {scope with names:=scope.names.map λ(n,k)=>if (k == .free&&sc.kind == .function&&sc.names.lookup n == some .cell) then (n,.cell) else (n,k)}
noncomputable def kI(cells:List (Str×Addr)):List (Str×NameKind)->List (Str×Addr)->List (Str×Addr)
 | [],acc=>acc
 | (n,k)::r,acc=>if k == .free then kI cells r ((n,(cells.lookup n).getD 0)::acc) else kI cells r acc
theorem D0(env:Env)(f:Str×NameKind->List (Str×Addr)->Sem (ForInStep (List (Str×Addr))))
 (hf:∀n k c,f (n,k) c=if k == .free then (do let a <-cellOf env n;pure (.yield ((n,a)::c))) else pure (.yield c)):
 ∀(names:List (Str×NameKind)) (acc:List (Str×Addr)),(∀y∈names,y.2= .free->∃c,env.cells.lookup y.1=some c)->forIn names acc f=pure (kI env.cells names acc)
 | [],acc,_=>by rw[d8];rfl
 | (n,k)::r,acc,h=>by
  rw[eE,hf]
  have ih:=λacc=>D0 env f hf r acc λy hy=>h y (aw _ hy)
  unfold kI
  by_cases hk:(k == NameKind.free)=true
  ·rw[aE hk,aE hk]
   obtain⟨c,hc⟩:=h (n,k) aD (by simpa using hk)
   have e:cellOf env n=pure c:=by unfold cellOf;rw[hc]
   rw[e]
   have e2:(env.cells.lookup n).getD 0=c:=by rw[hc];rfl
   rw[e2]
   exact ih _
  ·rw[aq hk,aq hk]
   exact ih _
theorem N1{scope:Scope}{env:Env}(h:∀y∈scope.names,y.2= .free->∃c,env.cells.lookup y.1=some c):closureFor scope env=pure (kI env.cells scope.names []):=by
 simp only[closureFor]
 rw[D0 env _ (λn k c=>rfl) scope.names [] h]
 rfl
theorem mem_lookup{α:Type}:∀{l:List (Str×α)} {n:Str} {c:α},(n,c)∈l->∃c',l.lookup n=some c'
 | (k,v)::r,n,c,h=>by
  rw[dJ]
  cases hb:n == k with
  | true=>exact⟨_,rfl⟩
  | false=>
   rcases aM.mp h with e | h
   ·cases e;simp at hb
   ·exact mem_lookup h
theorem yi{cells:List (Str×Addr)}:∀{names:List (Str×NameKind)} {acc:List (Str×Addr)} {n:Str} {c:Addr},(n,c)∈kI cells names acc->(n,c)∈acc\/((n,.free)∈names/\c=(cells.lookup n).getD 0)
 | [],_,_,_,h=>.inl h
 | (m,k)::r,acc,n,c,h=>by
  unfold kI at h
  split at h
  ·rename_i hk
   have hk:k= .free:=by simpa using hk
   rcases yi h with h | ⟨h1,h2⟩
   ·rcases aM.mp h with e | h
    ·cases e;exact .inr ⟨hk▸aD,rfl⟩
    ·exact .inl h
   ·exact .inr ⟨aw _ h1,h2⟩
  ·rcases yi h with h | ⟨h1,h2⟩
   ·exact .inl h
   ·exact .inr ⟨aw _ h1,h2⟩
theorem AF{cells:List (Str×Addr)}:∀{names:List (Str×NameKind)} {acc:List (Str×Addr)} {p:Str×Addr},p∈acc->p∈kI cells names acc
 | [],_,_,h=>h
 | (m,k)::r,acc,p,h=>by
  unfold kI
  split
  ·exact AF (aw _ h)
  ·exact AF h
theorem AG{cells:List (Str×Addr)}:∀{names:List (Str×NameKind)} {acc:List (Str×Addr)} {n:Str},(n,.free)∈names->(n,(cells.lookup n).getD 0)∈kI cells names acc
 | (m,k)::r,acc,n,h=>by
  unfold kI
  rcases aM.mp h with e | h
  ·cases e
   exact AF aD
  ·split
   ·exact AG h
   ·exact AG h
theorem vU:∀{names:List (Str×NameKind)} {h:Heap} {acc:List (Str×Addr)} {x:Str} {c:Addr},(x,c)∈cellsFrom h.objs.size names acc->
 (x,c)∈acc\/((x,.cell)∈names/\h.objs.size<=c/\DH (pushCells h names) c none)
 | [],_,_,_,_,h=>.inl h
 | (n,k)::r,h,acc,x,c,hm=>by
  unfold cellsFrom at hm
  unfold pushCells
  split at hm
  ·rename_i hk
   rw[aE hk]
   have hk:k= .cell:=by simpa using hk
   rw[<-bC h {cls:=.type "cell",data:=.cell none}]at hm
   rcases vU hm with hm | ⟨h1,h2,h3⟩
   ·rcases aM.mp hm with e | hm
    ·cases e
     exact .inr ⟨hk▸aD,ax _,_,gg r _ _ _ (aC _ rfl),rfl⟩
    ·exact .inl hm
   ·rw[bC]at h2
    exact .inr ⟨aw _ h1,fF h2,h3⟩
  ·rename_i hk
   rw[aq hk]
   rcases vU hm with hm | ⟨h1,h2,h3⟩
   ·exact .inl hm
   ·exact .inr ⟨aw _ h1,h2,h3⟩
theorem yh:∀{names:List (Str×NameKind)} {n:Nat} {acc:List (Str×Addr)} {p:Str×Addr},p∈acc->p∈cellsFrom n names acc
 | [],_,_,_,h=>h
 | (m,k)::r,n,acc,p,h=>by
  unfold cellsFrom
  split
  ·exact yh (aw _ h)
  ·exact yh h
theorem AD:∀{names:List (Str×NameKind)} {n:Nat} {acc:List (Str×Addr)} {x:Str},(x,.cell)∈names->∃c,(x,c)∈cellsFrom n names acc
 | (m,k)::r,n,acc,x,h=>by
  unfold cellsFrom
  rcases aM.mp h with e | h
  ·cases e
   exact⟨n,yh aD⟩
  ·split
   ·exact AD h
   ·exact AD h
theorem AE:∀{names:List (Str×NameKind)} {h:Heap} {acc:List (Str×Addr)} {x y:Str} {c:Addr},(∀p∈acc,p.2<h.objs.size)->(∀x y c,(x,c)∈acc->(y,c)∈acc->x=y)->
 (x,c)∈cellsFrom h.objs.size names acc->(y,c)∈cellsFrom h.objs.size names acc->x=y
 | [],_,_,_,_,_,_,hi,h1,h2=>hi _ _ _ h1 h2
 | (n,k)::r,h,acc,x,y,c,hl,hi,h1,h2=>by
  unfold cellsFrom at h1 h2
  split at h1
  ·rename_i hk
   rw[aE hk]at h2
   rw[<-bC h {cls:=.type "cell",data:=.cell none}]at h1 h2
   refine AE (h:=h.push _) (λp hp=>?_) (λx y c a b=>?_) h1 h2
   ·rw[bC]
    rcases aM.mp hp with rfl | hp
    ·exact fV _
    ·exact gF (hl p hp)
   ·rcases aM.mp a with e | a<;>rcases aM.mp b with e' | b
    ·cases e;cases e';rfl
    ·cases e;exact absurd (hl _ b) (cO _)
    ·cases e';exact absurd (hl _ a) (cO _)
    ·exact hi _ _ _ a b
  ·rename_i hk
   rw[aq hk]at h2
   exact AE hl hi h1 h2
theorem Wh{M:Model}{A:Around}{E:Value->Shared->Prop}{s:Shared}{scope:Scope}{globals:Addr}{closure:List (Str×Addr)}{qual:Str}{func:Option Addr}{code:Value}{around:Env}{builtins:Addr}{Q:Env->Shared->Prop}
 (h:Q (newEnv scope s.heap.objs.size globals (cellsFrom (s.heap.objs.size+1) scope.names closure) qual func code (some around) builtins)
  {s with heap:=pushCells (s.heap.push {cls:=.type "dict",data:=.dict #[]}) scope.names}):
 wpAny M A (newFunctionEnv scope globals closure [] qual func code (some around) builtins) Q E s:=by
 simp only[newFunctionEnv,Option.isSome_some,dQ]
 refine aa (wpAny_alloc ?_)
 refine aa (wpAny_layCells _ (λn k c=>rfl) scope.names closure _ _ ?_)
 rw[show({s with heap:=s.heap.push {cls:=.type "dict",data:=.dict #[]}}:Shared).heap.objs.size=s.heap.objs.size+1 from bC ..]
 rw[d8]
 exact aa (af (af h))
theorem Cb{sc:Scope}:∀{names:List (Str×NameKind)} {x:Str} {k:NameKind},
 (names.map λ(n,k)=>if (k == NameKind.free&&sc.kind == .function&&sc.names.lookup n == some .cell) then (n,NameKind.cell) else (n,k)).lookup x=some k->
 ∃k',names.lookup x=some k'/\(k=k'\/(k'= .free/\k= .cell))
 | [],_,_,h=>by simp at h
 | (n,k₀)::r,x,k,h=>by
  have ih:=@Cb sc r x k
  have h':List.lookup x ((if (k₀ == NameKind.free&&sc.kind == .function&&sc.names.lookup n == some .cell)=true then (n,NameKind.cell) else (n,k₀))::(r.map _))=some k:=h
  cases hx:x == n with
  | true=>
   simp only[dJ,hx]
   by_cases hc:(k₀ == NameKind.free&&sc.kind == .function&&sc.names.lookup n == some .cell)=true
   ·rw[aE hc]at h'
    simp only[dJ,hx]at h'
    cases h'
    simp only[aZ,dM]at hc
    exact⟨k₀,rfl,.inr ⟨hc.1.1,rfl⟩⟩
   ·rw[aq hc]at h'
    simp only[dJ,hx]at h'
    cases h'
    exact⟨_,rfl,.inl rfl⟩
  | false=>
   simp only[dJ,hx]
   by_cases hc:(k₀ == NameKind.free&&sc.kind == .function&&sc.names.lookup n == some .cell)=true
   ·rw[aE hc]at h'
    simp only[dJ,hx]at h'
    exact ih h'
   ·rw[aq hc]at h'
    simp only[dJ,hx]at h'
    exact ih h'
structure vm(N:List Str)(sc scope:Scope)(own:List (Str×Nat)):Prop where
 kind:scope.kind= .function
 uniq:∀y∈scope.names,scope.names.lookup y.1=some y.2
 ix:∀p∈own,N[p.2]? =some p.1
 free:∀y∈scope.names,y.2= .free->sc.names.lookup y.1=some .cell\/sc.names.lookup y.1=some .free
 own:∀y∈scope.names,y.2= .local\/y.2= .cell->y.1∈own.map (·.1)\/y.1∉N
noncomputable def wipe(σ:St):List Nat->St
 | []=>σ
 | v::vs=>(wipe σ vs).set v none
theorem DC(σ:St):∀vs:List Nat,(wipe σ vs).length=σ.length
 | []=>rfl
 | v::vs=>by unfold wipe;rw[List.length_set,DC σ vs]
theorem DD{σ:St}{i:Nat}{x:V}:∀{vs:List Nat},(wipe σ vs)[i]? =some (some x)->σ[i]? =some (some x)/\i∉vs
 | [],h=>⟨h,by simp⟩
 | v::vs,h=>by
  unfold wipe at h
  by_cases hi:v=i
  ·subst hi
   by_cases hv:v<(wipe σ vs).length
   ·rw[fB hv]at h;cases h
   ·rw[List.getElem?_eq_none (by simpa using hv)]at h;cases h
  ·rw[f7 hi]at h
   obtain⟨h1,h2⟩:=DD h
   exact⟨h1,by simp only[aM,not_or];exact⟨λe=>hi e.symm,h2⟩⟩
noncomputable abbrev Cx.kZ(X:Cx)(s:Shared)(H:Hp)(scope:Scope)(jF:Env)(fp:List Addr):Cx:={X with kU:=s,r0:=H,env:=jF,outer:=X.stack,ex:=fp,fn:=λx=>scope.names.lookup x == some .cell,pn:=[],xe:=λ_ _=>False}
section
variable{X:Cx}{pins:List (Addr×Obj)}{σ:St}{H:Hp}{s:Shared}
theorem NQ{scope:Scope}{own:List (Str×Nat)}{fp:List Addr}(I:Inv X pins σ H s)(ok:vm X.N X.env.scope scope own)(hN:X.N.Nodup)(nZ:∀b∈fp,m6 X pins H b/\b<s.heap.objs.size):
 Inv (X.kZ s H scope (compEnvC scope (cellsFrom (s.heap.objs.size+1) scope.names (kI X.env.cells scope.names [])) s.heap.objs.size X.env) fp) [] (wipe σ (own.map (·.2))) H {s with heap:=pushCells (s.heap.push {cls:=.type "dict",data:=.dict #[]}) scope.names}:=by
 have uk:∀y∈scope.names,y.2= .free->∃c,X.env.cells.lookup y.1=some c:=λy hy e=>by
  rcases ok.free y hy e with k | k
  ·exact I.ok.has _ (.inl k)
  ·exact I.ok.has _ (.inr k)
 generalize wg:compEnvC scope (cellsFrom (s.heap.objs.size+1) scope.names (kI X.env.cells scope.names [])) s.heap.objs.size X.env=jF
 have kp:∀b o,s.heap.get? b=some o->(pushCells (s.heap.push {cls:=.type "dict",data:=.dict #[]}) scope.names).get? b=some o:=λb o e=>gg _ _ _ _ (ag _ e)
 have hL:jF.locals=s.heap.objs.size:=by rw[<-wg];rfl
 have mh:jF.cells=cellsFrom (s.heap.objs.size+1) scope.names (kI X.env.cells scope.names []):=by rw[<-wg];rfl
 have BH:jF.scope=aak scope X.env.scope:=by rw[<-wg];rfl
 rw[<-bC s.heap {cls:=.type "dict",data:=.dict #[]}]at mh
 have cm:∀{y c},(y,c)∈kI X.env.cells scope.names []->X.env.cells.lookup y=some c/\c<s.heap.objs.size:=λ{y c} hm=>by
  rcases yi hm with hm | ⟨h1,rfl⟩
  ·cases hm
  ·obtain⟨c,hc⟩:=uk _ h1 rfl
   rw[hc]
   obtain⟨w,z⟩:=I.cell _ _ hc
   exact⟨rfl,z.lt⟩
 have mem:∀{y c},jF.cells.lookup y=some c->(X.env.cells.lookup y=some c/\c<s.heap.objs.size)\/(s.heap.objs.size+1<=c/\DH (pushCells (s.heap.push {cls:=.type "dict",data:=.dict #[]}) scope.names) c none):=λ{y c} e=>by
  rw[mh]at e
  rcases vU (bh e) with hm | ⟨_,h2,h3⟩
  ·exact .inl (cm hm)
  ·rw[bC]at h2;exact .inr ⟨h2,h3⟩
 have look:∀{y},scope.names.lookup y=some .free->∃c,jF.cells.lookup y=some c/\X.env.cells.lookup y=some c:=λ{y} hl=>by
  have hy:(y,NameKind.free)∈scope.names:=bh hl
  obtain⟨c',e'⟩:=mem_lookup (yh (names:=scope.names) (n:=(s.heap.push {cls:=.type "dict",data:=.dict #[]}).objs.size) (AG (cells:=X.env.cells) (acc:=[]) hy))
  rw[<-mh]at e'
  refine⟨c',e',?_⟩
  rw[mh]at e'
  rcases vU (bh e') with hm | ⟨h1,_,_⟩
  ·exact(cm hm).1
  ·have:=ok.uniq _ h1
   rw[hl]at this;cases this
 have WR:(X.kZ s H scope jF fp).Ok:=by
  refine⟨I.ok.mod,by show jF.scope.kind=_;rw[BH];exact ok.kind,by show jF.globals=_;rw[<-wg];exact I.ok.glob,by show jF.builtins=_;rw[<-wg];exact I.ok.blt,by show s.heap.objs.size<=jF.locals;rw[hL];exact ax _,
   λy z c e1 e2=>?_,λy hy=>?_,λy c z e=>?_,I.ok.hd,I.ok.frames,.inl rfl,λb hb=>⟨?_,λy c e z=>?_⟩,I.bs,aN I.ok.qc I.sz,λb o e hb=>?_,λb hb z=>?_,I.stack,I.Ml⟩
  ·have e1:jF.cells.lookup y=some c:=e1
   have e2:jF.cells.lookup z=some c:=e2
   rw[mh]at e1 e2
   refine AE (λp hp=>?_) (λy z c a b=>I.ok.inj y z c (cm a).1 (cm b).1) (bh e1) (bh e2)
   rw[bC]
   exact gF (cm (y:=p.1) (c:=p.2) hp).2
  ·show ∃c,jF.cells.lookup y=some c
   have key:∀k,jF.kindOf y=some k->(k= .cell\/k= .free)->∃c,jF.cells.lookup y=some c:=λk hk yP=>by
    unfold Env.kindOf at hk
    rw[BH]at hk
    obtain⟨k',e,r⟩:=Cb hk
    have:k'= .cell\/k'= .free:=by
     rcases r with rfl | ⟨rfl,_⟩
     ·exact yP
     ·exact .inr rfl
    rcases this with rfl | rfl
    ·obtain⟨c,hm⟩:=AD (n:=(s.heap.push {cls:=.type "dict",data:=.dict #[]}).objs.size) (acc:=kI X.env.cells scope.names []) (bh e)
     obtain⟨c',e'⟩:=mem_lookup hm
     exact⟨c',by rw[mh];exact e'⟩
    ·obtain⟨c,h1,_⟩:=look e
     exact⟨c,h1⟩
   rcases hy with hy | hy
   ·exact key _ hy (.inl rfl)
   ·exact key _ hy (.inr rfl)
  ·have z:(scope.names.lookup y == some NameKind.cell)=true:=z
   have z:scope.names.lookup y=some .cell:=by simpa using z
   have e:jF.cells.lookup y=some c:=e
   rw[mh]at e
   rcases vU (bh e) with hm | ⟨_,h2,_⟩
   ·rcases yi hm with hm | ⟨h1,_⟩
    ·cases hm
    ·have q:=ok.uniq _ h1
     rw[z]at q;cases q
   ·rw[bC]at h2
    exact fF h2
  ·show b≠jF.locals
   rw[hL];exact a9 (nZ b hb).2
  ·have e:jF.cells.lookup y=some c:=e
   rcases mem e with⟨h1,_⟩ | ⟨h1,_⟩
   ·exact(nZ b hb).1.2.2.2.2.1 y c h1 z
   ·have h2:s.heap.objs.size+1<=b:=by rw[<-z];exact h1
    exact absurd (aS (nZ b hb).2 (fF h2)) (cO _)
  ·rcases (nZ b hb).1.2.2.2.1 with z | z
   ·exact I.ok.xj b o e z
   ·exact absurd (aS (aF e) (aN I.ok.qc z)) (cO _)
  ·rcases aM.mp (I.Dt b z) with z | z
   ·exact(nZ b hb).1.2.1 z
   ·exact(nZ b hb).1.2.2.1 z
 refine⟨WR,rfl,I.bare,Un.kept kp,⟨λ_=>none,?_,λi y av e1 e2 e3=>?_⟩,λy c e=>?_,?_,λy c e=>?_,λp hp=>?_,I.h_.kept kp,by rw[DC];exact I.len⟩
 ·show Heap.Ns _ jF.locals _
  rw[hL]
  exact Heap.Ns.keeps (Heap.Ns.new ..) λb o e=>gg _ _ _ _ e
 ·obtain⟨e2,iJ⟩:=DD e2
  have yK:scope.names.lookup y=some .free/\(jF.kindOf y=some .cell\/jF.kindOf y=some .free):=by
   have key:∀k,jF.scope.names.lookup y=some k->k= .local\/k= .cell\/k= .free->scope.names.lookup y=some .free/\(jF.kindOf y=some .cell\/jF.kindOf y=some .free):=λk hk yP=>by
    have wq:=hk
    rw[BH]at hk
    obtain⟨k',e,r⟩:=Cb hk
    have no:¬(k'= .local\/k'= .cell):=λhh=>by
     rcases ok.own _ (bh e) hh with e' | e'
     ·obtain⟨p,hp,wD⟩:=aQ.mp e'
      have e3:=ok.ix p hp
      have:p.1=y:=wD
      rw[this]at e3
      exact iJ (aQ.mpr ⟨p,hp,Ct hN e3 e1⟩)
     ·exact e' (aG e1)
    rcases r with rfl | ⟨rfl,rfl⟩
    ·rcases yP with rfl | rfl | rfl
     ·exact absurd (.inl rfl) no
     ·exact absurd (.inr rfl) no
     ·exact⟨e,.inr wq⟩
    ·exact⟨e,.inl wq⟩
   have e3:vH jF.scope y:=e3
   rcases e3 with e3 | e3 | e3
   ·exact key _ e3 (.inl rfl)
   ·exact key _ e3 (.inr (.inl rfl))
   ·exact key _ e3 (.inr (.inr rfl))
  obtain⟨m,hn,hl⟩:=I.loc
  have Ul:vH X.env.scope y:=(ok.free _ (bh yK.1) rfl).elim (λk=>.inr (.inl k)) (λk=>.inr (.inr k))
  obtain⟨w,r,q⟩:=hl i y av e1 e2 Ul
  refine⟨w,r,.inr ⟨yK.2,?_⟩⟩
  obtain⟨c,h1,h2⟩:=look yK.1
  rcases q with⟨k,_⟩ | ⟨_,c',e',z⟩
  ·have k:X.env.scope.names.lookup y=some .local:=k
   rcases ok.free _ (bh yK.1) rfl with k' | k'<;>rw[show X.env.scope.names.lookup y=_ from k']at k<;>cases k
  ·rw[h2]at e';cases e'
   exact⟨c,h1,z.keeps kp⟩
 ·have e:jF.cells.lookup y=some c:=e
  rcases mem e with⟨h1,_⟩ | ⟨_,z⟩
  ·obtain⟨w,z⟩:=I.cell y c h1
   exact⟨w,z.keeps kp⟩
  ·exact⟨_,z⟩
 ·show H jF.locals=none
  rw[hL];exact I.h_.fresh (ax _)
 ·have e:jF.cells.lookup y=some c:=e
  rcases mem e with⟨h1,_⟩ | ⟨h1,_⟩
  ·exact I.nh y c h1
  ·exact I.h_.fresh (fF h1)
 ·exact absurd (show p∈([]:List (Addr×Obj))++[] from hp) (by simp)
theorem Nt{E:Value->Shared->Prop}{D:Addr}{xs:List V}{y:V}{v:Value}{Q:Value->Shared->Prop}(I:Inv X pins σ H s)(hD:H D=some (.lst xs))(hz:xs.length<sizeLine)(r:RelV y v)
 (h:∀s',Inv X pins σ (upd H D (.lst (xs++[y]))) s'->Q .none s'):wpAny (model X.prog X.w) X.A (call (.builtin "list.append") [.ref D,v]) Q E s:=by
 obtain⟨hz',g_,n,ri,e⟩:=I.h_ D _ hD
 have hl:=ri.length
 refine append_at (hsz:=by rw[aJ];omega) e λh' sb n6=>?_
 refine h {s with heap:=h'} (I.write (t':=s.toks) (by rw[hD];trivial) (.inl rfl) (λb u hb q=>(sb.2 b hb).trans q) ⟨_,n6⟩ ⟨by rw[aj];exact hz,g_++[v],n+1,ri.append (.cons r .nil),?_⟩)
 rw[n6]
 simp
noncomputable def vE(X:Cx)(ifs:List Expr)(t:TT):Prop:=
 ∀
  (pins:List (Addr×Obj)) (s:Shared) (σ:St) (H:Hp) (Q:Bool->Hp->Prop),Inv X pins σ H s->t σ H Q->
  wpAny (model X.prog X.w) X.A (forIn ifs true λc r=>if r=true then do let ok <-isTrue c X.env (eval c X.env);pure (ForInStep.yield ok) else pure (ForInStep.yield r)) (TP X pins σ Q) X.xe s
noncomputable def abN:TT:=λ_ H Q=>Q true H
theorem kT:vE X [] abN:=λ_ _ _ H _ I h=>wpAny_tests_nil ⟨H,I,h⟩
theorem zL{c:Expr}{t:TT}(h:PT X c t):vE X [c] t:=λpins s σ H Q I hw=>wpAny_tests_one (h pins s σ H Q I hw)
end
theorem va{α:Type}{t:Sem α}{Q Q':α->Shared->Prop}{M:Model}{A:Around}{E:Value->Shared->Prop}{s:Shared}(h:wpAny M A t Q (λ_ _=>False) s)(hQ:∀a s,Q a s->Q' a s):wpAny M A t Q' E s:=dB h hQ λ_ _ z=>False.elim z
theorem N3{prog:Program}{w:World}{A:Around}{R:Result->Shared->Prop}{s:Shared}{elt target iter:Expr}{ifs:List Expr}{scope:Scope}{pos:Pos}{it acc:Value}{env:Env}(I:Nat->Shared->Prop)
 (turn:∀n s,I n s->wpAny (model prog w) A (pyNext it) (λr iW=>match r with
  | none=>R (.ok .next) iW
  | some v=>wpAny (model prog w) A (letOwnedTupleGo target it v) (λ_ Mp=>wpAny (model prog w) A (assign target env v) (λ_ kO=>
   wpAny (model prog w) A (forIn ifs true λc r=>if r=true then do let ok <-isTrue c env (eval c env);pure (ForInStep.yield ok) else pure (ForInStep.yield r)) (λok u_=>
    if ok=true then wpAny (model prog w) A (eval elt env) (λx Mq=>
     wpAny (model prog w) A (call (.builtin "list.append") [acc,x]) (λ_ Mr=>∃m,m<n/\I m Mr) (notedBy (model prog w) A env λe s'=>R (.error e) s') Mq) (notedBy (model prog w) A env λe s'=>R (.error e) s') u_
    else ∃m,m<n/\I m u_) (notedBy (model prog w) A env λe s'=>R (.error e) s') kO) (notedBy (model prog w) A env λe s'=>R (.error e) s') Mp) (notedBy (model prog w) A env λe s'=>R (.error e) s') iW) (notedBy (model prog w) A env λe s'=>R (.error e) s') s)
 (n:Nat) (h:I n s):
 codeAny (model prog w) A (.compLoop (.ListComp elt [⟨target,iter,ifs,0⟩] scope pos) 0 it acc env) R s:=by
 refine codeAny_loop rfl I (λn s hI=>?_) n h
 show wpAny _ A ((compTurn (.ListComp elt [⟨target,iter,ifs,0⟩] scope pos) 0 it acc env).onRaise (λx=>do noteFrame x env;theTreesLotGoes x)) _ _ s
 refine wpAny_noted ?_
 rw[compTurn_list]
 refine aa (wpAny_standAt (aa (dB (turn n s hI) (λr iW y8=>?_) λ_ _ h'=>h')))
 cases r with
 | none=>exact af y8
 | some v=>
  refine aa (dB y8 (λ_ Mp Uy=>?_) λ_ _ h'=>h')
  refine aa (dB Uy (λ_ kO wO=>aa (dB wO (λok u_ y9=>?_) λ_ _ h'=>h')) λ_ _ h'=>h')
  cases ok with
  | false=>exact af ⟨rfl,y9⟩
  | true=>
   exact aa (aa (dB y9 (λx Mq Uz=>aa (dB Uz (λ_ Mr UA=>af (af ⟨rfl,UA⟩)) λ_ _ h'=>h')) λ_ _ h'=>h'))
section
variable{X:Cx}
noncomputable def zU(wi:TI)(g:TG)(tt:TT)(te:TE)(vs:List Nat):TE:=λσ H Q=>wi σ H λJ H1=>∀D,H1 D=none->∃W:Nat->Nat->Hp->Prop,(∃m,W 0 m (upd H1 D (.lst [])))/\∀i m H,W i m H->
 (J.stop i H/\Q (.ref D) H)\/(J.go i H/\∃Nx:Hp->Prop,(∀U,Nx U->∃m',m'<m/\W (i+1) m' U)/\∀x U,J.l9 i H x U->g x (wipe σ vs) U λiA H2=>wipe iA vs=wipe σ vs/\tt iA H2 λb H3=>
  if b=true then te iA H3 λy H4=>∃acc,H4 D=some (.lst acc)/\acc.length<sizeLine/\Nx (upd H4 D (.lst (acc++[y]))) else Nx H3)
theorem Ge{pins:List (Addr×Obj)}{s:Shared}{σ:St}{H:Hp}{Q:VK}{elt tg iter:Expr}{ifs:List Expr}{scope:Scope}{own:List (Str×Nat)}{pos pos':Pos}{wi:TI}{g:TG}{tt:TT}{te:TE}{use:Option (Value->Sem Unit)}{Qf:Value->Shared->Prop}
 (hc:X.calm=true) (hN:X.N.Nodup) (I:Inv X pins σ H s) (hi:PI X tg iter wi) (ok:vm X.N X.env.scope scope own)
 (hg:∀(s:Shared) (H:Hp) (C:Addr) (cl:List (Str×Addr)) (fp:List Addr),PG (X.kZ s H scope (compEnvC scope cl C X.env) fp) tg g) (ht:∀(s:Shared) (H:Hp) (C:Addr) (cl:List (Str×Addr)) (fp:List Addr),vE (X.kZ s H scope (compEnvC scope cl C X.env) fp) ifs tt)
 (he:∀(s:Shared) (H:Hp) (C:Addr) (cl:List (Str×Addr)) (fp:List Addr),PE (X.kZ s H scope (compEnvC scope cl C X.env) fp) elt te) (hs:∀x,foldedSetIterable iter X.env x=pure x)
 (h:zU wi g tt te (own.map (·.2)) σ H Q)
 (R_:∀D C s' m U,Inv X pins σ U s'->Q (.ref D) U->s'.heap.Ns C m->m6 X pins U C->compPost (model X.prog X.w) X.A X.xe use Qf (.ref D) C (.ok .next) s'):
 wpAny (model X.prog X.w) X.A (comprehension (.ListComp elt [⟨tg,iter,ifs,0⟩] scope pos) scope X.env pos' (newList []) false (eval iter X.env) use) Qf X.xe s:=by
 have uk:∀y∈scope.names,y.2= .free->∃c,X.env.cells.lookup y.1=some c:=λy hy e=>by
  rcases ok.free y hy e with k | k
  ·exact I.ok.has _ (.inl k)
  ·exact I.ok.has _ (.inr k)
 refine wpAny_comprehension_free (use:=use) rfl hs (N1 uk) ok.kind (λy hy e=>by rw[ok.uniq y hy,e])
  (ir (hi pins s σ H _ I h) λxv s1 hx=>ir hx λB0 s2 h2=>?_)
 obtain⟨it,fp,tn,J,H2,e,I2,T,u7,f2,q⟩:=h2
 subst e
 refine bG (Wh ?_) (by show 0<=sizeLine;decide)
 generalize hD:s2.heap.objs.size=D
 have R8:H2 D=none:=I2.h_.fresh (gp hD)
 obtain⟨W,⟨m0,w0⟩,turn⟩:=q D R8
 generalize FJ:({s2 with heap:=s2.heap.push {cls:=.type "list",data:=.seq ([]:List Value).toArray}}:Shared)=s3
 have I3:Inv X pins σ (upd H2 D (.lst [])) s3:=by
  rw[<-FJ]
  refine I2.laid (t':=s2.toks) (λb o e=>ag _ e) (gp hD) ⟨aU _,[],0,.nil,?_⟩
  rw[<-hD]
  exact aC _ rfl
 have h3:s3.heap=s2.heap.push {cls:=.type "list",data:=.seq ([]:List Value).toArray}:=by rw[<-FJ]
 have sz:∀b∈fp,b<s2.heap.objs.size:=λb hb=>by
  obtain⟨o,e,_⟩:=T.obj _ _ u7 b hb
  exact aF e
 have f3:∀b∈fp,m6 X pins (upd H2 D (.lst [])) b/\b<s3.heap.objs.size:=λb hb=>by
  have iP:=sz b hb
  refine⟨⟨?_,(f2 b hb).2⟩,by rw[h3,bC];exact gF iP⟩
  rw[ip (by rw[<-hD];exact a9 iP)]
  exact(f2 b hb).1
 have tE:tn 0 s3.heap:=T.keep _ _ _ u7 λb _ o e=>by rw[h3];exact ag _ e
 have I4:=NQ I3 ok hN f3
 have pg:=hg s3 (upd H2 D (.lst [])) s3.heap.objs.size (cellsFrom (s3.heap.objs.size+1) scope.names (kI X.env.cells scope.names [])) fp
 have pt:=ht s3 (upd H2 D (.lst [])) s3.heap.objs.size (cellsFrom (s3.heap.objs.size+1) scope.names (kI X.env.cells scope.names [])) fp
 have pe:=he s3 (upd H2 D (.lst [])) s3.heap.objs.size (cellsFrom (s3.heap.objs.size+1) scope.names (kI X.env.cells scope.names [])) fp
 show codeAny _ _ (.compStart (.ListComp elt [⟨tg,iter,ifs,0⟩] scope pos) 0 (.ref it) (.ref D) (compEnvC scope (cellsFrom (s3.heap.objs.size+1) scope.names (kI X.env.cells scope.names [])) s3.heap.objs.size X.env)) (compPost (model X.prog X.w) X.A X.xe use Qf (.ref D) s3.heap.objs.size) {s3 with heap:=pushCells (s3.heap.push {cls:=.type "dict",data:=.dict #[]}) scope.names}
 have G2:∀b∈fp,(upd H2 D (.lst [])) b=none:=λb hb=>(f3 b hb).1.1
 generalize Ss:compEnvC scope (cellsFrom (s3.heap.objs.size+1) scope.names (kI X.env.cells scope.names [])) s3.heap.objs.size X.env=ce at I4 pg pt pe ⊢
 have cL:ce.locals=s3.heap.objs.size:=by subst Ss;rfl
 generalize hH3:upd H2 D (.lst [])=H3 at I3 I4 pg pt pe w0 G2 f3
 generalize T7:({s3 with heap:=pushCells (s3.heap.push {cls:=.type "dict",data:=.dict #[]}) scope.names}:Shared)=s4 at I4 ⊢
 have Mj:tn 0 s4.heap:=T.keep _ _ _ tE λb _ o e=>by rw[<-T7];exact gg _ _ _ _ (ag _ e)
 have tF:∀{ik:St} {U:Hp} {s':Shared},Inv (X.kZ s3 H3 scope ce fp) [] ik U s'->(∀b∈fp,U b=none)->∀b∈fp,m6 (X.kZ s3 H3 scope ce fp) [] U b:=λ{ik U s'} I' hn b hb=>
  ⟨hn b hb,(I'.ok.yu b hb).1,I'.ok.v5 b hb,.inl hb,λx c e=>(I'.ok.yu b hb).2 x c e,λp hp=>absurd (show p∈([]:List (Addr×Obj))++[] from hp) (by simp)⟩
 have loop:codeAny (model X.prog X.w) X.A (.compLoop (.ListComp elt [⟨tg,iter,ifs,0⟩] scope pos) 0 (.ref it) (.ref D) ce) (compPost (model X.prog X.w) X.A X.xe use Qf (.ref D) s3.heap.objs.size) s4:=by
  refine N3 (λn s'=>∃i U,Inv (X.kZ s3 H3 scope ce fp) [] (wipe σ (own.map (·.2))) U s'/\tn i s'.heap/\(∀b∈fp,U b=none)/\W i n U) ?_ m0 ⟨0,H3,I4,Mj,G2,w0⟩
  rintro n s5 ⟨i,H5,I5,u9,n5,w5⟩
  rcases turn i n H5 w5 with⟨stop,qq⟩ | ⟨go,Nx,R9,step⟩
  ·have td:=T.done (X.kZ s3 H3 scope ce fp) rfl rfl rfl hc i [] s5 _ H5 (λ_ _=>False) I5 (tF I5 n5) u9 stop
   refine va td λr s6 zq=>?_
   obtain⟨hr,I6⟩:=zq
   subst hr
   have I7:Inv X pins σ H5 s6:=I3.NS (ch:=fp) I6.os I6.base I6.h_ I6.bare λb hb=>⟨(f3 b hb).1.2.2.2.1,(f3 b hb).1.2.1,(f3 b hb).1.2.2.2.2.1,(f3 b hb).1.2.2.2.2.2⟩
   have nC:H5 s3.heap.objs.size=none:=by
    have z:H5 ce.locals=none:=I6.free
    rw[cL]at z
    exact z
   obtain⟨m,hn,_⟩:=I6.loc
   have hn:s6.heap.Ns ce.locals m:=hn
   rw[cL]at hn
   exact R_ D s3.heap.objs.size s6 m H5 I7 qq hn (I3.qj (ax _) nC)
  ·have ti:=T.item (X.kZ s3 H3 scope ce fp) rfl rfl rfl hc i [] s5 _ H5 (λ_ _=>False) I5 (tF I5 n5) u9 go
   refine va ti λr s6 zq=>?_
   obtain⟨u,hr,h6⟩:=zq
   subst hr
   refine va h6 λ_ s7 zq=>?_
   obtain⟨x,H7,I7,r7,y7,Ds,n7⟩:=zq
   have Nd:=I7.pinned (tF I7 n7) (T.obj _ _ Ds)
   refine va (pg _ s7 _ H7 x u _ Nd r7 (step x H7 y7)) λ_ s8 zq=>?_
   obtain⟨Ad,H8,I8,FT,q8⟩:=zq
   refine va (pt _ s8 Ad H8 _ I8 q8) λb s9 zq=>?_
   obtain⟨H9,I9,q9⟩:=zq
   have fin:∀{s':Shared} {U:Hp},Inv (X.kZ s3 H3 scope ce fp) ([]++xy fp s7.heap) Ad U s'->Nx U->∃m,m<n/\∃i U,Inv (X.kZ s3 H3 scope ce fp) [] (wipe σ (own.map (·.2))) U s'/\tn i s'.heap/\(∀b∈fp,U b=none)/\W i m U:=λ{s' U} I' nx=>by
    obtain⟨m',hm,w'⟩:=R9 U nx
    have HV:∀b∈fp,∀o,s7.heap.get? b=some o->s'.heap.get? b=some o/\U b=none:=λb hb o e=>
     let z:=I'.pin (b,o) (bP _ (bP _ (Cf hb e)))
     ⟨z.1,z.2.1⟩
    have hl:(wipe σ (own.map (·.2))).length=Ad.length:=by rw[<-FT,DC]
    refine⟨m',hm,i+1,U,(I'.z0 (pins:=[])).weak hl (λj v e=>?_),T.keep _ _ _ Ds λb hb o e=>(HV b hb o e).1,λb hb=>?_,w'⟩
    ·rw[<-FT]at e
     exact(DD e).1
    ·obtain⟨o,e,_⟩:=T.obj _ _ Ds b hb
     exact(HV b hb o e).2
   cases b with
   | false=>
    simp only[aK,bq]at q9 ⊢
    exact fin I9 q9
   | true=>
    simp only[dQ]at q9 ⊢
    refine va (pe _ s9 Ad H9 _ I9 q9) λz s10 zq=>?_
    obtain⟨yv,H10,Na,Z9,acc,R7,Uw,nx⟩:=zq
    exact Nt (X:=X.kZ s3 H3 scope ce fp) Na R7 Uw Z9 λs11 Nb=>fin Nb nx
 exact codeAny_compStart_list loop (T.self X.A 0 _ _ _ Mj loop)
theorem lA{elt tg iter:Expr}{ifs:List Expr}{scope:Scope}{own:List (Str×Nat)}{pos:Pos}{wi:TI}{g:TG}{tt:TT}{te:TE}(hc:X.calm=true)(hN:X.N.Nodup)(hi:PI X tg iter wi)(ok:vm X.N X.env.scope scope own)
 (hg:∀(s:Shared) (H:Hp) (C:Addr) (cl:List (Str×Addr)) (fp:List Addr),PG (X.kZ s H scope (compEnvC scope cl C X.env) fp) tg g) (ht:∀(s:Shared) (H:Hp) (C:Addr) (cl:List (Str×Addr)) (fp:List Addr),vE (X.kZ s H scope (compEnvC scope cl C X.env) fp) ifs tt)
 (he:∀(s:Shared) (H:Hp) (C:Addr) (cl:List (Str×Addr)) (fp:List Addr),PE (X.kZ s H scope (compEnvC scope cl C X.env) fp) elt te) (hs:∀x,foldedSetIterable iter X.env x=pure x:=by intro _;rfl):
 PE X (.ListComp elt [⟨tg,iter,ifs,0⟩] scope pos) (zU wi g tt te (own.map (·.2))):=by
 intro pins s σ H Q I h
 rw[eval_ListComp]
 refine Ge hc hN I hi ok hg ht he hs h λD C s' m U I' q hn f=>⟨m,hn,λlq sb=>?_⟩
 obtain⟨f0,f1,f2,f3,f4,f5⟩:=f
 exact⟨.ref D,U,I'.turned (t':=s'.toks) (λb o hb e=>(sb.2 b hb).trans e) f0 f1 f3 f4 f5,rfl,q⟩
theorem uX{i:Nat}{y:Str}{py:Pos}{elt tg iter:Expr}{ifs:List Expr}{scope:Scope}{own:List (Str×Nat)}{pos Mh:Pos}{wi:TI}{g:TG}{tt:TT}{te:TE}(hc:X.calm=true)(hN:X.N.Nodup)(hy:X.N[i]? =some y)(yZ:X.env.scope.names.lookup y=some .local)
 (T_:swapsWith (.ListComp elt [⟨tg,iter,ifs,0⟩] scope pos) (some (.Name y py)) Mh.line X.env=pure true) (hi:PI X tg iter wi) (ok:vm X.N X.env.scope scope own)
 (hg:∀(s:Shared) (H:Hp) (C:Addr) (cl:List (Str×Addr)) (fp:List Addr),PG (X.kZ s H scope (compEnvC scope cl C X.env) fp) tg g) (ht:∀(s:Shared) (H:Hp) (C:Addr) (cl:List (Str×Addr)) (fp:List Addr),vE (X.kZ s H scope (compEnvC scope cl C X.env) fp) ifs tt)
 (he:∀(s:Shared) (H:Hp) (C:Addr) (cl:List (Str×Addr)) (fp:List Addr),PE (X.kZ s H scope (compEnvC scope cl C X.env) fp) elt te) (hs:∀x,foldedSetIterable iter X.env x=pure x:=by intro _;rfl):
 PS X (.Assign [.Name y py] (.ListComp elt [⟨tg,iter,ifs,0⟩] scope pos) Mh) (Mt (zU wi g tt te (own.map (·.2))) (jL i)):=by
 intro pins s σ H D I h
 rw[exec_Assign_Name_used _ _ _ _ T_]
 refine aa (wpAny_standAt (aa ?_))
 show wpAny _ X.A (do let _ <-comprehension (.ListComp elt [⟨tg,iter,ifs,0⟩] scope pos) scope X.env (firstIterPos [⟨tg,iter,ifs,0⟩] pos) (newList []) false (eval iter X.env) (some (assign (.Name y py) X.env))) _ _ s
 have h:zU wi g tt te (own.map (·.2)) σ H (λx H1=>jL i x σ H1 D.nx):=h
 refine aa (ir (Ge (Qf:=λ_ s'=>SP X pins D .next s') hc hN I hi ok hg ht he hs h λL C s' m U I' q hn f=>?_) λ_ s' hq=>af (af hq))
 show wpAny _ _ (assign (.Name y py) X.env (.ref L)) _ _ _
 refine wpAny_assign_Name (Mn (v:=V.ref L) I' hN hy (.inl yZ) rfl (λs2 I2 ⟨a,sb,ha⟩=>?_) (.inr yZ))
 obtain⟨f0,f1,f2,f3,f4,f5⟩:=f
 have Sa:C≠a:=by
  rcases ha with z | z
  ·rw[z];exact f1
  ·exact λe=>f4 y a z e.symm
 refine⟨m,hn.sameBut sb Sa,λh3 sb3=>?_⟩
 exact⟨_,U,I2.turned (t':=s2.toks) (λb o hb e=>(sb3.2 b hb).trans e) f0 f1 f3 f4 f5,q⟩
end
theorem Vu{lo:Int}{n:Nat}{g:TG}{tt:TT}{te:TE}{vs:List Nat}{σ:St}{H1:Hp}{D:Addr}{Qd:Hp->Prop}(Pv:Nat->Hp->Prop)(h0:Pv 0 (upd H1 D (.lst [])))
 (hs:∀i H,i<n->Pv i H->g (.int (lo+i)) (wipe σ vs) H λiA H2=>wipe iA vs=wipe σ vs/\tt iA H2 λb H3=>
  if b=true then te iA H3 λy H4=>∃acc,H4 D=some (.lst acc)/\acc.length<sizeLine/\Pv (i+1) (upd H4 D (.lst (acc++[y]))) else Pv (i+1) H3) (hd:∀H,Pv n H->Qd H):
 ∃
  W:Nat->Nat->Hp->Prop,(∃m,W 0 m (upd H1 D (.lst [])))/\∀i m H,W i m H->
  ((
   o6 lo n).stop i H/\Qd H)\/((o6 lo n).go i H/\∃Nx:Hp->Prop,(∀U,Nx U->∃m',m'<m/\W (i+1) m' U)/\∀x U,(o6 lo n).l9 i H x U->g x (wipe σ vs) U λiA H2=>wipe iA vs=wipe σ vs/\tt iA H2 λb H3=>
   if b=true then te iA H3 λy H4=>∃acc,H4 D=some (.lst acc)/\acc.length<sizeLine/\Nx (upd H4 D (.lst (acc++[y]))) else Nx H3):=by
 refine⟨λi m H=>m=n-i/\i<=n/\Pv i H,⟨n,by simp,aU _,h0⟩,?_⟩
 rintro i m H ⟨rfl,hi,p⟩
 by_cases iP:i<n
 ·refine .inr ⟨iP,Pv (i+1),λU p'=>⟨n-(i+1),by omega,rfl,iP,p'⟩,λx U y=>?_⟩
  obtain⟨e,y⟩:=y
  subst e y
  exact hs i _ iP p
 ·have e:i=n:=by omega
  subst e
  exact .inl ⟨ax _,hd H p⟩
theorem mq{K:Fg}{a:Addr}{xs:List V}{g:TG}{tt:TT}{te:TE}{vs:List Nat}{σ:St}{H1:Hp}{D:Addr}{Qd:Hp->Prop}(Pv:Nat->Hp->Prop)(h0:Pv 0 (upd H1 D (.lst [])))(hl:∀i H,i<=xs.length->Pv i H->f_ K H a xs)
 (hs:∀i x H,xs[i]? =some x->Pv i H->g x (wipe σ vs) H λiA H2=>wipe iA vs=wipe σ vs/\tt iA H2 λb H3=>
  if b=true then te iA H3 λy H4=>∃acc,H4 D=some (.lst acc)/\acc.length<sizeLine/\Pv (i+1) (upd H4 D (.lst (acc++[y]))) else Pv (i+1) H3) (hd:∀H,Pv xs.length H->Qd H):
 ∃
  W:Nat->Nat->Hp->Prop,(∃m,W 0 m (upd H1 D (.lst [])))/\∀i m H,W i m H->
  ((
   qN K a).stop i H/\Qd H)\/((qN K a).go i H/\∃Nx:Hp->Prop,(∀U,Nx U->∃m',m'<m/\W (i+1) m' U)/\∀x U,(qN K a).l9 i H x U->g x (wipe σ vs) U λiA H2=>wipe iA vs=wipe σ vs/\tt iA H2 λb H3=>
   if b=true then te iA H3 λy H4=>∃acc,H4 D=some (.lst acc)/\acc.length<sizeLine/\Nx (upd H4 D (.lst (acc++[y]))) else Nx H3):=by
 refine⟨λi m H=>m=xs.length-i/\i<=xs.length/\Pv i H,⟨xs.length,by simp,aU _,h0⟩,?_⟩
 rintro i m H ⟨rfl,hi,p⟩
 have q:=hl i H hi p
 by_cases iP:i<xs.length
 ·refine .inr ⟨⟨xs,xs[i],q,by simp[iP]⟩,Pv (i+1),λU p'=>⟨xs.length-(i+1),by omega,rfl,iP,p'⟩,λx U y=>?_⟩
  obtain⟨e,y⟩:=y
  subst e
  exact hs i x _ (y xs q) p
 ·have e:i=xs.length:=by omega
  subst e
  exact .inl ⟨⟨xs,q,ax _⟩,hd H p⟩
theorem Vw{K:Fg}{a:Addr}{xs:List V}{g:TG}{tt:TT}{te:TE}{vs:List Nat}{σ:St}{H1:Hp}{D:Addr}{Qd:Hp->Prop}(Pv:Nat->Hp->Prop)(h0:Pv 0 (upd H1 D (.lst [])))(hl:∀i H,i<=xs.length->Pv i H->iO K H a xs)
 (hs:∀i x H,xs[i]? =some x->Pv i H->g x (wipe σ vs) H λiA H2=>wipe iA vs=wipe σ vs/\tt iA H2 λb H3=>
  if b=true then te iA H3 λy H4=>∃acc,H4 D=some (.lst acc)/\acc.length<sizeLine/\Pv (i+1) (upd H4 D (.lst (acc++[y]))) else Pv (i+1) H3) (hd:∀H,Pv xs.length H->Qd H):
 ∃
  W:Nat->Nat->Hp->Prop,(∃m,W 0 m (upd H1 D (.lst [])))/\∀i m H,W i m H->
  ((
   vy K a).stop i H/\Qd H)\/((vy K a).go i H/\∃Nx:Hp->Prop,(∀U,Nx U->∃m',m'<m/\W (i+1) m' U)/\∀x U,(vy K a).l9 i H x U->g x (wipe σ vs) U λiA H2=>wipe iA vs=wipe σ vs/\tt iA H2 λb H3=>
   if b=true then te iA H3 λy H4=>∃acc,H4 D=some (.lst acc)/\acc.length<sizeLine/\Nx (upd H4 D (.lst (acc++[y]))) else Nx H3):=by
 refine⟨λi m H=>m=xs.length-i/\i<=xs.length/\Pv i H,⟨xs.length,by simp,aU _,h0⟩,?_⟩
 rintro i m H ⟨rfl,hi,p⟩
 have q:=hl i H hi p
 by_cases iP:i<xs.length
 ·refine .inr ⟨⟨xs,xs[i],q,by simp[iP]⟩,Pv (i+1),λU p'=>⟨xs.length-(i+1),by omega,rfl,iP,p'⟩,λx U y=>?_⟩
  obtain⟨e,y⟩:=y
  subst e
  exact hs i x _ (y xs q) p
 ·have e:i=xs.length:=by omega
  subst e
  exact .inl ⟨⟨xs,q,ax _⟩,hd H p⟩
noncomputable def DW(N:List Str)(sc scope:Scope)(own:List (Str×Nat)):Bool:=
 (match scope.kind with | .function=>true | _=>false)&&(scope.names.all λy=>decide (scope.names.lookup y.1=some y.2))&&(own.all λp=>decide (N[p.2]? =some p.1))&&
  (scope.names.all λy=>match y.2 with
   | .free=>(match sc.names.lookup y.1 with | some .cell=>true | some .free=>true | _=>false)
   | .local=>decide (y.1∈own.map (·.1))||decide (y.1∉N)
   | .cell=>decide (y.1∈own.map (·.1))||decide (y.1∉N)
   | _=>true)
theorem j_{N:List Str}{sc scope:Scope}{own:List (Str×Nat)}(h:DW N sc scope own=true):vm N sc scope own:=by
 unfold DW at h
 simp only[aZ,cx,eN]at h
 obtain⟨⟨⟨h1,h2⟩,h3⟩,h4⟩:=h
 refine⟨?_,h2,h3,λy hy e=>?_,λy hy e=>?_⟩
 ·split at h1
  ·assumption
  ·cases h1
 ·have q:=h4 y hy
  simp only[e]at q
  split at q<;>first | exact .inl (by assumption) | exact .inr (by assumption) | cases q
 ·have q:=h4 y hy
  rcases e with e | e<;>(simp only[e,gX,eN]at q;exact q)
section
variable{prog:Program}{w:World}{A:Around}{R:Result->Shared->Prop}{s:Shared}{elt t0 i0 t1 i1:Expr}{acS acT:List Expr}{scope:Scope}{pos:Pos}{it acc:Value}{env:Env}
end
section
variable{X:Cx}
end
section
variable{κ:Type}[DecidableEq κ]
noncomputable def jD(kvs:List (κ×V))(k:κ):Option V:=(kvs.find? λkv=>decide (kv.1=k)).map (·.2)
noncomputable def putK(kvs:List (κ×V))(k:κ)(v:V):List (κ×V):=
 if (kvs.any λkv=>decide (kv.1=k))=true then kvs.map (λkv=>if kv.1=k then (kv.1,v) else kv) else kvs++[(k,v)]
noncomputable def nc(kvs:List (κ×V))(k:κ):List (κ×V):=kvs.filter λkv=>decide (kv.1≠k)
theorem acb{k:κ}:jD ([]:List (κ×V)) k=none:=rfl
theorem vf{p:κ×V}{r:List (κ×V)}{k:κ}(e:p.1=k):jD (p::r) k=some p.2:=by simp[jD,a8,e]
theorem ve{p:κ×V}{r:List (κ×V)}{k:κ}(e:¬p.1=k):jD (p::r) k=jD r k:=by simp[jD,a8,e]
theorem z9(k:κ):∀kvs:List (κ×V),(kvs.any λkv=>decide (kv.1=k))=(jD kvs k).isSome
 | []=>rfl
 | p::r=>by
  rw[eJ]
  by_cases e:p.1=k
  ·simp only[vf e,ah e,gU,Option.isSome_some]
  ·rw[ve e,az e,dZ];exact z9 k r
theorem Gk(kvs:List (κ×V))(k:κ)(v:V):(putK kvs k v).length<=kvs.length+1:=by
 unfold putK
 split
 ·rw[ab];omega
 ·rw[aj,ai,bQ];omega
theorem C1{kvs:List (κ×V)}{k:κ}(v:V)(h:jD kvs k=none):putK kvs k v=kvs++[(k,v)]:=by
 unfold putK
 rw[z9,h]
 exact aq (by decide)
theorem lh.uC{o:Option V}{u:Option Value}(r:lh o u):o.isSome=u.isSome:=by
 cases o with
 | none=>cases u with
  | none=>rfl
  | some _=>exact(show False from r).elim
 | some _=>cases u with
  | none=>exact(show False from r).elim
  | some _=>rfl
theorem lh.getD{o:Option V}{u:Option Value}{d:V}{d':Value}(r:lh o u)(rd:RelV d d'):RelV (o.getD d) (u.getD d'):=by
 cases o with
 | none=>cases u with
  | none=>exact rd
  | some _=>exact(show False from r).elim
 | some _=>cases u with
  | none=>exact(show False from r).elim
  | some _=>exact r
theorem KV.val{kvs:List (κ×V)}{vs:List (κ×Value)}(r:KV kvs vs)(k:κ):lh (jD kvs k) (valueAt vs k):=by
 unfold KV at r
 induction r with
 | nil=>exact True.intro
 | @cons p q ps qs h t ih=>
  obtain⟨h1,h2⟩:=h
  by_cases e:p.1=k
  ·have e':q.1=k:=h1.symm.trans e
   have b:valueAt (q::qs) k=some q.2:=by simp[valueAt,a8,e']
   rw[vf e,b];exact h2
  ·have e':¬q.1=k:=λz=>e (h1.trans z)
   have b:valueAt (q::qs) k=valueAt qs k:=by simp[valueAt,a8,e']
   rw[ve e,b];exact ih
theorem KV.any{kvs:List (κ×V)}{vs:List (κ×Value)}(r:KV kvs vs)(k:κ):(kvs.any λkv=>decide (kv.1=k))=vs.any λkv=>decide (kv.1=k):=by
 unfold KV at r
 induction r with
 | nil=>rfl
 | cons h t ih=>rw[eJ,eJ,ih,h.1]
theorem KV.C_{kvs:List (κ×V)}{vs:List (κ×Value)}(r:KV kvs vs)(k:κ){y:V}{u:Value}(ry:RelV y u):
 KV (kvs.map λkv=>if kv.1=k then (kv.1,y) else kv) (vs.map λkv=>if kv.1=k then (kv.1,u) else kv):=by
 unfold KV at r ⊢
 induction r with
 | nil=>exact .nil
 | @cons p q ps qs h t ih=>
  rw[aO,aO]
  refine .cons ?_ ih
  obtain⟨h1,h2⟩:=h
  by_cases e:p.1=k
  ·rw[aE e,aE (h1.symm.trans e)];exact⟨h1,ry⟩
  ·rw[aq e,aq (λz=>e (h1.trans z))];exact⟨h1,h2⟩
theorem KV.put{kvs:List (κ×V)}{vs:List (κ×Value)}(r:KV kvs vs)(k:κ){y:V}{u:Value}(ry:RelV y u):KV (putK kvs k y) (stored vs k u):=by
 unfold putK stored
 rw[r.any k]
 by_cases e:(vs.any λkv=>decide (kv.1=k))=true
 ·rw[aE e,aE e];exact r.C_ k ry
 ·rw[aq e,aq e];exact Paired.snoc r ⟨rfl,ry⟩
theorem KV.length{kvs:List (κ×V)}{vs:List (κ×Value)}(r:KV kvs vs):kvs.length=vs.length:=cF r
theorem Qr(kvs:List (κ×V))(k:κ):(nc kvs k).length<=kvs.length:=cy _ _
end
theorem uD{P:Program}{w:World}{k:Key}{u:Value}(r:RelV (kV k) u):(i4 P w).is k u=true:=by
 cases k with
 | inl i=>obtain⟨t,e⟩:=(show ∃t,u=Value.int i t from r);subst e;exact VX P w i t
 | inr x=>obtain⟨t,e⟩:=(show ∃t,u=Value.str x t from r);subst e;exact VY P w x t
theorem F7{P:Program}{w:World}:∀{ks:List Key} {us:List Value},iG (ks.map kV) us->ItemsAre (i4 P w) ks us
 | [],_,r=>by rw[dY]at r;cases r;exact .nil
 | k::ks,_,r=>by
  rw[aO]at r
  cases r with
  | cons h t=>exact .cons (uD h) (F7 t)
noncomputable abbrev KT(H:Hp):List (List Key×V)->List (List Key×Addr×Value)->Prop:=Paired λp q=>p.1=q.1/\H q.2.1=some (.tup (p.1.map kV))/\RelV p.2 q.2.2
theorem KT.val{H:Hp}{kvs:List (List Key×V)}{xs:List (List Key×Addr×Value)}(r:KT H kvs xs)(k:List Key):lh (jD kvs k) ((atKey xs k).map (·.2)):=by
 induction r with
 | nil=>exact True.intro
 | @cons p q ps qs h t ih=>
  obtain⟨h1,_,h2⟩:=h
  by_cases e:p.1=k
  ·have e':q.1=k:=h1.symm.trans e
   have b:atKey (q::qs) k=some q.2:=by simp[atKey,a8,e']
   rw[vf e,b];exact h2
  ·have e':¬q.1=k:=λz=>e (h1.trans z)
   have b:atKey (q::qs) k=atKey qs k:=by simp[atKey,a8,e']
   rw[ve e,b];exact ih
theorem KT.C_{H:Hp}{kvs:List (List Key×V)}{xs:List (List Key×Addr×Value)}(r:KT H kvs xs)(k:List Key){y:V}{u:Value}(ry:RelV y u):
 KT H (kvs.map λkv=>if kv.1=k then (kv.1,y) else kv) (xs.map (putAt k u)):=by
 induction r with
 | nil=>exact .nil
 | @cons p q ps qs h t ih=>
  rw[aO,aO]
  refine .cons ?_ ih
  obtain⟨h1,h2,h3⟩:=h
  unfold putAt
  by_cases e:p.1=k
  ·rw[aE e,aE (h1.symm.trans e)];exact⟨h1,h2,ry⟩
  ·rw[aq e,aq (λz=>e (h1.trans z))];exact⟨h1,h2,h3⟩
theorem KT.put{H:Hp}{kvs:List (List Key×V)}{xs:List (List Key×Addr×Value)}(r:KT H kvs xs)(k:List Key){b:Addr}{y:V}{u:Value}(hb:H b=some (.tup (k.map kV)))(ry:RelV y u):
 KT H (putK kvs k y) (storedH xs k b u):=by
 have e:(kvs.any λkv=>decide (kv.1=k))=(atKey xs k).isSome:=by
  rw[z9,(r.val k).uC,eO]
 unfold putK storedH
 rw[e]
 by_cases q:(atKey xs k).isSome=true
 ·rw[aE q,aE q];exact r.C_ k ry
 ·rw[aq q,aq q];exact Paired.snoc r ⟨rfl,hb,ry⟩
theorem KT.keeps{H U:Hp}{kvs:List (List Key×V)}{xs:List (List Key×Addr×Value)}(r:KT H kvs xs)(ht:∀b ys,H b=some (.tup ys)->U b=some (.tup ys)):KT U kvs xs:=
 Paired.Cc r λ_ _ z=>⟨z.1,ht _ _ z.2.1,z.2.2⟩
section
variable{P:Program}{w:World}{H:Hp}{h:Heap}{a:Addr}
theorem C8{u:HO}(ok:jg P w H h)(e:Rd H a u):jl P w H h a u:=e.ok ok
theorem sC{kvs:List (Key×V)}(ok:jg P w H h)(e:Rd H a (.dK kvs)):kvs.length<=sizeLine/\(a == sysModules)=false/\∃vs,KV kvs vs/\h.DictOf (i4 P w) a vs:=
 show jl P w H h a (.dK kvs) from C8 ok e
theorem Qp{kvs:List (Key×V)}(ok:jg P w H h)(e:H a=some (.dK kvs)):kvs.length<=sizeLine/\(a == sysModules)=false/\∃vs,KV kvs vs/\h.DictOf (i4 P w) a vs:=sC ok (.inl e)
theorem pH{ks:List Key}(ok:jg P w H h)(e:H a=some (.tup (ks.map kV))):(tupleKind (i4 P w)).is h ks a:=by
 obtain⟨_,g_,r,o,h1,h2,n,h3⟩:=(show jl P w H h a (.tup (ks.map kV)) from ok a _ e)
 exact⟨o,g_.toArray,n,h1,h2,h3,by simpa using F7 r⟩
theorem qV{kvs:List (List Key×V)}(ok:jg P w H h)(e:Rd H a (.dT kvs)):kvs.length<=sizeLine/\(a == sysModules)=false/\
 ∃xs,KT H kvs xs/\h.DictOfH (tupleKind (i4 P w)) a xs:=by
 obtain⟨z,y,xs,r,o,es,ep,h1,h2,h3,h4,h5⟩:=(show jl P w H h a (.dT kvs) from C8 ok e)
 refine⟨z,y,xs,r,o,es,ep,h1,h2,h3,h4,λx hx=>?_,h5⟩
 have all:∀{l:List (List Key×V)} {m:List (List Key×Addr×Value)},KT H l m->∀x∈m,(tupleKind (i4 P w)).is h x.1 x.2.1:=by
  intro l m q
  induction q with
  | nil=>intro x hx;exact nomatch hx
  | @cons p q ps qs hq t ih=>
   intro x hx
   rcases aM.mp hx with e | hx
   ·subst e
    exact pH ok (by rw[<-hq.1];exact hq.2.1)
   ·exact ih x hx
 exact all r x hx
theorem AK{kvs:List (List Key×V)}(ok:jg P w H h)(e:H a=some (.dT kvs)):kvs.length<=sizeLine/\(a == sysModules)=false/\
 ∃xs,KT H kvs xs/\h.DictOfH (tupleKind (i4 P w)) a xs:=qV ok (.inl e)
end
noncomputable def j8(H:Hp)(a:Addr)(y:V)(r:Option V):Prop:=
 (∃kvs k,Rd H a (.dK kvs)/\y=kV k/\r=jD kvs k)\/∃kvs k b,Rd H a (.dT kvs)/\y= .ref b/\H b=some (.tup (k.map kV))/\r=jD kvs k
noncomputable def tK(H:Hp)(a:Addr)(y v:V)(U:Hp):Prop:=
 (∃kvs k,H a=some (.dK kvs)/\y=kV k/\kvs.length<sizeLine/\U=upd H a (.dK (putK kvs k v)))\/
 ∃kvs k b,H a=some (.dT kvs)/\y= .ref b/\H b=some (.tup (k.map kV))/\kvs.length<sizeLine/\U=upd H a (.dT (putK kvs k v))
theorem j8.t{H:Hp}{a b:Addr}{kvs:List (List Key×V)}{k:List Key}(e:H a=some (.dT kvs))(eb:H b=some (.tup (k.map kV))):j8 H a (.ref b) (jD kvs k):=.inr ⟨kvs,k,b,.inl e,rfl,eb,rfl⟩
theorem tK.t{H:Hp}{a b:Addr}{kvs:List (List Key×V)}{k:List Key}{v:V}(e:H a=some (.dT kvs))(eb:H b=some (.tup (k.map kV)))(hl:kvs.length<sizeLine):
 tK H a (.ref b) v (upd H a (.dT (putK kvs k v))):=.inr ⟨kvs,k,b,e,rfl,eb,hl,rfl⟩
section
variable{X:Cx}{pins:List (Addr×Obj)}{σ:St}{H:Hp}{s:Shared}{a:Addr}{y v:V}{u r:Value}{o:Option V}{A:Around}{E:Value->Shared->Prop}
theorem Inv.yb(I:Inv X pins σ H s):sysModules<s.heap.objs.size:=by
 have h:mainGlobals<s.heap.objs.size:=(I.mod.glob.keeps I.bk).lt
 exact fG (by decide) h
theorem OS{Q:Value->Shared->Prop}(hu:A.units+1<cLine)(I:Inv X pins σ H s)(g:j8 H a y (some v))(ry:RelV y u)(h:∀w' s',Inv X pins σ H s'->RelV v w'->Q w' s'):
 wpAny (model X.prog X.w) A (getItem (.ref a) u) Q E s:=by
 rcases g with⟨kvs,k,e,ey,l⟩ | ⟨kvs,k,b,e,ey,eb,l⟩
 ·subst ey
  obtain⟨z,hd,vs,rel,dd⟩:=sC I.h_ e
  obtain⟨w',hw,nJ⟩:=lh.some_of (v:=v) (o:=valueAt vs k) (by rw[l];exact rel.val k)
  exact wpAny_getItem_of (uD ry) dd.mapOf hw (h w' _ (I.tok _) nJ)
 ·subst ey
  cases (show u=Value.ref b from ry)
  obtain⟨z,hd,xs,rel,dd⟩:=qV I.h_ e
  obtain⟨w',hw,nJ⟩:=lh.some_of (v:=v) (o:=(atKey xs k).map (·.2)) (by rw[l];exact rel.val k)
  obtain⟨p,hp,jA⟩:=fD.mp hw
  refine wpAny_getItem_heap (da hu) (pH I.h_ eb) dd hp ?_
  rw[jA]
  exact h w' _ (I.tok _) nJ
theorem OV{Q:Value->Shared->Prop}(hu:A.units+1<cLine)(I:Inv X pins σ H s)(g:j8 H a y o)(ry:RelV y u)(h:∀s',Inv X pins σ H s'->Q (.bool o.isSome) s'):
 wpAny (model X.prog X.w) A (compareOp .In u (.ref a)) Q E s:=by
 rcases g with⟨kvs,k,e,ey,l⟩ | ⟨kvs,k,b,e,ey,eb,l⟩
 ·subst ey
  obtain⟨z,hd,vs,rel,dd⟩:=sC I.h_ e
  refine wpAny_in_of (uD ry) hd dd.mapOf ?_
  rw[<-(rel.val k).uC,<-l]
  exact h _ (I.tok _)
 ·subst ey
  cases (show u=Value.ref b from ry)
  obtain⟨z,hd,xs,rel,dd⟩:=qV I.h_ e
  refine wpAny_in_heap (da hu) (pH I.h_ eb) hd dd ?_
  have q:=(rel.val k).uC
  rw[eO]at q
  rw[<-q,<-l]
  exact h _ (I.tok _)
theorem Pk{Q:Value->Shared->Prop}(hu:A.units+1<cLine)(I:Inv X pins σ H s)(g:j8 H a y o)(ry:RelV y u)(h:∀s',Inv X pins σ H s'->Q (.bool (!o.isSome)) s'):
 wpAny (model X.prog X.w) A (compareOp .NotIn u (.ref a)) Q E s:=by
 rcases g with⟨kvs,k,e,ey,l⟩ | ⟨kvs,k,b,e,ey,eb,l⟩
 ·subst ey
  obtain⟨z,hd,vs,rel,dd⟩:=sC I.h_ e
  refine wpAny_notIn_of (uD ry) hd dd.mapOf ?_
  rw[<-(rel.val k).uC,<-l]
  exact h _ (I.tok _)
 ·subst ey
  cases (show u=Value.ref b from ry)
  obtain⟨z,hd,xs,rel,dd⟩:=qV I.h_ e
  refine wpAny_notIn_heap (da hu) (pH I.h_ eb) hd dd ?_
  have q:=(rel.val k).uC
  rw[eO]at q
  rw[<-q,<-l]
  exact h _ (I.tok _)
theorem vX{h':Heap}{t':Nat}{ob:HO}(I:Inv X pins σ H s)(mu:p_ (H a))(hs:Heap.SameBut a s.heap h')(he:∃q,h'.get? a=some q)(new:jl X.prog X.w (upd H a ob) h' a ob):
 Inv X pins σ (upd H a ob) {s with heap:=h',toks:=t'}:=
 I.write (x:=a) (e:=a) mu (.inl rfl) (λb q hb z=>(hs.2 b hb).trans z) he new
theorem Qo{P:Program}{w:World}{U:Hp}{h':Heap}{kvs:List (Key×V)}{vs:List (Key×Value)}(z:kvs.length<=sizeLine)(hd:(a == sysModules)=false)(rel:KV kvs vs)(dd:h'.DictOf (i4 P w) a vs):
 jl P w U h' a (.dK kvs):=⟨z,hd,vs,rel,dd⟩
theorem PL{U:Hp}{Q:Unit->Shared->Prop}(hu:A.units+1<cLine)(I:Inv X pins σ H s)(g:tK H a y v U)(ry:RelV y u)(rv:RelV v r)(h:∀s',Inv X pins σ U s'->Q () s'):
 wpAny (model X.prog X.w) A (setItem (.ref a) u r) Q E s:=by
 rcases g with⟨kvs,k,e,ey,l,eH⟩ | ⟨kvs,k,b,e,ey,eb,l,eH⟩
 ·subst ey eH
  obtain⟨z,hd,vs,rel,dd⟩:=Qp I.h_ e
  have hz:vs.length<=sizeLine:=by rw[<-rel.length];exact z
  have hl:(putK kvs k v).length<=sizeLine:=by have:=Gk kvs k v;omega
  refine wpAny_setItem_pairs (hsz:=hz) (uD ry) dd λh' oz hs=>h _ ?_
  have he:∃q,h'.get? a=some q:=let ⟨q,_,_,hq,_⟩:=oz;⟨q,hq⟩
  exact vX I (by rw[e];exact True.intro) hs he (Qo hl hd (rel.put k rv) oz)
 ·subst ey eH
  cases (show u=Value.ref b from ry)
  obtain⟨z,hd,xs,rel,dd⟩:=AK I.h_ e
  have hz:xs.length<=sizeLine:=by rw[<-cF rel];exact z
  have hl:(putK kvs k v).length<=sizeLine:=by have:=Gk kvs k v;omega
  refine wpAny_setItem_heap (hsz:=hz) (da hu) (pH I.h_ eb) dd λh' oz hs=>h _ ?_
  obtain⟨q,es,ep,hq,h2,h3,h4,_,h5⟩:=oz
  refine vX I (by rw[e];exact True.intro) hs ⟨q,hq⟩ ⟨hl,hd,_,(rel.put k eb rv).keeps λc ys ec=>?_,q,es,ep,hq,h2,h3,h4,h5⟩
  rw[ip (iC ec e (λz=>nomatch z))]
  exact ec
end
section
variable{X:Cx}{pins:List (Addr×Obj)}{σ:St}{H:Hp}{s:Shared}{a:Addr}{kvs:List (Key×V)}{k:Key}{u:Value}{A:Around}{E:Value->Shared->Prop}
end
noncomputable def Ah(i:Expr):Prop:=∀ov iv,subscripted i false ov iv=operate [ov,iv] (getItem ov iv)
theorem Mo{prog:Program}{w:World}{A:Around}{E:Value->Shared->Prop}{s:Shared}{env:Env}{value slice:Expr}{pos:Pos}{T id:String}{Q:Value->Shared->Prop}
 (hl:typeLookup (.type T) "__getitem__"=pure (some (.builtin id))) (hs:Ah slice)
 (h:wpAny (model prog w) A (eval value env) (λo iW=>wpAny (model prog w) A (eval slice env) (λi kO=>kO.TypeIs o T/\wpAny (model prog w) A (getItem o i) Q E kO) E iW) E s):
 wpAny (model prog w) A (eval (.Subscript value slice pos) env) Q E s:=by
 refine Subscript_ (dB h (λo iW y8=>dB y8 (λi kO wO=>?_) λ_ _ x=>x) λ_ _ x=>x)
 obtain⟨hT,wO⟩:=wO
 unfold subscriptTail
 refine aa ?_
 rw[getitemInPython_of_ne hT.not_modules]
 refine aa (fj hT hl ?_)
 have fin:wpAny (model prog w) A (subscripted slice false o i) (λr u_=>wpAny (model prog w) A (letTemporaryGo value o r >>=λ_=>pure r) Q E u_) E kO:=by
  rw[hs o i]
  exact wpAny_operating (dB wO (λr u_ y9=>aa (wpAny_letTemporaryGo (af y9))) λ_ _ x=>x)
 first
  | exact af (aa fin)
  | exact aa (af (aa fin))
  | exact aa fin
theorem Qm{X:Cx}{pins:List (Addr×Obj)}{σ:St}{H:Hp}{s:Shared}{a:Addr}{y:V}{o:Option V}(I:Inv X pins σ H s)(g:j8 H a y o):s.TypeIs (.ref a) "dict":=by
 rcases g with⟨kvs,k,e,_,_⟩ | ⟨kvs,k,b,e,_,_,_⟩
 ·obtain⟨_,_,vs,_,dd⟩:=sC I.h_ e
  exact dd.typeIs
 ·obtain⟨_,_,xs,_,dd⟩:=qV I.h_ e
  exact dd.typeIs
noncomputable def Du(td ty:TE):TE:=λσ H Q=>td σ H λx H1=>ty σ H1 λy H2=>∃a v,x= .ref a/\j8 H2 a y (some v)/\Q v H2
noncomputable def Mw(ty td:TE):TE:=λσ H Q=>ty σ H λy H1=>td σ H1 λx H2=>∃a o,x= .ref a/\j8 H2 a y o/\Q (.bl o.isSome) H2
noncomputable def abt(ty td:TE):TE:=λσ H Q=>ty σ H λy H1=>td σ H1 λx H2=>∃a o,x= .ref a/\j8 H2 a y o/\Q (.bl (!o.isSome)) H2
noncomputable def aap(td ty tv:TE):TS:=λD σ H=>tv σ H λv H1=>td σ H1 λx H2=>ty σ H2 λy H3=>∃a H4,x= .ref a/\tK H3 a y v H4/\D.nx σ H4
section
variable{X:Cx}{o i e value:Expr}{pos pos' lF:Pos}{td ty tv:TE}
theorem uU(hu:X.A.units+1<cLine)(ho:PE X o td)(hi:PE X i ty)(hs:Ah i):PE X (.Subscript o i pos) (Du td ty):=by
 intro pins s σ H Q I h
 refine Mo PySem.F.slot_dict_getitem.lookup hs (ir (ho pins s σ H _ I h) λu s1 ⟨x,H1,I1,rx,q1⟩=>ir (hi pins s1 σ H1 _ I1 q1) λiv s2 zq=>?_)
 obtain⟨y,H2,I2,ry,a,v,ex,g,q2⟩:=zq
 subst ex
 obtain rfl:u=Value.ref a:=rx
 exact⟨Qm I2 g,OS hu I2 g ry λw' s3 I3 nJ=>⟨v,H2,I3,nJ,q2⟩⟩
theorem CN(hu:X.A.units+1<cLine)(hi:PE X i ty)(ho:PE X o td):PC X .In i o (Mw ty td):=by
 intro pins s σ H Q I h
 refine ir (hi pins s σ H _ I h) λiv s1 ⟨y,H1,I1,ry,q1⟩=>ir (ho pins s1 σ H1 _ I1 q1) λu s2 zq=>?_
 obtain⟨x,H2,I2,rx,a,ov,ex,g,q2⟩:=zq
 subst ex
 obtain rfl:u=Value.ref a:=rx
 exact OV hu I2 g ry λs3 I3=>⟨.bl ov.isSome,H2,I3,rfl,q2⟩
theorem X7(hu:X.A.units+1<cLine)(hi:PE X i ty)(ho:PE X o td):PC X .NotIn i o (abt ty td):=by
 intro pins s σ H Q I h
 refine ir (hi pins s σ H _ I h) λiv s1 ⟨y,H1,I1,ry,q1⟩=>ir (ho pins s1 σ H1 _ I1 q1) λu s2 zq=>?_
 obtain⟨x,H2,I2,rx,a,ov,ex,g,q2⟩:=zq
 subst ex
 obtain rfl:u=Value.ref a:=rx
 exact Pk hu I2 g ry λs3 I3=>⟨.bl (!ov.isSome),H2,I3,rfl,q2⟩
theorem Ih(hu:X.A.units+1<cLine)(ho:PE X o td)(hi:PE X i ty)(hv:PE X value tv)(hs:swapsWith value (some (.Subscript o i pos')) pos.line X.env=pure false):
 PS X (.Assign [.Subscript o i pos'] value pos) (aap td ty tv):=by
 intro pins s σ H D I h
 refine wpAny_Assign_Subscript (ir (hv pins s σ H _ I h) λr s1 ⟨v,H1,I1,rv,q1⟩=>ir (ho pins s1 σ H1 _ I1 q1) λu s2 ⟨x,H2,I2,rx,q2⟩=>ir (hi pins s2 σ H2 _ I2 q2) λiv s3 ⟨y,H3,I3,ry,a,H4,ex,g,q3⟩=>?_) hs
 subst ex
 obtain rfl:u=Value.ref a:=rx
 exact PL hu I3 g ry rv λs4 I4=>⟨σ,H4,I4,q3⟩
end
theorem Eb{P:Program}{w:World}{H:Hp}(h:Heap)(hb:sysModules<h.objs.size):jl P w H (h.push {cls:=.type "dict",data:=.dict #[]}) h.objs.size (.dT []):=
 ⟨aU _,bX.mpr (cJ (a9 hb)),[],.nil,_,#[],0,aC _ rfl,⟨rfl,rfl,rfl⟩,rfl,rfl,gu⟩
noncomputable def abr:TE:=λ_ H Q=>∀p,H p=none->Q (.ref p) (upd H p (.dT []))
section
variable{X:Cx}{pos:Pos}
theorem Yd:PE X (.Dict [] [] pos) abr:=λpins s σ H Q I h=>
 wpAny_Dict_empty ⟨.ref s.heap.objs.size,_,I.laid (a:=s.heap.objs.size) (o:=.dT []) (t':=s.toks) (λ_ _ q=>ag _ q) (ax _) (Eb s.heap I.yb),rfl,h _ (I.h_.fresh (ax _))⟩
end
noncomputable def Dv:List (TE×TE)->St->Hp->(List (V×V)->Hp->Prop)->Prop
 | [],_,H,Q=>Q [] H
 | (tk,tv)::r,σ,H,Q=>tk σ H λx H1=>tv σ H1 λy H2=>Dv r σ H2 λps H3=>Q ((x,y)::ps) H3
noncomputable abbrev VV:List (V×V)->List (Value×Value)->Prop:=Paired λp q=>RelV p.1 q.1/\RelV p.2 q.2
noncomputable def Al(X:Cx)(pos:Pos)(keys:List (Option Expr))(values:List Expr)(rV:List (TE×TE)):Prop:=
 ∀
  (pins:List (Addr×Obj)) (s:Shared) (σ:St) (H:Hp) (Q:List (V×V)->Hp->Prop),Inv X pins σ H s->Dv rV σ H Q->
  wpAny (model X.prog X.w) X.A (evalPairs (pairTrees keys values X.env pos)) (λvs s'=>∃ps U,Inv X pins σ U s'/\VV ps vs/\Q ps U) X.xe s
theorem Yv{X:Cx}{pos:Pos}:Al X pos [] [] []:=λpins s σ H Q I h=>pairTrees_nil_walk ⟨[],H,I,.nil,h⟩
theorem Yu{X:Cx}{pos:Pos}{k v:Expr}{ks:List (Option Expr)}{vs:List Expr}{tk tv:TE}{rV:List (TE×TE)}(hk:PE X k tk)(hv:PE X v tv)(hr:Al X pos ks vs rV):
 Al X pos (some k::ks) (v::vs) ((tk,tv)::rV):=λpins s σ H Q I h=>
 pairTrees_cons_walk (ir (hk pins s σ H _ I h) λu s1 ⟨x,H1,I1,rx,q1⟩=>ir (hv pins s1 σ H1 _ I1 q1) λw2 s2 ⟨y,H2,I2,ry,q2⟩=>
  ir (hr pins s2 σ H2 _ I2 q2) λws s3 ⟨ps,H3,I3,rel,q3⟩=>⟨(x,y)::ps,H3,I3,.cons ⟨rx,ry⟩ rel,q3⟩)
structure M1(X:Cx)(o:Expr)(m:Str)(apos:Pos)(e:Expr)(jm:Pos):Prop where
 base:attributeBase o m X.env (eval o X.env)=eval o X.env
 mO:((backTo jm (starEach [e] X.env)).all (λx=>!x.1)&&(backToKw jm (keywordEach [] X.env)).all (λx=>x.1.isSome)
  &&decide (([e]:List Expr).length+([]:List Keyword).length+(if ([]:List Keyword).isEmpty then 0 else 1)<30))=true
 line:(apos.endLine == jm.line)=true
 trees:backTo jm (starEach [e] X.env)=[(false,eval e X.env)]
structure M2(X:Cx)(o:Expr)(m:Str)(apos:Pos)(e f:Expr)(jm:Pos):Prop where
 base:attributeBase o m X.env (eval o X.env)=eval o X.env
 mO:((backTo jm (starEach [e,f] X.env)).all (λx=>!x.1)&&(backToKw jm (keywordEach [] X.env)).all (λx=>x.1.isSome)
  &&decide (([e,f]:List Expr).length+([]:List Keyword).length+(if ([]:List Keyword).isEmpty then 0 else 1)<30))=true
 line:(apos.endLine == jm.line)=true
 trees:backTo jm (starEach [e,f] X.env)=[(false,eval e X.env),(false,eval f X.env)]
noncomputable def Ae(H:Hp)(a:Addr):Prop:=(∃kvs,Rd H a (.dK kvs))\/∃kvs,Rd H a (.dT kvs)
theorem F4{X:Cx}{pins:List (Addr×Obj)}{σ:St}{H:Hp}{s:Shared}{a:Addr}(I:Inv X pins σ H s)(d:Ae H a):
 s.TypeIs (.ref a) "dict"/\(∀b,Value.ref a= .ref b->∃ob,s.heap.get? b=some ob/\ob.dict=none)/\(a == sysModules)=false:=by
 rcases d with⟨kvs,e⟩ | ⟨kvs,e⟩
 ·obtain⟨_,hd,vs,_,dd⟩:=sC I.h_ e
  refine⟨dd.typeIs,λb q=>?_,hd⟩
  cases q
  obtain⟨ob,_,_,h1,h2,_⟩:=dd
  exact⟨ob,h1,h2.2.1⟩
 ·obtain⟨_,hd,xs,_,dd⟩:=qV I.h_ e
  refine⟨dd.typeIs,λb q=>?_,hd⟩
  cases q
  obtain⟨ob,_,_,h1,h2,_⟩:=dd
  exact⟨ob,h1,h2.2.1⟩
section
variable{X:Cx}{pins:List (Addr×Obj)}{σ:St}{H:Hp}{s:Shared}{a:Addr}{y d:V}{u r:Value}{o:Option V}{A:Around}{E:Value->Shared->Prop}
theorem OR{Q:Value->Shared->Prop}(hu:A.units+1<cLine)(I:Inv X pins σ H s)(g:j8 H a y o)(ry:RelV y u)(rd:RelV d r)(h:∀w' s',Inv X pins σ H s'->RelV (o.getD d) w'->Q w' s'):
 wpAny (model X.prog X.w) A (call (.builtin "dict.get") [.ref a,u,r]) Q E s:=by
 rcases g with⟨kvs,k,e,ey,l⟩ | ⟨kvs,k,b,e,ey,eb,l⟩
 ·subst ey
  obtain⟨z,hd,vs,rel,dd⟩:=sC I.h_ e
  refine gr fQ dd.typeIs PySem.F.entry_dict_get (PySem.F.args_dict_get_3 _ _ _) (meets_dict_get_default (i4 X.prog X.w) a (uD ry) hd r) ⟨_,dd.mapOf,h _ _ (I.tok _) ?_⟩
  rw[l]
  exact(rel.val k).getD rd
 ·subst ey
  cases (show u=Value.ref b from ry)
  obtain⟨z,hd,xs,rel,dd⟩:=qV I.h_ e
  refine gr fQ dd.typeIs PySem.F.entry_dict_get (PySem.F.args_dict_get_3 _ _ _) (meetsH_dict_get_default (tupleKind (i4 X.prog X.w)) a b hd r) ⟨da hu,k,xs,pH I.h_ eb,dd,h _ _ (I.tok _) ?_⟩
  rw[l]
  exact(rel.val k).getD rd
end
noncomputable def Mv(td ty tx:TE):TE:=λσ H Q=>td σ H λx H1=>∃a,x= .ref a/\Ae H1 a/\ty σ H1 λy H2=>tx σ H2 λz H3=>∃o,j8 H3 a y o/\Q (o.getD z) H3
section
variable{X:Cx}{o e f:Expr}{apos jm:Pos}{td ty tx:TE}
theorem X9(hu:X.A.units+1<cLine)(ho:PE X o td)(he:PE X e ty)(hf:PE X f tx)(m:M2 X o "get" apos e f jm):PE X (.Call (.Attribute o "get" apos) [e,f] [] jm) (Mv td ty tx):=by
 intro pins s σ H Q I h
 refine eP m.base m.mO m.line ft fQ PySem.F.type_dict_get (ir (ho pins s σ H _ I h) λu s1 zq=>?_)
 obtain⟨x,H1,I1,rx,a,ex,d,q1⟩:=zq
 subst ex
 obtain rfl:u=Value.ref a:=rx
 obtain⟨t1,t2,_⟩:=F4 I1 d
 refine⟨t1,t2,?_⟩
 rw[m.trees]
 refine dH rfl (dX (cU (ir (he pins s1 σ H1 _ I1 q1) λiv s2 ⟨y,H2,I2,ry,q2⟩=>
  cU (ir (hf pins s2 σ H2 _ I2 q2) λfv s3 ⟨z,H3,I3,rz,ov,g,q3⟩=>dW ?_))))
 exact OR hu I3 g ry rz λw' s4 I4 nJ=>⟨_,H3,I4,nJ,q3⟩
end
section
variable{X:Cx}{pins:List (Addr×Obj)}{σ:St}{H:Hp}{s:Shared}{a:Addr}{kvs:List (Key×V)}{A:Around}{E:Value->Shared->Prop}
end
section
variable{X:Cx}{pins:List (Addr×Obj)}{σ:St}{H:Hp}{s:Shared}{a:Addr}{y:V}{u:Value}{A:Around}{E:Value->Shared->Prop}
end
theorem MO:entryFor table "dict.update.loop"=some Builtin.«dict.update.loop»:=entryFor_of_tree (by kernel_rfl)
theorem xM:plainId "dict.update.loop"=true:=by decide +kernel
section
variable{prog:Program}{w:World}{A:Around}{E:Value->Shared->Prop}
end
section
variable{X:Cx}
theorem Iv:∀{ps:List Addr} {us:List Value},iG (ps.map V.ref) us->us=ps.map Value.ref
 | [],us,r=>by
  rw[dY]at r
  cases r
  rfl
 | p::ps,us,r=>by
  rw[aO]at r
  cases r with
  | cons h t=>
   cases h
   rw[aO,<-Iv t]
end
section
variable{X:Cx}{pins:List (Addr×Obj)}{σ:St}{H:Hp}{s:Shared}{h':Heap}
theorem Inv.MK{t':Nat}{ch:List Addr}(I:Inv X pins σ H s)(k:∀b o,b∉ch->s.heap.get? b=some o->h'.get? b=some o)(hf:∀b∈ch,m6 X pins H b):Inv X pins σ H {s with heap:=h',toks:=t'}:=by
 have rG:∀b u,H b=some u->b∉ch:=λb u e z=>by
  have q:=(hf b z).1
  rw[q]at e;cases e
 refine I.step (g':=s.gens) (d':=s.drawn) (ch:=ch) (λb hb=>⟨(hf b hb).2.2.2.1,(hf b hb).2.1,(hf b hb).2.2.2.2.1,(hf b hb).2.2.2.2.2⟩) (λb o _ _ hc e _=>k b o hc e) (λb o _ _ hc e _=>⟨o.slots,k b o hc e⟩)
  (λ_ _ _ _ n=>n) (λb o hc e=>⟨o,k b o hc e⟩) (λ_ _ e=>e) (λ_ _ _ e=>e) (λb ps e=>⟨#[],by rw[e];simp⟩) (λm hm=>?_) (λb u e=>?_) I.bare
 ·obtain⟨o,es,ep,ho,r⟩:=hm
  exact⟨o,es,ep,k _ o (λz=>(hf _ z).2.1 rfl) ho,r⟩
 ·refine(I.h_ b u e).pT (λc v hc q=>k c v ?_ q) (λ_ q=>q) λ_ _ q=>q
  rcases hc with z | z
  ·rw[z];exact rG b u e
  ·exact rG c _ z
theorem Inv.xK{t':Nat}{ch:List Addr}{T:Addr}{ob:HO}(I:Inv X pins σ H s)(k:∀b o,b∉ch->s.heap.get? b=some o->h'.get? b=some o)(hf:∀b∈ch,m6 X pins H b)(hT:s.heap.objs.size<=T)
 (new:jl X.prog X.w (upd H T ob) h' T ob):Inv X pins σ (upd H T ob) {s with heap:=h',toks:=t'}:=by
 have hn:H T=none:=I.h_.fresh hT
 have rG:∀b u,H b=some u->b∉ch:=λb u e z=>by
  have q:=(hf b z).1
  rw[q]at e;cases e
 refine I.step (g':=s.gens) (d':=s.drawn) (ch:=ch) (λb hb=>⟨(hf b hb).2.2.2.1,(hf b hb).2.1,(hf b hb).2.2.2.2.1,(hf b hb).2.2.2.2.2⟩) (λb o _ _ hc e _=>k b o hc e) (λb o _ _ hc e _=>⟨o.slots,k b o hc e⟩)
  (λb o _ e n=>?_) (λb o hc e=>⟨o,k b o hc e⟩) (λb xs e=>?_) (λb o u e=>?_) (λb ps e=>⟨#[],?_⟩) (λm hm=>?_) (λb u e=>?_) I.bare
 ·rw[ip (a9 (aS (aF e) hT))];exact n
 ·rw[ip (jB e hn)];exact e
 ·rw[ip (jB e hn)];exact e
 ·rw[ip (jB e hn),e];simp
 ·obtain⟨o,es,ep,ho,r⟩:=hm
  exact⟨o,es,ep,k _ o (λz=>(hf _ z).2.1 rfl) ho,r⟩
 ·by_cases hb:b=T
  ·subst hb
   rw[e_]at e
   cases e
   exact new
  ·rw[ip hb]at e
   refine(I.h_ b u e).pT (λc v hc q=>k c v ?_ q) (λc q=>by rw[ip (jB q hn)];exact q) λc xs q=>by rw[ip (jB q hn)];exact q
   rcases hc with z | z
   ·rw[z];exact rG b u e
   ·exact rG c _ z
theorem Inv.lock{d:Addr}{u:HO}(I:Inv X pins σ H s)(h:H d=some u)(mu:p_ (some u)):∃od,Inv X pins σ (upd H d (.iF od u)) s:=by
 have x:=I.h_ d u h
 have ex:∃od,s.heap.get? d=some od:=by
  cases u with
  | lst xs=>obtain⟨_,_,_,_,e⟩:=x;exact⟨_,e⟩
  | dK kvs=>obtain⟨_,_,_,_,o,_,_,e,_⟩:=x;exact⟨o,e⟩
  | dT kvs=>obtain⟨_,_,_,_,o,_,_,e,_⟩:=x;exact⟨o,e⟩
  | set S n=>obtain⟨o,_,_,_,e,_⟩:=x;exact⟨o,e⟩
  | ins C dx fs=>obtain⟨_,_,_,e,_⟩:=x;exact⟨_,e⟩
  | ext φ=>obtain⟨_,⟨_,e⟩,_⟩:=x;exact⟨_,e⟩
  | _=>exact False.elim mu
 obtain⟨od,e⟩:=ex
 have new:jl X.prog X.w (upd H d (.iF od u)) s.heap d (.iF od u):=by
  refine⟨e,x.pT (λb v _ q=>q) (λb q=>?_) λb xs q=>?_⟩
  ·rw[ip (λz=>by rw[z,h]at q;cases q;exact mu)];exact q
  ·rw[ip (λz=>by rw[z,h]at q;cases q;exact mu)];exact q
 exact⟨od,I.write (x:=d) (e:=d) (t':=s.toks) (h':=s.heap) (by rw[h];exact mu) (.inl rfl) (λb v _ q=>q) ⟨od,e⟩ new⟩
theorem Inv.xk{d:Addr}{u:HO}(I:Inv X pins σ H s)(h:H d=some u)(mu:p_ (some u)):∀o' u',X.r0 d≠some (.iF o' u'):=λo' u' e=>by
 have q:=I.base.oG d o' u' e
 rw[h]at q
 cases q
 exact mu
theorem Inv.unlock{d:Addr}{od:Obj}{u:HO}(I:Inv X pins σ H s)(h:H d=some (.iF od u))(hn:∀o' u',X.r0 d≠some (.iF o' u')):Inv X pins σ (upd H d u) s:=by
 have uO:∀b o,H b=some o->(∀o' u',o≠.iF o' u')->b≠d:=λb o e iJ z=>by
  rw[z,h]at e
  cases e
  exact iJ _ _ rfl
 have neN:∀b,H b=none->b≠d:=λb e z=>by rw[z,h]at e;cases e
 refine⟨I.ok,I.os,I.bare,⟨I.base.keep,I.base.slot,λb o e n hx=>?_,I.base.there,λb xs e=>?_,λb o x e=>?_,λb ps e=>?_⟩,I.loc,I.cell,?_,λx c e=>?_,λp hp=>?_,λb o e=>?_,I.len⟩
 ·rw[ip (neN b (I.base.free b o e n hx))];exact I.base.free b o e n hx
 ·have q:=I.base.qI b xs e
  rw[ip (uO b _ q (λ_ _ z=>nomatch z))];exact q
 ·have q:=I.base.oG b o x e
  rw[ip (λz=>by rw[z]at e;exact hn _ _ e)];exact q
 ·obtain⟨m,q⟩:=I.base.qH b ps e
  exact⟨m,by rw[ip (uO b _ q (λ_ _ z=>nomatch z))];exact q⟩
 ·rw[ip (neN _ I.free)];exact I.free
 ·rw[ip (neN c (I.nh x c e))];exact I.nh x c e
 ·obtain⟨e,n,r⟩:=I.pin p hp
  exact⟨e,by rw[ip (neN _ n)];exact n,r⟩
 ·by_cases hb:b=d
  ·rw[hb,e_]at e
   cases e
   rw[hb]
   obtain⟨_,x⟩:=I.h_ d _ h
   exact x.pT (λc v _ q=>q) (λc q=>by rw[ip (uO c _ q (λ_ _ z=>nomatch z))];exact q) λc xs q=>by rw[ip (uO c _ q (λ_ _ z=>nomatch z))];exact q
  ·rw[ip hb]at e
   exact(I.h_ b o e).pT (λc v _ q=>q) (λc q=>by rw[ip (uO c _ q (λ_ _ z=>nomatch z))];exact q) λc xs q=>by rw[ip (uO c _ q (λ_ _ z=>nomatch z))];exact q
end
noncomputable def abB(t:TS):TS:=λD σ H=>∃d u,H d=some u/\p_ (some u)/\∀od,t ⟨λik U=>U d=some (.iF od u)/\D.nx ik (upd U d u),λv U=>U d=some (.iF od u)/\D.rt v (upd U d u),λik U=>U d=some (.iF od u)/\D.bk ik (upd U d u),λik U=>U d=some (.iF od u)/\D.ct ik (upd U d u)⟩ σ (upd H d (.iF od u))
noncomputable def abC(t:TE):TE:=λσ H Q=>∃d u,H d=some u/\p_ (some u)/\∀od,t σ (upd H d (.iF od u)) λv U=>U d=some (.iF od u)/\Q v (upd U d u)
section
variable{X:Cx}
theorem C0{st:Stmt}{t:TS}(h:PS X st t):PS X st (abB t):=by
 intro pins s σ H D I hw
 obtain⟨d,u,hd,mu,hw⟩:=hw
 obtain⟨od,I1⟩:=I.lock hd mu
 refine ir (h pins s σ _ _ I1 (hw od)) λf s1 q=>?_
 cases f with
 | next=>obtain⟨ik,U,I2,e,q⟩:=q;exact⟨ik,_,I2.unlock e (I.xk hd mu),q⟩
 | brk=>obtain⟨ik,U,I2,e,q⟩:=q;exact⟨ik,_,I2.unlock e (I.xk hd mu),q⟩
 | cont=>obtain⟨ik,U,I2,e,q⟩:=q;exact⟨ik,_,I2.unlock e (I.xk hd mu),q⟩
 | ret v=>obtain⟨x,ik,U,I2,r,e,q⟩:=q;exact⟨x,ik,_,I2.unlock e (I.xk hd mu),r,q⟩
theorem CQ{e:Expr}{t:TE}(h:PE X e t):PE X e (abC t):=by
 intro pins s σ H Q I hw
 obtain⟨d,u,hd,mu,hw⟩:=hw
 obtain⟨od,I1⟩:=I.lock hd mu
 refine ir (h pins s σ _ _ I1 (hw od)) λv s1 zq=>?_
 obtain⟨x,H1,I2,r,e2,q⟩:=zq
 exact⟨x,_,I2.unlock e2 (I.xk hd mu),r,q⟩
theorem uW{tg:Expr}{pins:List (Addr×Obj)}{σ:St}{H:Hp}{s:Shared}{R:It->Hp->Prop}{J:It}{tn:Nat->Heap->Prop}{tk:Nat}(I:Inv X pins σ H s)(o:Obj)
 (T:Turn X.prog X.w X.K tg J [s.heap.objs.size] s.heap.objs.size tn) (st:tn 0 (s.heap.push o)) (q:R J H):vD X pins σ tg R (.ref s.heap.objs.size) {s with heap:=s.heap.push o,toks:=tk}:=by
 refine⟨s.heap.objs.size,[s.heap.objs.size],tn,J,H,rfl,I.kept λb ob e=>ag _ e,T,st,λb hb=>?_,q⟩
 have e:b=s.heap.objs.size:=by simpa using hb
 subst e
 exact I.qj (ax _) (I.h_.fresh (ax _))
end
section
variable{X:Cx}{tg:Expr}
end
section
variable{X:Cx}{tg:Expr}
end
noncomputable def vx(x:Str):It:=⟨λi _=>i<x.cps.size,λi H v U=>U=H/\∃c,x.cps[i]? =some c/\v= .str ⟨#[c]⟩,λi _=>x.cps.size<=i⟩
theorem MJ{P:Program}{w:World}{K:Fg}{tg:Expr}(it:Addr)(x:Str)(t:Tok)(ty:String)(uz:ty="str_ascii_iterator"\/ty="str_iterator"):
 Turn P w K tg (vx x) [it] it (λi h=>h.IsStrIter it ty x t i) where
 mem:=by simp
 obj:=λi h st b hb=>by
  have e:b=it:=by simpa using hb
  subst e
  obtain⟨o,e,c,d⟩:=st
  exact⟨o,e,λv z=>by rw[d]at z;cases z⟩
 keep:=λi h h' st k=>let ⟨o,ho,r⟩:=st;⟨o,k it (by simp) o ho,r⟩
 item:=by
  intro X hP hw hK hc i pins s σ H E I hf st hg
  subst hP hw hK
  obtain⟨f0,f1,f2,f3,f4,f5⟩:=hf it (by simp)
  have W:Walks X.prog X.w X.A it [it] [it] x.cps.size (SignAt x) (λi h=>h.IsStrIter it ty x t i):=by
   rcases uz with e | e
   ·rw[e];exact Walks.strAscii (I.ok.hd hc) it x t
   ·rw[e];exact Walks.strWide (I.ok.hd hc) it x t
  have rf:["enumerate","zip","dict_itemiterator","dict_reverseitemiterator","odict_iterator","itertools.zip_longest","itertools.pairwise"].contains ty=false:=by
   rcases uz with e | e
   ·rw[e];decide
   ·rw[e];decide
  refine W.item i s _ _ hg st λv h' tk hv kG kk=>?_
  obtain⟨c,u,Sy,rfl⟩:=hv
  have I1:Inv X pins σ H {s with heap:=h',toks:=tk}:=I.turned (λb o hb e=>kk b o (by simpa using hb) e) f0 f1 f3 f4 f5
  obtain⟨oi,e,cc,dd⟩:=id kG
  exact⟨_,rfl,sF (s:={s with heap:=h',toks:=tk}) e cc dd rf ⟨.str ⟨#[c]⟩,H,I1,⟨u,rfl⟩,⟨rfl,c,Sy,rfl⟩,kG,λb hb=>(hf b hb).1⟩⟩
 done:=by
  intro X hP hw hK hc i pins s σ H E I hf st hg
  subst hP hw hK
  obtain⟨f0,f1,f2,f3,f4,f5⟩:=hf it (by simp)
  have hx:x.cps[i]? =none:=dI hg
  rcases uz with e | e
  ·rw[e]at st
   exact wpAny_pyNext_ascii_end (I.ok.hd hc) st hx λh' eb=>⟨rfl,I.turned (t':=s.toks) (λb o hb e=>eb b o hb e) f0 f1 f3 f4 f5⟩
  ·rw[e]at st
   exact wpAny_pyNext_wide_end (I.ok.hd hc) st hx λh' eb=>⟨rfl,I.turned (t':=s.toks) (λb o hb e=>eb b o hb e) f0 f1 f3 f4 f5⟩
 self:=λA i s Q E st h=>by
  rcases uz with e | e
  ·rw[e]at st;exact wpAny_pyIter_striter_ascii st h
  ·rw[e]at st;exact wpAny_pyIter_striter_wide st h
noncomputable def UG(te:TE):TI:=λσ H R=>te σ H λv H1=>∃x,v= .str x/\R (vx x) H1
theorem Ym{X:Cx}{tg e:Expr}{te:TE}(he:PE X e te):PI X tg e (UG te):=by
 intro pins s σ H R I h
 refine ir (he pins s σ H _ I h) λv s1 zq=>?_
 obtain⟨y,H1,I1,r1,x,ex,q⟩:=zq
 subst ex
 obtain⟨t,rfl⟩:=r1
 cases ha:x.cps.all (· < 128)
 ·exact wpAny_pyIter_wide ha (uW (tk:=s1.toks) I1 _ (MJ _ x t "str_iterator" (.inr rfl)) ⟨_,aC _ rfl,rfl,rfl⟩ q)
 ·exact wpAny_pyIter_ascii ha (uW (tk:=s1.toks) I1 _ (MJ _ x t "str_ascii_iterator" (.inl rfl)) ⟨_,aC _ rfl,rfl,rfl⟩ q)
section
variable{prog:Program}{w:World}{A:Around}{E:Value->Shared->Prop}{s:Shared}
theorem BZ{d:Addr}{o:Obj}{es:Array DictEntry}{ep:Nat}{Q:Value->Shared->Prop}(hd:(d == sysModules)=false)(ho:s.heap.get? d=some o)(hc:o.ExactDict)(E2:o.data= .dict es ep)
 (hQ:Q (.ref s.heap.objs.size) {s with heap:=s.heap.push {cls:=.type "dict_keyiterator",data:=.fields #[.ref d,.int 0 0,.int es.size 0,.int ep 0]}}):
 wpAny (model prog w) A (pyIter (.ref d)) Q E s:=by
 have hT:s.TypeIs (.ref d) "dict":=⟨o,ho,hc.1⟩
 refine fH hT F.slot_dict_iter (bo F.slot_dict_iter hT F.entry_dict_iter ?_ (F.args_dict_iter_1 _))
 unfold Builtin.«dict.__iter__»
 refine aa ?_
 unfold Builtin.Dict.dictSlotNone
 refine aa (cY hT ?_)
 show wpAny _ _ (pure (Value.ref d)) _ _ s
 refine af ?_
 show wpAny _ _ (Builtin.Dict.showsAll d >>=_) _ _ s
 unfold Builtin.Dict.showsAll
 rw[aq (by rw[hd];exact ao)]
 refine aa (af ?_)
 refine aa (bO ho E2 ?_)
 refine aa (cX ho E2 ?_)
 refine aa (bG (af ⟨_,rfl,"dict_keyiterator",_,⟨_,aC _ rfl,rfl⟩,cw.lookup,?_⟩))
 simpa [rawInt] using hQ
theorem G1{it d:Addr}{i n ep:Nat}{od:Obj}{es:Array DictEntry}{en:DictEntry}{Q:Option Value->Shared->Prop}(hit:s.heap.IsKeyIter it d i n ep)(lM:s.heap.get? d=some od)(mi:od.data= .dict es ep)
 (hsz:es.size=n) (hx:es[i]? =some en) (hQ:∀h',h'.IsKeyIter it d (i+1) n ep->Heap.SameBut it s.heap h'->Q (some en.key) {s with heap:=h'}):wpAny (model prog w) A (pyNext (.ref it)) Q E s:=by
 obtain⟨o,ho,hc,hd⟩:=id hit
 unfold pyNext
 refine aa (dh (bc (name:=Str.ofString "__next__") hit.typeIs cw
  (bo cw hit.typeIs F.entry_dict_keyiterator_next ?_ (F.args_dict_keyiterator_next_1 _))))
 refine aa (af ?_)
 refine aa ?_
 refine aa ?_
 first | refine aa (dj hit.typeIs (af ?_)) | refine aa (d4 hit.typeIs (af ?_))
 refine aa (eY ho hd ?_)
 have Bu:Builtin.Dict_items.ownsTuple "dict_keyiterator"=false:=by decide
 simp only[Bu,aK,bq]
 show wpAny _ _ (if (Value.ref d == Value.none)=true then _ else _) _ _ s
 rw[aq (show ¬((Value.ref d == Value.none)=true) from ao)]
 refine aa (af ?_)
 refine aa (bO lM mi ?_)
 rw[aq (by rw[hsz];simp)]
 refine aa (af ?_)
 refine aa (cX lM mi ?_)
 rw[aq (by simp)]
 refine af ?_
 obtain⟨Te,mQ⟩:=Array.getElem?_eq_some_iff.mp hx
 simp only[show ¬((i:Int)<0) from by omega,bq,b9,Array.getElem?_eq_getElem Te]
 refine aa ?_
 first | refine aa (dj hit.typeIs (af ?_)) | refine aa (d4 hit.typeIs (af ?_))
 refine aa (wpAny_isOneOf_keyiter hit.typeIs ?_)
 show wpAny _ _ (setField (.ref it) 1 (rawInt ((i:Int)+1)) >>=_) _ _ s
 refine aa (d9 ho hd (by simp) ?_)
 have yN:(s.heap.update it (Obj.mapFields (·.setIfInBounds 1 (rawInt ((i:Int)+1))))).IsKeyIter it d (i+1) n ep:=
  ⟨_,dR _ ho (fR (dN hd _)),(Obj.cls_mapFields ..).trans hc,by rw[dN hd];simp[rawInt]⟩
 refine aa (cQ ?_)
 refine aa (wpAny_isOneOf_keyiter (s:={s with heap:=s.heap.update it (Obj.mapFields (·.setIfInBounds 1 (rawInt ((i:Int)+1))))}) yN.typeIs ?_)
 show wpAny _ _ (pure es[i].key) _ _ _
 rw[mQ]
 exact af (af ⟨_,rfl,af (hQ _ yN (bJ ..))⟩)
theorem Cr{it d:Addr}{i n ep:Nat}{od:Obj}{es:Array DictEntry}{Q:Option Value->Shared->Prop}(hh:A.handled=none)(hit:s.heap.IsKeyIter it d i n ep)(lM:s.heap.get? d=some od)(mi:od.data= .dict es ep)
 (hsz:es.size=n) (Bi:n<=i) (hQ:∀h',Heap.ExtBut it s.heap h'->Q none {s with heap:=h'}):wpAny (model prog w) A (pyNext (.ref it)) Q E s:=by
 obtain⟨o,ho,hc,hd⟩:=id hit
 unfold pyNext
 refine aa (dh (bc (name:=Str.ofString "__next__") hit.typeIs cw
  (bo cw hit.typeIs F.entry_dict_keyiterator_next ?_ (F.args_dict_keyiterator_next_1 _))))
 refine aa (af ?_)
 refine aa ?_
 refine aa ?_
 first | refine aa (dj hit.typeIs (af ?_)) | refine aa (d4 hit.typeIs (af ?_))
 refine aa (eY ho hd ?_)
 have Bu:Builtin.Dict_items.ownsTuple "dict_keyiterator"=false:=by decide
 simp only[Bu,aK,bq]
 show wpAny _ _ (if (Value.ref d == Value.none)=true then _ else _) _ _ s
 rw[aq (show ¬((Value.ref d == Value.none)=true) from ao)]
 refine aa (af ?_)
 refine aa (bO lM mi ?_)
 rw[aq (by rw[hsz];simp)]
 refine aa (af ?_)
 refine aa (cX lM mi ?_)
 rw[aq (by simp)]
 refine af ?_
 have SM:es.size<=i:=by rw[hsz];exact Bi
 simp only[show ¬((i:Int)<0) from by omega,bq,b9,dI SM]
 refine aa ?_
 first | refine aa (dj hit.typeIs (af ?_)) | refine aa (d4 hit.typeIs (af ?_))
 show wpAny _ _ (setField (.ref it) 0 .none >>=_) _ _ s
 refine aa (d9 ho hd (by simp) ?_)
 show wpAny _ _ (newExc (.type "StopIteration") [] >>=_) _ _ _
 refine aa ?_
 simp only[newExc,newTuple]
 refine aa (bG ?_ (by size_fits))
 refine aa (m:=firstArgMember _ _) (wpAny_of_eq (a:=Value.none) (by first | rfl | (simp only[firstArgMember];rfl)) ?_)
 refine bG ?_ (by size_fits)
 simp only[raiseNew]
 refine aa (gL ?_)
 rw[show A.in1.handled=none from hh]
 refine aa (af (wpAny_throw ?_))
 refine aa (dc (T:="StopIteration") (b:=true) ⟨_,aC _ rfl,rfl⟩ fI ?_)
 exact af (hQ _ (((bJ ..).extBut.push _).push _))
end
theorem Vb{κ:Type}{kvs:List (κ×V)}{vs:List (κ×Value)}(h:KV kvs vs):∀{i:Nat} {k:κ} {v:V},kvs[i]? =some (k,v)->∃u,vs[i]? =some (k,u)/\RelV v u:=by
 unfold KV at h
 induction h with
 | nil=>intro i k v e;simp at e
 | @cons a b l₁ l₂ r t ih=>
  intro i k v e
  cases i with
  | zero=>
   simp only[fz,Option.some.injEq]at e
   subst e
   refine⟨b.2,?_,r.2⟩
   simp only[fz]
   exact cB some (Prod.ext r.1.symm rfl)
  | succ j=>
   simp only[List.getElem?_cons_succ]at e ⊢
   exact ih e
theorem CL{α β:Type}{G:α->β->Prop}{l₁:List α}{l₂:List β}(h:Paired G l₁ l₂):∀{i:Nat} {a:α},l₁[i]? =some a->∃b,l₂[i]? =some b/\G a b:=by
 induction h with
 | nil=>intro i a e;simp at e
 | @cons a b l₁ l₂ r t ih=>
  intro i a' e
  cases i with
  | zero=>
   simp only[fz,Option.some.injEq]at e
   subst e
   exact⟨b,rfl,r⟩
  | succ j=>
   simp only[List.getElem?_cons_succ]at e ⊢
   exact ih e
theorem aal{k:Key}{u:Value}(h:mU k u=true):RelV (kV k) u:=by
 rcases pG h with⟨i,t,rfl,rfl⟩ | ⟨x,t,rfl,rfl⟩
 ·exact⟨t,rfl⟩
 ·exact⟨t,rfl⟩
section
variable{X:Cx}{pins:List (Addr×Obj)}{σ:St}{H:Hp}{s:Shared}{d:Addr}{o:Obj}
theorem Inv.AZ{kvs:List (Key×V)}(I:Inv X pins σ H s)(h:H d=some (.iF o (.dK kvs))):
 (d == sysModules)=false/\s.heap.get? d=some o/\o.ExactDict/\∃(es:Array DictEntry) (ep:Nat) (vs:List (Key×Value)),o.data= .dict es ep/\es.size=kvs.length/\KV kvs vs/\s.heap.DictAt (i4 X.prog X.w) d vs ep:=by
 obtain⟨hd,z,hs,vs,kv,o',es,ep,ho,hx,i6,r⟩:=I.h_ d _ h
 rw[hd]at ho
 cases ho
 refine⟨hs,hd,hx,es,ep,vs,i6,?_,kv,o,es,hd,hx,i6,r⟩
 have l1:=r.2.1.length
 have l2:kvs.length=vs.length:=cF kv
 rw[dG]at l1
 omega
theorem Inv.A0{kvs:List (List Key×V)}(I:Inv X pins σ H s)(h:H d=some (.iF o (.dT kvs))):
 (d == sysModules)=false/\s.heap.get? d=some o/\o.ExactDict/\∃(es:Array DictEntry) (ep:Nat),o.data= .dict es ep/\es.size=kvs.length/\
  ∀(i:Nat) (k:List Key) (v:V),kvs[i]? =some (k,v)->∃(en:DictEntry) (q:Addr),es[i]? =some en/\en.key= .ref q/\H q=some (.tup (k.map kV)):=by
 obtain⟨hd,z,hs,xs,pr,o',es,ep,ho,hx,i6,he,_⟩:=I.h_ d _ h
 rw[hd]at ho
 cases ho
 refine⟨hs,hd,hx,es,ep,i6,?_,λi k v e=>?_⟩
 ·have l1:es.size=xs.length:=eF he
  have l2:kvs.length=xs.length:=cF pr
  omega
 ·obtain⟨b,hb,e1,e2,_⟩:=CL pr e
  have q:=entry_at he i
  rw[hb]at q
  exact⟨_,b.2.1,q,rfl,e2⟩
end
noncomputable def DJ(d:Addr)(o:Obj)(kvs:List (Key×V)):It:=
 ⟨λi H=>H d=some (.iF o (.dK kvs))/\i<kvs.length,λi H x U=>U=H/\∃k v,kvs[i]? =some (k,v)/\x=kV k,λi H=>H d=some (.iF o (.dK kvs))/\kvs.length<=i⟩
noncomputable def qM(d:Addr)(o:Obj)(kvs:List (List Key×V)):It:=
 ⟨λi H=>H d=some (.iF o (.dT kvs))/\i<kvs.length,λi H x U=>U=H/\∃(k:List Key) (v:V) (q:Addr),kvs[i]? =some (k,v)/\x= .ref q/\H q=some (.tup (k.map kV)),λi H=>H d=some (.iF o (.dT kvs))/\kvs.length<=i⟩
theorem qU{o:Obj}{es lT:Array DictEntry}{ep ll:Nat}(h:o.data= .dict es ep)(h':o.data= .dict lT ll):lT=es/\ll=ep:=by
 rw[h]at h'
 cases h'
 exact⟨rfl,rfl⟩
section
variable{P:Program}{w:World}{K:Fg}{tg:Expr}{d:Addr}{o:Obj}{es:Array DictEntry}{ep:Nat}
theorem abY{kvs:List (Key×V)}(it:Addr)(lM:o.data= .dict es ep):Turn P w K tg (DJ d o kvs) [it] it (λi h=>h.IsKeyIter it d i kvs.length ep) where
 mem:=by simp
 obj:=λi h st b hb=>by
  have e:b=it:=by simpa using hb
  subst e
  obtain⟨oi,e,c,dd⟩:=st
  exact⟨oi,e,λv z=>by rw[dd]at z;cases z⟩
 keep:=λi h h' st k=>st.at λoi e=>k it (by simp) oi e
 item:=by
  intro X hP hw hK hc i pins s σ H E I hf st hg
  subst hP hw hK
  obtain⟨hd,hi⟩:=hg
  obtain⟨f0,f1,f2,f3,f4,f5⟩:=hf it (by simp)
  obtain⟨hs,jU,hx,lT,ll,vs,i6,hsz,kv,hm⟩:=I.AZ hd
  obtain⟨rfl,rfl⟩:=qU lM i6
  obtain⟨⟨k,v⟩,jr⟩:∃p,kvs[i]? =some p:=⟨kvs[i],ay hi⟩
  obtain⟨u,hu,ru⟩:=Vb kv jr
  have hl:kvs.length=vs.length:=cF kv
  rw[hl]at st
  refine wpAny_pyNext_dict_item st hm hu λkey h' lW kG sb=>?_
  have I1:Inv X pins σ H {s with heap:=h'}:=I.turned (t':=s.toks) (λb ob hb e=>(sb.2 b hb).trans e) f0 f1 f3 f4 f5
  obtain⟨oi,e,c,dd⟩:=id kG
  refine⟨key,rfl,sF (s:={s with heap:=h'}) e c dd (by decide) ⟨kV k,H,I1,aal (show mU k key=true from lW),⟨rfl,k,v,jr,rfl⟩,?_,λb hb=>(hf b hb).1⟩⟩
  show h'.IsKeyIter it d (i+1) kvs.length _
  rw[hl]
  exact kG
 done:=by
  intro X hP hw hK hc i pins s σ H E I hf st hg
  subst hP hw hK
  obtain⟨hd,hi⟩:=hg
  obtain⟨f0,f1,f2,f3,f4,f5⟩:=hf it (by simp)
  obtain⟨hs,jU,hx,lT,ll,vs,i6,hsz,kv,hm⟩:=I.AZ hd
  obtain⟨rfl,rfl⟩:=qU lM i6
  exact Cr (I.ok.hd hc) st jU i6 hsz hi λh' eb=>⟨rfl,I.turned (t':=s.toks) (λb ob hb e=>eb b ob hb e) f0 f1 f3 f4 f5⟩
 self:=λA i s Q E st h=>wpAny_pyIter_keyiter st h
theorem abZ{kvs:List (List Key×V)}(it:Addr)(lM:o.data= .dict es ep):Turn P w K tg (qM d o kvs) [it] it (λi h=>h.IsKeyIter it d i kvs.length ep) where
 mem:=by simp
 obj:=λi h st b hb=>by
  have e:b=it:=by simpa using hb
  subst e
  obtain⟨oi,e,c,dd⟩:=st
  exact⟨oi,e,λv z=>by rw[dd]at z;cases z⟩
 keep:=λi h h' st k=>st.at λoi e=>k it (by simp) oi e
 item:=by
  intro X hP hw hK hc i pins s σ H E I hf st hg
  subst hP hw hK
  obtain⟨hd,hi⟩:=hg
  obtain⟨f0,f1,f2,f3,f4,f5⟩:=hf it (by simp)
  obtain⟨hs,jU,hx,lT,ll,i6,hsz,ent⟩:=I.A0 hd
  obtain⟨rfl,rfl⟩:=qU lM i6
  obtain⟨⟨k,v⟩,jr⟩:∃p,kvs[i]? =some p:=⟨kvs[i],ay hi⟩
  obtain⟨en,q,mQ,lW,hq⟩:=ent i k v jr
  refine G1 st jU i6 hsz mQ λh' kG sb=>?_
  have I1:Inv X pins σ H {s with heap:=h'}:=I.turned (t':=s.toks) (λb ob hb e=>(sb.2 b hb).trans e) f0 f1 f3 f4 f5
  obtain⟨oi,e,c,dd⟩:=id kG
  exact⟨en.key,rfl,sF (s:={s with heap:=h'}) e c dd (by decide) ⟨.ref q,H,I1,lW,⟨rfl,k,v,q,jr,rfl,hq⟩,kG,λb hb=>(hf b hb).1⟩⟩
 done:=by
  intro X hP hw hK hc i pins s σ H E I hf st hg
  subst hP hw hK
  obtain⟨hd,hi⟩:=hg
  obtain⟨f0,f1,f2,f3,f4,f5⟩:=hf it (by simp)
  obtain⟨hs,jU,hx,lT,ll,i6,hsz,ent⟩:=I.A0 hd
  obtain⟨rfl,rfl⟩:=qU lM i6
  exact Cr (I.ok.hd hc) st jU i6 hsz hi λh' eb=>⟨rfl,I.turned (t':=s.toks) (λb ob hb e=>eb b ob hb e) f0 f1 f3 f4 f5⟩
 self:=λA i s Q E st h=>by
  refine fH st.typeIs F.slot_dict_keyiterator_iter (bo F.slot_dict_keyiterator_iter st.typeIs F.entry_dict_keyiterator_iter ?_ (F.args_dict_keyiterator_iter_1 _))
  show wpAny _ _ (ret (.ref it)) _ _ s
  exact af ⟨_,rfl,"dict_keyiterator",_,st.typeIs,cw.lookup,h⟩
end
noncomputable def FX(td:TE):TI:=λσ H R=>td σ H λx H1=>∃d o,x= .ref d/\((∃kvs,H1 d=some (.iF o (.dK kvs))/\R (DJ d o kvs) H1)\/∃kvs,H1 d=some (.iF o (.dT kvs))/\R (qM d o kvs) H1)
section
variable{X:Cx}{tg e:Expr}{td:TE}{apos jm:Pos}
theorem CT(he:PE X e td):PI X tg e (FX td):=by
 intro pins s σ H R I h
 refine ir (he pins s σ H _ I h) λu s1 zq=>?_
 obtain⟨x,H1,I1,rx,d,o,ex,q⟩:=zq
 subst ex
 obtain rfl:u=Value.ref d:=rx
 rcases q with⟨kvs,hd,q⟩ | ⟨kvs,hd,q⟩
 ·obtain⟨hs,jU,hx,es,ep,vs,i6,hsz,kv,hm⟩:=I1.AZ hd
  refine BZ hs jU hx i6 (uW (tk:=s1.toks) I1 _ (abY _ i6) ⟨_,aC _ rfl,rfl,?_⟩ q)
  rw[hsz]<;>rfl
 ·obtain⟨hs,jU,hx,es,ep,i6,hsz,ent⟩:=I1.A0 hd
  refine BZ hs jU hx i6 (uW (tk:=s1.toks) I1 _ (abZ _ i6) ⟨_,aC _ rfl,rfl,?_⟩ q)
  rw[hsz]<;>rfl
end
noncomputable def vq(K:Fg)(a:Addr):It:=
 ⟨λi H=>∃(xs:List V) (x:V),f_ K H a xs/\xs[i]? =some x,λi H v U=>∃T x,v= .ref T/\H T=none/\U=upd H T (.tup [.int (i:Nat),x])/\∀xs,f_ K H a xs->xs[i]? =some x,λi H=>∃xs:List V,f_ K H a xs/\xs.length<=i⟩
theorem abW{P:Program}{w:World}{K:Fg}{elts:List Expr}{kk:Nat}{lF:Pos}(a e it:Addr):
 Turn P w K (.Tuple elts kk lF) (vq K a) [e,it] e (λi h=>(∃old,IsEnum h e it ((i:Nat):Int) old)/\h.IsListIter it a i/\e≠it) where
 mem:=by simp
 obj:=λi h st b hb=>by
  obtain⟨⟨old,he⟩,⟨o,ho,hc,hd⟩,_⟩:=st
  have e':b=e\/b=it:=by simpa using hb
  rcases e' with z | z
  ·rw[z];exact⟨_,he,λv q=>nomatch q⟩
  ·rw[z];exact⟨o,ho,λv q=>by rw[hd]at q;cases q⟩
 keep:=λi h h' st k=>let ⟨⟨old,he⟩,hi,iJ⟩:=st;⟨⟨old,k e (by simp) _ he⟩,hi.at λo q=>k it (by simp) o q,iJ⟩
 item:=by
  intro X hP hw hK hc i pins s σ H E I hf st hg
  subst hP hw hK
  obtain⟨⟨old,he⟩,hit,iJ⟩:=st
  obtain⟨xs,x,hq,hx⟩:=hg
  obtain⟨g_,rv,p,hz⟩:=I.list hq
  obtain⟨u,hu,ru⟩:=rv.get hx
  have E5:e<s.heap.objs.size:=aF he
  have Bj:it<s.heap.objs.size:=by obtain⟨_,q,_⟩:=hit;exact aF q
  refine wpAny_pyNext_enum_item he hit p.isList (x:=u) (by simpa using hu) iJ λh' ho yN hT hsz hk=>?_
  refine⟨_,rfl,wpAny_letOwnedTupleGo_enum (s:={s with heap:=h',toks:=s.toks+1}) ho λlq Bg sb=>?_⟩
  have qm:lq.get? s.heap.objs.size=some {cls:=.type "tuple",data:=.seq #[.int i s.toks,u]}:=(sb.2 _ (cp E5)).trans hT
  have new:jl X.prog X.w (upd H s.heap.objs.size (.tup [.int (i:Nat),x])) lq s.heap.objs.size (.tup [.int (i:Nat),x]):=
   ⟨by show 2<=sizeLine;decide,[.int i s.toks,u],.cons ⟨_,rfl⟩ (.cons ru .nil),⟨_,qm,rfl,_,rfl⟩⟩
  have I1:Inv X pins σ (upd H s.heap.objs.size (.tup [.int (i:Nat),x])) {s with heap:=lq,toks:=s.toks+1}:=
   I.xK (ch:=[e,it]) (λb ob hb q=>(sb.2 b (λz=>hb (by simp[z]))).trans (hk b ob (λz=>hb (by simp[z])) (λz=>hb (by simp[z])) q)) hf (ax _) new
  refine⟨.ref s.heap.objs.size,_,I1,rfl,⟨_,x,rfl,I.h_.fresh (ax _),rfl,λys hy=>by rw[I.w6 hy hq];exact hx⟩,⟨⟨u,?_⟩,yN.at λo q=>(sb.2 it (cJ iJ)).trans q,iJ⟩,λb hb=>?_⟩
  ·have e1:((i+1:Nat):Int)=(i:Int)+1:=by omega
   rw[e1];exact Bg
  ·have Si:b<s.heap.objs.size:=by
    have e':b=e\/b=it:=by simpa using hb
    rcases e' with z | z
    ·rw[z];exact E5
    ·rw[z];exact Bj
   rw[ip (a9 Si)]
   exact(hf b hb).1
 done:=by
  intro X hP hw hK hc i pins s σ H E I hf st hg
  subst hP hw hK
  obtain⟨⟨old,he⟩,hit,iJ⟩:=st
  obtain⟨xs,hq,hx⟩:=hg
  obtain⟨g_,rv,p,hz⟩:=I.list hq
  obtain⟨f0,f1,f2,f3,f4,f5⟩:=hf it (by simp)
  have hl:=rv.length
  exact wpAny_pyNext_enum_end (I.ok.hd hc) he hit p.isList (by simp;omega) λh' eb=>⟨rfl,I.turned (t':=s.toks) (λb o hb q=>eb b o hb q) f0 f1 f3 f4 f5⟩
 self:=λA i s Q E st h=>let ⟨⟨_,he⟩,_⟩:=st;wpAny_pyIter_enum he h
noncomputable def UB(K:Fg)(ta:TA):TI:=λσ H R=>ta σ H λvs H1=>∃a xs,vs=[.ref a]/\f_ K H1 a xs/\R (vq K a) H1
theorem CS{X:Cx}{e:Expr}{ta:TA}{p pos lF:Pos}{elts:List Expr}{kk:Nat}(hg:Gl X "enumerate")(hm:X.mg "enumerate"=none)(ha:PA X [e] ta)(hs:starEach [e] X.env=[(false,eval e X.env)]:=by rfl):
 PI X (.Tuple elts kk lF) (.Call (.Name "enumerate" p) [e] [] pos) (UB X.K ta):=by
 intro pins s σ H R I h
 refine Call_ (qD I hg hm boot_enumerate (bK (ir (ha pos pins s σ H _ I h) λus s1 ⟨vs,H1,I1,r1,q1⟩=>?_) hs rfl))
 obtain⟨a,xs,ex,hq,q⟩:=q1
 subst ex
 cases r1 with
 | cons r rr=>
  cases rr
  cases r
  obtain⟨g_,rv,p',hz⟩:=I1.list hq
  refine call_enumerate_list p'.isList λh' he hit hsz hk=>wpAny_pyIter_enum he ?_
  have I2:Inv X pins σ H1 {s1 with heap:=h'}:=I1.kept (t':=s1.toks) hk
  refine⟨s1.heap.objs.size+1,[s1.heap.objs.size+1,s1.heap.objs.size],_,_,H1,rfl,I2,abW a (s1.heap.objs.size+1) s1.heap.objs.size,⟨⟨.none,he⟩,hit,Nat.succ_ne_self _⟩,λb hb=>?_,q⟩
  have e':b=s1.heap.objs.size+1\/b=s1.heap.objs.size:=by simpa using hb
  have hle:s1.heap.objs.size<=b:=by
   rcases e' with z | z
   ·rw[z];exact bZ _ _
   ·rw[z];exact ax _
  exact I1.qj hle (I1.h_.fresh hle)
theorem Ay:bootBuiltins "zip"=some (.type "zip"):=by decide +kernel
noncomputable def vz(K:Fg)(a b:Addr):It:=
 ⟨λi H=>∃(xs ys:List V) (x y:V),f_ K H a xs/\f_ K H b ys/\xs[i]? =some x/\ys[i]? =some y,
  λi H v U=>∃T x y,v= .ref T/\H T=none/\U=upd H T (.tup [x,y])/\(∀xs,f_ K H a xs->xs[i]? =some x)/\∀ys,f_ K H b ys->ys[i]? =some y,
  λi H=>∃xs ys:List V,f_ K H a xs/\f_ K H b ys/\(xs.length<=i\/ys.length<=i)⟩
theorem ab4{P:Program}{w:World}{K:Fg}{elts:List Expr}{kk:Nat}{lF:Pos}{a b z TI TO i1 i2:Addr}(D:ZipApart z TI TO i1 i2 a b):
 Turn P w K (.Tuple elts kk lF) (vz K a b) [z,TI,TO,i1,i2] z (λi h=>IsZip h z TI TO .none/\IsPair h TI (.ref i1) (.ref i2)/\(∃x y,IsPair h TO x y)/\h.IsListIter i1 a i/\h.IsListIter i2 b i) where
 mem:=by simp
 obj:=λi h st c hc=>by
  obtain⟨hz,iX,⟨x,y,jw⟩,⟨o1,e1,_,d1⟩,⟨o2,e2,_,d2⟩⟩:=st
  have e':c=z\/c=TI\/c=TO\/c=i1\/c=i2:=by simpa using hc
  rcases e' with q | q | q | q | q
  ·rw[q];exact⟨_,hz,λv q=>nomatch q⟩
  ·rw[q];exact⟨_,iX,λv q=>nomatch q⟩
  ·rw[q];exact⟨_,jw,λv q=>nomatch q⟩
  ·rw[q];exact⟨o1,e1,λv q=>by rw[d1]at q;cases q⟩
  ·rw[q];exact⟨o2,e2,λv q=>by rw[d2]at q;cases q⟩
 keep:=λi h h' st k=>by
  obtain⟨hz,iX,⟨x,y,jw⟩,h1,h2⟩:=st
  exact⟨k z (by simp) _ hz,k TI (by simp) _ iX,⟨x,y,k TO (by simp) _ jw⟩,h1.at λo q=>k i1 (by simp) o q,h2.at λo q=>k i2 (by simp) o q⟩
 item:=by
  intro X hP hw hK hc i pins s σ H E I hf st hg
  subst hP hw hK
  obtain⟨hz,iX,⟨x0,y0,jw⟩,h1,h2⟩:=st
  obtain⟨xs,ys,x,y,mm,nt,hx,hy⟩:=hg
  obtain⟨g_,rv,p,_⟩:=I.list mm
  obtain⟨kE,pR,p2,_⟩:=I.list nt
  obtain⟨u,hu,ru⟩:=rv.get hx
  obtain⟨u2,sR,xG⟩:=pR.get hy
  have wN:z<s.heap.objs.size:=aF hz
  refine wpAny_pyNext_zip_item D hz iX jw h1 h2 p.isList p2.isList (x:=u) (y:=u2) (by simpa using hu) (by simpa using sR) λh' z' An q_ A8 hT hsz hk=>?_
  refine⟨_,rfl,wpAny_letOwnedTupleGo_zip (s:={s with heap:=h'}) z' λlq DF sb=>?_⟩
  have qm:lq.get? s.heap.objs.size=some {cls:=.type "tuple",data:=.seq #[u,u2]}:=(sb.2 _ (cp wN)).trans hT
  have new:jl X.prog X.w (upd H s.heap.objs.size (.tup [x,y])) lq s.heap.objs.size (.tup [x,y]):=
   ⟨by show 2<=sizeLine;decide,[u,u2],.cons ru (.cons xG .nil),⟨_,qm,rfl,_,rfl⟩⟩
  have I1:Inv X pins σ (upd H s.heap.objs.size (.tup [x,y])) {s with heap:=lq}:=
   I.xK (t':=s.toks) (ch:=[z,TI,TO,i1,i2]) (λc o hb q=>(sb.2 c (λq'=>hb (by simp[q']))).trans (hk c o (λq'=>hb (by simp[q'])) (λq'=>hb (by simp[q'])) (λq'=>hb (by simp[q'])) (λq'=>hb (by simp[q'])) q)) hf (ax _) new
  refine⟨.ref s.heap.objs.size,_,I1,rfl,⟨_,x,y,rfl,I.h_.fresh (ax _),rfl,λl hl=>by rw[I.w6 hl mm];exact hx,λl hl=>by rw[I.w6 hl nt];exact hy⟩,⟨DF,?_,⟨u,u2,?_⟩,?_,?_⟩,λc oI=>?_⟩
  ·exact(sb.2 _ D.TIz).trans (hk _ _ D.TIz D.TITO D.TIi1 D.TIi2 iX)
  ·exact(sb.2 _ D.TOz).trans An
  ·exact q_.at λo q=>(sb.2 _ D.i1z).trans q
  ·exact A8.at λo q=>(sb.2 _ D.i2z).trans q
  ·have iP:c<s.heap.objs.size:=by
    have e':c=z\/c=TI\/c=TO\/c=i1\/c=i2:=by simpa using oI
    rcases e' with q | q | q | q | q
    ·rw[q];exact wN
    ·rw[q];exact aF iX
    ·rw[q];exact aF jw
    ·rw[q];obtain⟨_,e1,_⟩:=h1;exact aF e1
    ·rw[q];obtain⟨_,e2,_⟩:=h2;exact aF e2
   rw[ip (a9 iP)]
   exact(hf c oI).1
 done:=by
  intro X hP hw hK hc i pins s σ H E I hf st hg
  subst hP hw hK
  obtain⟨hz,iX,⟨x0,y0,jw⟩,h1,h2⟩:=st
  obtain⟨xs,ys,mm,nt,E6⟩:=hg
  obtain⟨g_,rv,p,_⟩:=I.list mm
  obtain⟨kE,pR,p2,_⟩:=I.list nt
  have l1:=rv.length
  have l2:=pR.length
  have he:g_.toArray[i]? =none\/kE.toArray[i]? =none:=by
   rcases E6 with q | q
   ·exact .inl (by simp;omega)
   ·exact .inr (by simp;omega)
  exact wpAny_pyNext_zip_end (I.ok.hd hc) D hz iX jw h1 h2 p.isList p2.isList he λh' hk=>⟨rfl,I.MK (t':=s.toks) (ch:=[z,TI,TO,i1,i2]) (λc o hb q=>
   hk c o (λq'=>hb (by simp[q'])) (λq'=>hb (by simp[q'])) (λq'=>hb (by simp[q'])) (λq'=>hb (by simp[q'])) q) hf⟩
 self:=λA i s Q E st h=>fc st.1 h
noncomputable def FZ(K:Fg)(ta:TA):TI:=λσ H R=>ta σ H λvs H1=>∃a b xs ys,vs=[.ref a,.ref b]/\f_ K H1 a xs/\f_ K H1 b ys/\R (vz K a b) H1
theorem HS{X:Cx}{e e2:Expr}{ta:TA}{p pos lF:Pos}{elts:List Expr}{kk:Nat}(hg:Gl X "zip")(hm:X.mg "zip"=none)(ha:PA X [e,e2] ta)
 (hs:starEach [e,e2] X.env=(false,eval e X.env)::starEach [e2] X.env:=by rfl) (i9:(backTo pos (starEach [e2] X.env)).any (·.1)=false:=by rfl):
 PI X (.Tuple elts kk lF) (.Call (.Name "zip" p) [e,e2] [] pos) (FZ X.K ta):=by
 intro pins s σ H R I h
 refine Call_ (qD I hg hm Ay (bK (ir (ha pos pins s σ H _ I h) λus s1 ⟨vs,H1,I1,r1,q1⟩=>?_) hs i9))
 obtain⟨a,b,xs,ys,ex,mm,nt,q⟩:=q1
 subst ex
 cases r1 with
 | cons r rr=>
  cases rr with
  | cons r' rr=>
   cases rr
   cases r
   cases r'
   obtain⟨g_,rv,p1,_⟩:=I1.list mm
   obtain⟨kE,pR,p2,_⟩:=I1.list nt
   have la:a<s1.heap.objs.size:=p1.lt
   have lb:b<s1.heap.objs.size:=p2.lt
   refine call_zip_2 p1.isList p2.isList λh' hz iX jw h1 h2 hsz hk=>fc hz ?_
   have I2:Inv X pins σ H1 {s1 with heap:=h'}:=I1.kept (t':=s1.toks) hk
   refine⟨s1.heap.objs.size+4,[s1.heap.objs.size+4,s1.heap.objs.size+2,s1.heap.objs.size+3,s1.heap.objs.size,s1.heap.objs.size+1],_,_,H1,rfl,I2,ab4 (gG s1.heap.objs.size a b la lb),⟨hz,iX,⟨_,_,jw⟩,h1,h2⟩,λc oI=>?_,q⟩
   have e':c=s1.heap.objs.size+4\/c=s1.heap.objs.size+2\/c=s1.heap.objs.size+3\/c=s1.heap.objs.size\/c=s1.heap.objs.size+1:=by simpa using oI
   have hle:s1.heap.objs.size<=c:=by
    rcases e' with z | z | z | z | z
    ·rw[z];exact bZ _ _
    ·rw[z];exact bZ _ _
    ·rw[z];exact bZ _ _
    ·rw[z];exact ax _
    ·rw[z];exact bZ _ _
   exact I1.qj hle (I1.h_.fresh hle)
section
namespace M9
open PySem PyProof.Rows
end M9
end
section
namespace TL
open PySem PySem.Builtin PySem.Builtin.Str PySem.StrLaws
noncomputable abbrev tl(x:Str):List Nat:=x.cps.toList
theorem Gi(x:Str):x.length=(tl x).length:=by simp[tl,Str.length]
theorem abS(x y:Str):tl (x++y)=tl x++tl y:=by
 show(x++y).cps.toList=_
 rw[Str.cps_append,gm]
theorem zX(s:String):tl (Str.ofString s)=s.toList.map Char.toNat:=PyProof.Rows.signs_ofString s
noncomputable def nD(n:Nat):List Nat:=(Nat.toDigits 10 n).map Char.toNat
theorem Dz(n:Nat):tl (Str.ofString (toString ((n:Nat):Int)))=nD n:=PySem.W.KIN.signs_num n
theorem D_:∀d:Nat,d<10->(Nat.digitChar d).toNat=48+d:=by decide
theorem G9{n:Nat}(h:n<10):nD n=[48+n]:=by
 unfold nD
 rw[Nat.toDigits_of_lt_base h]
 show[(Nat.digitChar n).toNat]=_
 rw[D_ n h]
theorem G_{n:Nat}(h:10<=n):nD n=nD (n/10)++[48+n % 10]:=by
 have hm:n % 10<10:=gR n (by decide)
 have t:Nat.toDigits 10 (n/10)++Nat.toDigits 10 (n % 10)=Nat.toDigits 10 (10*(n/10)+n % 10):=Nat.toDigits_append_toDigits (by decide) (by omega) hm
 rw[Nat.div_add_mod]at t
 show(Nat.toDigits 10 n).map Char.toNat=_
 rw[<-t,au,Nat.toDigits_of_lt_base hm]
 show(Nat.toDigits 10 (n/10)).map Char.toNat++[(Nat.digitChar (n % 10)).toNat]=_
 rw[D_ _ hm]<;>rfl
theorem Wx(n:Nat):NumText.AllDigits (nD n):=by
 induction n using Nat.strongRecOn with
 | _ n ih=>
  by_cases h:n<10
  ·rw[G9 h]
   intro c hc
   rw[bA.mp hc]
   omega
  ·rw[G_ (by omega)]
   intro c hc
   rcases bg.mp hc with hc | hc
   ·exact ih (n/10) (by omega) c hc
   ·have hm:n % 10<10:=gR n (by decide)
    rw[bA.mp hc]
    omega
theorem Wz(n:Nat):nD n≠[]:=by
 by_cases h:n<10
 ·rw[G9 h]
  simp
 ·rw[G_ (by omega)]
  simp
theorem Wy{n k:Nat}(hk:0<k)(h:n<10^k):(nD n).length<=k:=by
 have z:=PyProof.Rows.toString_length_le (v:=(n:Int)) (by omega) hk (by
  have e:((10:Int)^k)=((10^k:Nat):Int):=by
   first
    | exact(bH 10 k).symm
    | simp
  rw[e]
  first | exact Int.ofNat_lt.mpr h | omega)
 rw[Gi,Dz]at z
 exact z
end TL
end
section
variable{X:Cx}{pins:List (Addr×Obj)}{σ:St}{H:Hp}{s:Shared}{Q:VK}
end
section
variable{X:Cx}
end
section
variable{X:Cx}{o e:Expr}{to te:TE}
noncomputable def tM1(r:V->List V->Hp->VK->Prop)(to te:TE):TE:=λσ H Q=>to σ H λx H1=>(∃a,x= .str a)/\te σ H1 λy H2=>r x [y] H2 Q
theorem Yg{id:String}{name:Str}{apos pos:Pos}{r:V->List V->Hp->VK->Prop}(slot:Slot "str" name id)(ty:typeOf (.builtin id)=pure (.type "method_descriptor"))(rule:xW X id r)(ho:PE X o to)(he:PE X e te)
 (hs:starEach [e] X.env=[(false,eval e X.env)]:=by rfl) (qt:attributeBase o name X.env (eval o X.env)=eval o X.env:=by rfl) (sL:(apos.endLine == pos.line)=true:=by rfl):
 PE X (.Call (.Attribute o name apos) [e] [] pos) (tM1 r to te):=by
 intro pins s σ H Q I h
 refine PySem.Call_method1 qt hs sL (ir (ho pins s σ H _ I h) λv s1 zq=>?_)
 obtain⟨x,H1,I1,r1,q1⟩:=zq
 obtain⟨⟨a,rfl⟩,q1⟩:=q1
 obtain⟨t,rfl⟩:=_root_.id r1
 refine⟨"str",_,F.plainAttrs_str,slot,ty,typeIs_str _ _ _,(λ_ e=>nomatch e),dH rfl (dX (cU ?_))⟩
 exact ir (he pins s1 σ H1 _ I1 q1) λu s2 ⟨y,H2,I2,r2,q2⟩=>dW (rule pins s2 σ H2 _ [y] _ [u] Q I2 r1 (.cons r2 .nil) q2)
end
section
variable{X:Cx}
end
theorem IsPart.raw{v:Value}{o:Option Int}(p:IsPart v o):∃l:Option (Int×Tok),v=partValue l/\l.map (·.1)=o:=by
 cases p with
 | none=>exact⟨none,rfl,rfl⟩
 | int i t=>exact⟨some (i,t),rfl,rfl⟩
noncomputable def vV(n d:Nat):Option Int->Int
 | none=>(d:Int)
 | some i=>max 0 (min (if i<0 then i+(n:Int) else i) (n:Int))
theorem DZ(n d:Nat)(o:Option Int):vV n d o=((HT.iS n d o:Nat):Int):=by
 cases o with
 | none=>rfl
 | some v=>
  show max (0:Int) (min (if v<0 then v+(n:Int) else v) (n:Int))=(((if v<0 then (v+(n:Int)).toNat else min v.toNat n):Nat):Int)
  by_cases hv:v<0
  ·simp only[aE hv]
   omega
  ·simp only[aq hv]
   omega
theorem abc(a b:Option Int)(n:Nat):Builtin.Str.strSliceIndices a b 1 n=sliceRange (vV n 0 a) (vV n n b) 1:=by
 have h1:((1:Int)>0)=True:=by simp
 cases a<;>cases b<;>first
  | rfl
  | (simp only[Builtin.Str.strSliceIndices,vV,h1,dQ];rfl)
  | simp[Builtin.Str.strSliceIndices,vV]
theorem abb(a b:Option Int)(n:Nat):Builtin.Str.strSliceIndices a b 1 n=(List.range (HT.iS n n b-HT.iS n 0 a)).map (λk=>HT.iS n 0 a+k):=by
 rw[abc,DZ,DZ]
 generalize HT.iS n 0 a=p
 generalize HT.iS n n b=q
 simp only[sliceRange,show((1:Int)>0)=True from by simp,dQ]
 by_cases iP:(p:Int)<q
 ·have e3:(((q:Int)-p+1-1)/1).toNat=q-p:=by first | omega | (simp;done) | (simp;omega)
  simp only[iP,dQ,e3]
  refine d6 λk _=>?_
  omega
 ·have:q-p=0:=by omega
  simp[iP,this]
noncomputable def vW(z:Str)(lo hi:Option Int):Str:=
 ⟨((z.cps.toList.drop (HT.iS z.length 0 lo)).take (HT.iS z.length z.length hi-HT.iS z.length 0 lo)).toArray⟩
theorem L7(z:Str)(lo hi:Option Int):PySem.StrLaws.sliceText z lo hi=vW z lo hi:=by
 have h1:HT.iS z.length 0 lo<=z.length:=HT.ID _ _ (aU _) _
 have h2:HT.iS z.length z.length hi<=z.length:=HT.ID _ _ (ax _) _
 have hp:HT.iS z.length 0 lo<=max (HT.iS z.length 0 lo) (HT.iS z.length z.length hi):=Nat.le_max_left _ _
 have hq:max (HT.iS z.length 0 lo) (HT.iS z.length z.length hi)<=z.length:=Nat.max_le.mpr ⟨h1,h2⟩
 have hd:max (HT.iS z.length 0 lo) (HT.iS z.length z.length hi)-HT.iS z.length 0 lo=HT.iS z.length z.length hi-HT.iS z.length 0 lo:=by omega
 have e:Builtin.Str.strSliceIndices lo hi 1 z.length=
  Builtin.Str.strSliceIndices (some ((HT.iS z.length 0 lo:Nat):Int)) (some ((max (HT.iS z.length 0 lo) (HT.iS z.length z.length hi):Nat):Int)) 1 z.length:=by
  rw[PySem.StrLaws.strSliceIndices_plain hp hq,hd,abb]
 have e2:PySem.StrLaws.sliceText z lo hi=
  PySem.StrLaws.sliceText z (some ((HT.iS z.length 0 lo:Nat):Int)) (some ((max (HT.iS z.length 0 lo) (HT.iS z.length z.length hi):Nat):Int)):=by
  unfold PySem.StrLaws.sliceText
  rw[e]
 rw[e2,PySem.StrLaws.sliceText_nat z hp hq,hd]
 rfl
theorem N7(z:Str)(lo hi:Option Int):(vW z lo hi).length<=z.length:=by
 show(((z.cps.toList.drop (HT.iS z.length 0 lo)).take (HT.iS z.length z.length hi-HT.iS z.length 0 lo)).toArray).size<=z.cps.size
 rw[aJ,aB,aR,dG]
 omega
noncomputable def aah:V->Option Int->Option Int->Hp->VK->Prop:=λx lo hi H Q=>∃z,x= .str z/\z.length<=sizeLine/\Q (.str (vW z lo hi)) H
theorem L6{X:Cx}:Am X aah:=by
 intro pins s σ H x v vl vu lo hi sl Q I rx hs pl pu h
 obtain⟨z,rfl,hz,q⟩:=h
 obtain⟨t,rfl⟩:=rx
 obtain⟨os,TF,ui,SF⟩:=hs
 obtain⟨l,rfl,rfl⟩:=IsPart.raw pl
 obtain⟨u,rfl,rfl⟩:=IsPart.raw pu
 refine⟨"str",_,F.slot_str_getitem.lookup,typeIs_str _ _ _,?_⟩
 refine wpAny_getItem_str_slice (l:=l) (u:=u) (st:=none) ⟨os,TF,ui,SF⟩ rfl ?_
 have hl:(PySem.StrLaws.sliceText z (l.map (·.1)) (u.map (·.1))).length<=sizeLine:=by
  rw[L7]
  exact aN (N7 z _ _) hz
 rw[<-L7]at q
 unfold PySem.StrLaws.sliceText at q hl
 show Made.post (if ((1:Int) == 1&&(Builtin.Str.strSliceIndices (l.map (·.1)) (u.map (·.1)) 1 z.length).length == z.length)=true then Made.val (.str z t)
  else Made.str ⟨((Builtin.Str.strSliceIndices (l.map (·.1)) (u.map (·.1)) 1 z.length).filterMap (z.cps[·]?)).toArray⟩) (EP X pins σ Q) s
 by_cases c:((1:Int) == 1&&(Builtin.Str.strSliceIndices (l.map (·.1)) (u.map (·.1)) 1 z.length).length == z.length)=true
 ·rw[aE c]at q ⊢
  exact⟨.str z,H,I,⟨t,rfl⟩,q⟩
 ·rw[aq c]at q hl ⊢
  exact⟨hl,.str _,H,I.tok _,⟨_,rfl⟩,q⟩
noncomputable def inClass(s:Stmt)(j:Nat):Stmt:=match s with
 | .ClassDef _ _ _ body _ _ _ _ _ _ _=>body.getD j (.Pass ⟨0,0,0,0⟩)
 | _=>.Pass ⟨0,0,0,0⟩
noncomputable def qT(s:Stmt):Arguments:=match s with
 | .FunctionDef _ a _ _ _ _ _ _ _ _=>a
 | _=>{posonlyargs:=[],args:=[],vararg:=none,kwonlyargs:=[],kw_defaults:=[],kwarg:=none,defaults:=[]}
noncomputable def oA(s:Stmt):List Stmt:=match s with
 | .FunctionDef _ _ b _ _ _ _ _ _ _=>b
 | _=>[]
noncomputable def ib(s:Stmt):Scope:=match s with
 | .FunctionDef _ _ _ _ _ _ sc _ _ _=>sc
 | _=>{kind:=.function,names:=[],isGenerator:=false,isCoroutine:=false}
noncomputable abbrev oZ:nN:=λ_ _ _ _ _ _=>False
noncomputable abbrev E0:XK:=λ_ _ _=>False
theorem CM{X:Cx}:vF oZ X E0:=λ_ _ _ _ _ _ _ h=>h.elim
structure pZ(K:Fg)(x qual:Str)(st:Stmt)(f:Addr)(fd:FuncData):Prop where
 ex:∃(oc:Value) (od:Option Addr) (kV doc pm:Value) (an:Option Addr) (h8 ct:Value) (mz:Array (Option Value)),
  fd=PySem.W.fnOf x qual (qT st) (oA st) (ib st) .none kV doc pm an h8 ct/\K.lookup f=some ⟨oc,od,.func fd,mz⟩/\PySem.W.codeIn K h8 qual=true
 kp:PySem.W.keepIn K (.ref f)=true
section
variable{P:Program}{w:World}{K:Fg}{mg:Str->Option Value}{base:Heap}
theorem pZ.ok{x qual:Str}{st:Stmt}{f:Addr}{fd:FuncData}{N ps:List Str}{k:Nat}{sp:Sp}(F:pZ K x qual st f fd)(S:ie N ps (ib st))(len:∀vs H Q E,sp vs H Q E->vs.length=ps.length)
 (sH:∀(h8:Value) (A:Around) (outer:List Env) (s:Shared) (H:Hp) (vs:List V) (Q:VK) (E:XK),jy k (A.deeper (envOfC qual (ib st) s.heap.objs.size f h8))->sp vs H Q E->
  ∃t,md (il oZ P w K mg base N qual (ib st) f h8 A outer s H E).uQ (oA st) t/\t {nx:=λ_ U=>Q .ia U,rt:=Q} (start N vs) H):m5 P w K mg base oZ (k+1) f fd ps sp:=by
 obtain⟨oc,od,kV,doc,pm,an,h8,ct,mz,rfl,lk,pb⟩:=F.ex
 refine Q9 lk pb S len λA outer s H vs Q E hr pD=>?_
 obtain⟨t,h,q⟩:=sH h8 A outer s H vs Q E hr pD
 exact⟨t,h.uQ,q⟩
theorem pZ.binds{x qual:Str}{st:Stmt}{f:Addr}{fd:FuncData}{ps:List Str}(F:pZ K x qual st f fd)
 (h:∀(kV doc pm:Value) (an:Option Addr) (h8 ct:Value) (us:List Value),us.length=ps.length->bindArgs (PySem.W.fnOf x qual (qT st) (oA st) (ib st) .none kV doc pm an h8 ct) ⟨us,[]⟩=pure (ps.zip us)):Binds K fd ps []:=by
 obtain⟨oc,od,kV,doc,pm,an,h8,ct,mz,rfl,lk,pb⟩:=F.ex
 exact .all (h kV doc pm an h8 ct)
theorem yx{x qual:Str}{st:Stmt}{f:Addr}{oc:Value}{od an:Option Addr}{mz:Array (Option Value)}{kV doc pm h8 ct:Value}(l:K.lookup f=some ⟨oc,od,.func (PySem.W.fnOf x qual (qT st) (oA st) (ib st) .none kV doc pm an h8 ct),mz⟩)
 (c:PySem.W.codeIn K h8 qual=true) (k:PySem.W.keepIn K (.ref f)=true):pZ K x qual st f (PySem.W.fnOf x qual (qT st) (oA st) (ib st) .none kV doc pm an h8 ct):=⟨⟨oc,od,kV,doc,pm,an,h8,ct,mz,rfl,l,c⟩,k⟩
end
theorem mn{A:Around}{k:Nat}(hr:jy k A):A.units+1<cLine:=cC (Nat.add_le_add_left (by decide:1<=64) _) hr.units
theorem L8{n:Nat}(h:n<=1000):n<sizeLine:=cC h (by decide)
section
variable{X:Cx}
theorem pv(i:Nat){x:Str}{pos:Pos}(hN:X.N[i]? =some x:=by rfl)(hv:vH X.env.scope x:=by first | exact Or.inl rfl | exact Or.inr (Or.inl rfl) | exact Or.inr (Or.inr rfl))(hd:(x == ("__debug__":Str))=false:=by decide)
 (pb:(x == ("__classdict__":Str))=false:=by decide):PE X (.Name x pos) (jb i):=Yk hN hv hd pb
end
theorem iz{A B:Prop}(h:B):if false=true then A else B:=by
 rw[aq ao]
 exact h
theorem iu{A B:Prop}(h:A):if true=true then A else B:=by
 rw[aE rfl]
 exact h
theorem iU{c A B:Prop}[Decidable c](h1:c->A)(h2:¬c->B):if c then A else B:=by
 by_cases h:c
 ·rw[aE h]
  exact h1 h
 ·rw[aq h]
  exact h2 h
noncomputable def c_(H U:Hp):Prop:=∀b o,H b=some o->U b=some o
theorem c_.refl(H:Hp):c_ H H:=λ_ _ h=>h
theorem c_.trans{H H1 H2:Hp}(a:c_ H H1)(b:c_ H1 H2):c_ H H2:=λc o h=>b c o (a c o h)
theorem c_.free{H U:Hp}(e:c_ H U){l:Addr}(h:U l=Option.none):H l=Option.none:=by
 cases q:H l with
 | none=>rfl
 | some o=>
  rw[e l o q]at h
  cases h
theorem c_.seq{K:Fg}{H U:Hp}{a:Addr}{xs:List V}(e:c_ H U)(h:f_ K H a xs):f_ K U a xs:=by
 rcases h with(h | ⟨o,h⟩) | h
 ·exact .inl (.inl (e _ _ h))
 ·exact .inl (.inr ⟨o,e _ _ h⟩)
 ·exact .inr h
section
variable{κ:Type}[DecidableEq κ]
theorem acd{kvs:List (κ×V)}{k:κ}(h:jD kvs k=none):¬k∈kvs.map (·.1):=by
 intro m
 obtain⟨p,hp,e⟩:=aQ.mp m
 have q:(kvs.any λkv=>decide (kv.1=k))=true:=cZ.mpr ⟨p,hp,ah e⟩
 rw[z9,h]at q
 exact absurd q (by simp)
theorem Qt{p:κ×V}{r:List (κ×V)}{k:κ}(e:p.1=k):nc (p::r) k=nc r k:=by
 unfold nc
 rw[aY,aq (by simp[e])]
theorem Qs{p:κ×V}{r:List (κ×V)}{k:κ}(e:¬p.1=k):nc (p::r) k=p::nc r k:=by
 unfold nc
 rw[aY,aE (by simp[e])]
end
theorem at_of{xs:List V}{z:Int}{j:Nat}{v:V}(e:z=(j:Int))(h:xs[j]? =some v):qb xs z=some v:=by
 rw[e]
 exact NB h
theorem Wa{α:Type}{l:List α}(hN:l.Nodup){i j:Nat}{x:α}(a:l[i]? =some x)(b:l[j]? =some x):i=j:=by
 obtain⟨h1,e1⟩:=bw.mp a
 obtain⟨h2,e2⟩:=bw.mp b
 exact(List.getElem_inj hN).mp (e1.trans e2.symm)
open PySem.W (WData Codec OpenSpec Well WellAll ReadsW ReadsAllW)
mutual
inductive Dw(K:Fg)(H:Hp):V->WData->Prop
 | ia:Dw K H .ia .none
 | bl (b:Bool):Dw K H (.bl b) (.bool b)
 | int (i:Int):Dw K H (.int i) (.int i)
 | str (x:Str):Dw K H (.str x) (.str x)
 | lj (b:Array UInt8):Dw K H (.lj b) (.bytes b.toList)
 | lst {a:Addr} {xs:List V} {ds:List WData}:f_ K H a xs->nO K H xs ds->Dw K H (.ref a) (.list ds)
 | tup {a:Addr} {xs:List V} {ds:List WData}:iO K H a xs->nO K H xs ds->Dw K H (.ref a) (.tuple ds)
inductive nO(K:Fg)(H:Hp):List V->List WData->Prop
 | nil:nO K H [] []
 | cons {v:V} {vs:List V} {d:WData} {ds:List WData}:Dw K H v d->nO K H vs ds->nO K H (v::vs) (d::ds)
end
theorem Ec{K:Fg}{H:Hp}:∀ns:List Int,nO K H (ns.map V.int) (ns.map WData.int)
 | []=>.nil
 | n::r=>.cons (.int n) (Ec r)
theorem F2{K:Fg}{H:Hp}:∀(ns:List Int) (xs:List V),nO K H xs (ns.map WData.int)->xs=ns.map V.int
 | [],xs,h=>by
  cases h
  rfl
 | n::r,xs,h=>by
  cases h with
  | cons h1 h2=>
   cases h1
   rw[F2 r _ h2]<;>rfl
section
variable{P:Program}{w:World}{K:Fg}{H:Hp}{h:Heap}{R:PySem.W.WRecords}{cl:Str->Option Addr}
theorem abl{a:Addr}{xs:List V}(h_:jg P w H h)(KX:K.In h)(q:f_ K H a xs):∃(g_:List Value) (o:Obj) (n:Nat),iG xs g_/\h.get? a=some o/\o.cls= .type "list"/\o.data= .seq g_.toArray n:=by
 rcases q with q | ⟨o,g_,n,e,hc,_,hd,_,hv⟩
 ·obtain⟨_,g_,n,hv,e⟩:=(show jl P w H h a (.lst xs) from q.ok h_)
  exact⟨g_,_,n,hv,e,rfl,rfl⟩
 ·exact⟨g_.toList,o,n,hv,KX _ _ e,hc,by simp[hd]⟩
theorem abm{a:Addr}{xs:List V}(h_:jg P w H h)(KX:K.In h)(q:iO K H a xs):∃(g_:List Value) (o:Obj) (n:Nat),iG xs g_/\h.get? a=some o/\o.cls= .type "tuple"/\o.data= .seq g_.toArray n:=by
 rcases q with q | ⟨o,g_,n,e,hc,hd,_,hv⟩
 ·obtain⟨_,g_,hv,o,e,hc,n,hd⟩:=(show jl P w H h a (.tup xs) from q.ok h_)
  exact⟨g_,o,n,hv,e,hc,hd⟩
 ·exact⟨g_.toList,o,n,hv,KX _ _ e,hc,by simp[hd]⟩
mutual
theorem Dw.reads(h_:jg P w H h)(KX:K.In h):∀(d:WData) (v:V) (u:Value),Dw K H v d->RelV v u->∃as,ReadsW R cl h u d as
 | .none,_,_,x,r=>by
  cases x
  cases r
  exact⟨_,ReadsW.none⟩
 | .bool b,_,_,x,r=>by
  cases x
  cases r
  exact⟨_,ReadsW.bool b⟩
 | .int i,_,_,x,r=>by
  cases x
  obtain⟨t,rfl⟩:=r
  exact⟨_,ReadsW.int i t⟩
 | .str s,_,_,x,r=>by
  cases x
  obtain⟨t,rfl⟩:=r
  exact⟨_,ReadsW.str s t⟩
 | .bytes b,_,_,x,r=>by
  cases x
  obtain⟨t,rfl⟩:=r
  exact⟨_,ReadsW.bytes _ t⟩
 | .list ds,_,_,x,r=>by
  cases x with
  | lst hs ha=>
   cases r
   obtain⟨g_,o,n,rv,ho,hc,hd⟩:=abl h_ KX hs
   obtain⟨as,hr⟩:=Dw.readsAll h_ KX ds _ g_ ha rv
   exact⟨_,ReadsW.list ho hc hd hr⟩
 | .tuple ds,_,_,x,r=>by
  cases x with
  | tup hs ha=>
   cases r
   obtain⟨g_,o,n,rv,ho,hc,hd⟩:=abm h_ KX hs
   obtain⟨as,hr⟩:=Dw.readsAll h_ KX ds _ g_ ha rv
   exact⟨_,ReadsW.tuple ho hc hd hr⟩
 | .float _,_,_,x,_=>by cases x
 | .dict _,_,_,x,_=>by cases x
 | .bytearray _,_,_,x,_=>by cases x
 | .set _,_,_,x,_=>by cases x
 | .frozenset _,_,_,x,_=>by cases x
 | .obj _ _,_,_,x,_=>by cases x
theorem Dw.readsAll(h_:jg P w H h)(KX:K.In h):∀(ds:List WData) (vs:List V) (us:List Value),nO K H vs ds->iG vs us->∃as,ReadsAllW R cl h us ds as
 | [],_,_,x,r=>by
  cases x
  cases r
  exact⟨_,ReadsAllW.nil⟩
 | d::ds,_,_,x,r=>by
  cases x with
  | cons h1 h2=>
   cases r with
   | cons r1 r2=>
    obtain⟨as,q1⟩:=Dw.reads h_ KX d _ _ h1 r1
    obtain⟨bs,q2⟩:=Dw.readsAll h_ KX ds _ _ h2 r2
    exact⟨_,ReadsAllW.cons q1 q2⟩
end
end
mutual
noncomputable def mX:WData->Bool
 | .none=>true
 | .bool _=>true
 | .int _=>true
 | .str _=>true
 | .bytes _=>true
 | .list xs=>og xs
 | .tuple xs=>og xs
 | _=>false
noncomputable def og:List WData->Bool
 | []=>true
 | x::r=>mX x&&og r
end
theorem HZ{α:Type}{f:α->WData}(h:∀a,mX (f a)=true):∀l:List α,og (l.map f)=true
 | []=>rfl
 | x::r=>by
  show(mX (f x)&&og (r.map f))=true
  rw[h x,HZ h r]<;>rfl
theorem rR:∀(c:Codec) (a:c.denote),mX (c.enc a)=true
 | .unit,_=>rfl
 | .bool,_=>rfl
 | .int _ _,_=>rfl
 | .nat _ _,_=>rfl
 | .u8,_=>rfl
 | .bytes _ _,_=>rfl
 | .text _ _ _ _,_=>rfl
 | .list _ _ c,a=>HZ (λx=>rR c x) a
 | .pair c d,a=>by
  show(mX (c.enc a.1)&&(mX (d.enc a.2)&&true))=true
  rw[rR c a.1,rR d a.2]<;>rfl
 | .triple c d e,a=>by
  show(mX (c.enc a.1)&&(mX (d.enc a.2.1)&&(mX (e.enc a.2.2)&&true)))=true
  rw[rR c a.1,rR d a.2.1,rR e a.2.2]<;>rfl
 | .option c,none=>rfl
 | .option c,some x=>rR c x
theorem H_:∀(cs:List Codec) (a:Codec.denoteAll cs),og (Codec.encAll cs a)=true
 | [],_=>rfl
 | c::cs,a=>by
  show(mX (c.enc a.1)&&og (Codec.encAll cs a.2))=true
  rw[rR c a.1,H_ cs a.2]<;>rfl
theorem DB:∀{xs:List WData} {d:WData},d∈xs->d.weight<=WData.weightAll xs
 | [],d,h=>absurd h (by simp)
 | x::r,d,h=>by
  show d.weight<=x.weight+1+WData.weightAll r
  rcases aM.mp h with e | m
  ·rw[e]
   omega
  ·have z:=DB m
   omega
noncomputable def toV:Value->V
 | .none=>.ia
 | .bool b=>.bl b
 | .int i _=>.int i
 | .str x _=>.str x
 | .bytes b _=>.lj b
 | .ref a=>.ref a
 | _=>.ia
noncomputable def m9(A:List Addr):Value->Prop
 | .none=>True
 | .bool _=>True
 | .int _ _=>True
 | .str _ _=>True
 | .bytes _ _=>True
 | .ref a=>a∈A
 | _=>False
theorem m9.mono{A B:List Addr}(h:∀a∈A,a∈B):∀{u:Value},m9 A u->m9 B u:=λ{u} x=>by
 cases u with
 | ref a=>exact h a x
 | none=>trivial
 | bool b=>trivial
 | int i t=>trivial
 | str s t=>trivial
 | bytes b t=>trivial
 | _=>exact False.elim x
theorem aam{A:List Addr}{u:Value}(x:m9 A u):RelV (toV u) u:=by
 cases u with
 | ref a=>rfl
 | none=>rfl
 | bool b=>rfl
 | int i t=>exact⟨t,rfl⟩
 | str s t=>exact⟨t,rfl⟩
 | bytes b t=>exact⟨t,rfl⟩
 | _=>exact False.elim x
theorem vg{A:List Addr}:∀{vs:List Value},(∀u∈vs,m9 A u)->iG (vs.map toV) vs
 | [],_=>.nil
 | u::r,h=>.cons (aam (h u (aD ..))) (vg λx hx=>h x (aw _ hx))
noncomputable def nM(h:Heap)(A:List Addr)(a:Addr):Prop:=∃vs:List Value,vs.length<=sizeLine/\(∀u∈vs,m9 A u)/\
 (h.get? a=some {cls:=.type "list",data:=.seq vs.toArray}\/h.get? a=some {cls:=.type "tuple",data:=.seq vs.toArray})
theorem nM.mono{h:Heap}{A B:List Addr}{a:Addr}(k:∀a∈A,a∈B)(x:nM h A a):nM h B a:=by
 obtain⟨vs,h1,h2,h3⟩:=x
 exact⟨vs,h1,λu hu=>(h2 u hu).mono k,h3⟩
theorem z_{P:Params}{h:Heap}:∀{vs:List Value} {ds:List WData},WellAll P h vs ds->vs.length=ds.length
 | _,_,.nil=>rfl
 | _,_,.cons _ b=>by
  show _+1=_+1
  rw[z_ b]
theorem MS{P:Params}{h:Heap}{v:Value}{ds:List WData}(x:Well P h v (.list ds)):∃(a:Addr) (vs:List Value),v= .ref a/\h.get? a=some {cls:=.type "list",data:=.seq vs.toArray}/\WellAll P h vs ds:=by
 cases x with
 | list ho jq=>exact⟨_,_,rfl,ho,jq⟩
theorem MT{P:Params}{h:Heap}{v:Value}{ds:List WData}(x:Well P h v (.tuple ds)):∃(a:Addr) (vs:List Value),v= .ref a/\h.get? a=some {cls:=.type "tuple",data:=.seq vs.toArray}/\WellAll P h vs ds:=by
 cases x with
 | tuple ho jq=>exact⟨_,_,rfl,ho,jq⟩
theorem MR{P:Params}{h:Heap}{us:List Value}{d:WData}{ds:List WData}(x:WellAll P h us (d::ds)):∃(v:Value) (vs:List Value),us=v::vs/\Well P h v d/\WellAll P h vs ds:=by
 cases x with
 | cons a b=>exact⟨_,_,rfl,a,b⟩
theorem Gm{n:Nat}(h:n<=1048576):n<=sizeLine:=aN h (by decide)
section
variable{P:Params}{h:Heap}
mutual
theorem Nu:∀(d:WData) (v:Value),Well P h v d->mX d=true->d.weight<=1048576->∃A:List Addr,m9 A v/\∀a∈A,nM h A a
 | .none,_,x,_,_=>by
  cases x
  exact⟨[],trivial,λa m=>absurd m (by simp)⟩
 | .bool b,_,x,_,_=>by
  cases x
  exact⟨[],trivial,λa m=>absurd m (by simp)⟩
 | .int i,_,x,_,_=>by
  cases x
  exact⟨[],trivial,λa m=>absurd m (by simp)⟩
 | .str s,_,x,_,_=>by
  cases x
  exact⟨[],trivial,λa m=>absurd m (by simp)⟩
 | .bytes b,_,x,_,_=>by
  cases x
  exact⟨[],trivial,λa m=>absurd m (by simp)⟩
 | .list ds,_,x,p,z=>by
  obtain⟨a,vs,rfl,ho,jq⟩:=MS x
  have z2:WData.weightAll ds<=1048576:=z
  obtain⟨A,h1,h2⟩:=x6 ds _ jq p λd hd=>aN (DB hd) z2
  have k:∀b∈A,b∈a::A:=λb hb=>aw _ hb
  refine⟨a::A,aD ..,λb hb=>?_⟩
  rcases aM.mp hb with e | m
  ·rw[e]
   exact⟨vs,Gm (by rw[z_ jq];exact aN (gh ds) z2),λu hu=>(h1 u hu).mono k,.inl ho⟩
  ·exact(h2 b m).mono k
 | .tuple ds,_,x,p,z=>by
  obtain⟨a,vs,rfl,ho,jq⟩:=MT x
  have z2:WData.weightAll ds<=1048576:=z
  obtain⟨A,h1,h2⟩:=x6 ds _ jq p λd hd=>aN (DB hd) z2
  have k:∀b∈A,b∈a::A:=λb hb=>aw _ hb
  refine⟨a::A,aD ..,λb hb=>?_⟩
  rcases aM.mp hb with e | m
  ·rw[e]
   exact⟨vs,Gm (by rw[z_ jq];exact aN (gh ds) z2),λu hu=>(h1 u hu).mono k,.inr ho⟩
  ·exact(h2 b m).mono k
 | .float _,_,_,p,_=>Bool.noConfusion (show false=true from p)
 | .dict _,_,_,p,_=>Bool.noConfusion (show false=true from p)
 | .bytearray _,_,_,p,_=>Bool.noConfusion (show false=true from p)
 | .set _,_,_,p,_=>Bool.noConfusion (show false=true from p)
 | .frozenset _,_,_,p,_=>Bool.noConfusion (show false=true from p)
 | .obj _ _,_,_,p,_=>Bool.noConfusion (show false=true from p)
theorem x6:∀(ds:List WData) (vs:List Value),WellAll P h vs ds->og ds=true->(∀d∈ds,d.weight<=1048576)->∃A:List Addr,(∀u∈vs,m9 A u)/\∀a∈A,nM h A a
 | [],_,x,_,_=>by
  cases x
  exact⟨[],λu m=>absurd m (by simp),λa m=>absurd m (by simp)⟩
 | d::ds,_,x,p,z=>by
  obtain⟨v,vs,rfl,x1,x2⟩:=MR x
  have q:mX d=true/\og ds=true:=eZ.mp p
  obtain⟨A,a1,a2⟩:=Nu d v x1 q.1 (z d (aD ..))
  obtain⟨B,b1,b2⟩:=x6 ds vs x2 q.2 λe he=>z e (aw _ he)
  have kA:∀b∈A,b∈A++B:=λb hb=>bg.mpr (.inl hb)
  have kB:∀b∈B,b∈A++B:=λb hb=>bg.mpr (.inr hb)
  refine⟨A++B,λu hu=>?_,λb hb=>?_⟩
  ·rcases aM.mp hu with e | m
   ·rw[e]
    exact a1.mono kA
   ·exact(b1 u m).mono kB
  ·rcases bg.mp hb with m | m
   ·exact(a2 b m).mono kA
   ·exact(b2 b m).mono kB
end
end
noncomputable def yS(o:Obj):Option HO:=match o.data with
 | .seq vs _=>if (o.cls == Value.type "list")=true then some (.iF o (.lst (vs.toList.map toV))) else some (.iF o (.tup (vs.toList.map toV)))
 | _=>none
noncomputable def kH(K:Fg)(h:Heap)(A:List Addr):Hp:=λb=>if b∈A then (if (K.lookup b).isNone=true then (h.get? b).bind yS else none) else none
noncomputable def vC(H:Hp):Prop:=∀b,H b=none\/∃o u,H b=some (.iF o u)
theorem Fs(vs:List Value):yS {cls:=.type "list",data:=.seq vs.toArray}=some (.iF {cls:=.type "list",data:=.seq vs.toArray} (.lst (vs.map toV))):=by
 show(if (Value.type "list" == Value.type "list")=true then some (HO.iF {cls:=.type "list",data:=.seq vs.toArray} (.lst (vs.toArray.toList.map toV))) else some (HO.iF {cls:=.type "list",data:=.seq vs.toArray} (.tup (vs.toArray.toList.map toV))))=_
 rw[aE (bY _)]
theorem Ft(vs:List Value):yS {cls:=.type "tuple",data:=.seq vs.toArray}=some (.iF {cls:=.type "tuple",data:=.seq vs.toArray} (.tup (vs.map toV))):=by
 show(if (Value.type "tuple" == Value.type "list")=true then some (HO.iF {cls:=.type "tuple",data:=.seq vs.toArray} (.lst (vs.toArray.toList.map toV))) else some (HO.iF {cls:=.type "tuple",data:=.seq vs.toArray} (.tup (vs.toArray.toList.map toV))))=_
 rw[aq (by decide)]
section
variable{P:Program}{w:World}{K:Fg}{h:Heap}{A:List Addr}
theorem x8{b:Addr}{o:Obj}(hb:b∈A)(hk:K.lookup b=none)(e:h.get? b=some o):kH K h A b=yS o:=by
 unfold kH
 rw[aE hb,hk,aE (show(none:Option Obj).isNone=true from rfl),e]<;>rfl
theorem WK{b:Addr}{u:HO}(q:kH K h A b=some u):b∈A/\K.lookup b=none:=by
 unfold kH at q
 by_cases hb:b∈A
 ·rw[aE hb]at q
  cases hk:K.lookup b with
  | none=>exact⟨hb,rfl⟩
  | some o=>
   rw[hk,aq (by simp)]at q
   cases q
 ·rw[aq hb]at q
  cases q
theorem vK(ar:∀a∈A,nM h A a){b:Addr}{u:HO}(q:kH K h A b=some u):K.lookup b=none/\∃vs:List Value,vs.length<=sizeLine/\(∀u∈vs,m9 A u)/\
 (
  (h.get? b=some {cls:=.type "list",data:=.seq vs.toArray}/\u= .iF {cls:=.type "list",data:=.seq vs.toArray} (.lst (vs.map toV)))\/
  (h.get? b=some {cls:=.type "tuple",data:=.seq vs.toArray}/\u= .iF {cls:=.type "tuple",data:=.seq vs.toArray} (.tup (vs.map toV)))):=by
 obtain⟨hb,hk⟩:=WK q
 obtain⟨vs,h1,h2,h3⟩:=ar b hb
 refine⟨hk,vs,h1,h2,?_⟩
 rcases h3 with e | e
 ·rw[x8 hb hk e,Fs]at q
  exact .inl ⟨e,(ae q).symm⟩
 ·rw[x8 hb hk e,Ft]at q
  exact .inr ⟨e,(ae q).symm⟩
theorem Nw(ar:∀a∈A,nM h A a):vC (kH K h A):=λb=>by
 cases q:kH K h A b with
 | none=>exact .inl rfl
 | some u=>
  obtain⟨_,vs,_,_,⟨_,e⟩ | ⟨_,e⟩⟩:=vK ar q
  ·exact .inr ⟨_,_,by rw[e]⟩
  ·exact .inr ⟨_,_,by rw[e]⟩
theorem Nv(ar:∀a∈A,nM h A a):jg P w (kH K h A) h:=λb u q=>by
 obtain⟨_,vs,h1,h2,⟨e,rfl⟩ | ⟨e,rfl⟩⟩:=vK ar q
 ·exact⟨e,by rw[ab];exact h1,vs,_,vg h2,e⟩
 ·exact⟨e,by rw[ab];exact h1,vs,vg h2,_,e,rfl,_,rfl⟩
theorem zR{c c':Value}{vs us:List Value}(e:(some {cls:=c,data:=.seq vs.toArray}:Option Obj)=some {cls:=c',data:=.seq us.toArray}):c=c'/\vs=us:=by
 have e1:=ae e
 have e2:c=c':=cB Obj.cls e1
 have e3:Data.seq vs.toArray=Data.seq us.toArray:=cB Obj.data e1
 injection e3 with e4
 refine⟨e2,?_⟩
 have e5:=cB Array.toList e4
 simpa using e5
theorem Ny(KX:K.In h)(ar:∀a∈A,nM h A a){a:Addr}{vs:List Value}(ha:a∈A)(e:h.get? a=some {cls:=.type "list",data:=.seq vs.toArray}):(∀u∈vs,m9 A u)/\f_ K (kH K h A) a (vs.map toV):=by
 obtain⟨us,h1,h2,h3⟩:=ar a ha
 have hu:us=vs:=by
  rcases h3 with q | q
  ·rw[e]at q
   exact(zR q).2.symm
  ·rw[e]at q
   exact absurd (Value.type.inj (zR q).1) (by decide)
 subst hu
 refine⟨h2,?_⟩
 cases hk:K.lookup a with
 | none=>exact .inl (.inr ⟨_,by rw[x8 ha hk e,Fs]⟩)
 | some o=>
  have e2:=KX a o hk
  rw[e]at e2
  obtain rfl:=ae e2
  exact .inr ⟨_,us.toArray,_,hk,rfl,rfl,rfl,by rw[aJ];exact h1,by simpa using vg h2⟩
theorem Nz(KX:K.In h)(ar:∀a∈A,nM h A a){a:Addr}{vs:List Value}(ha:a∈A)(e:h.get? a=some {cls:=.type "tuple",data:=.seq vs.toArray}):(∀u∈vs,m9 A u)/\iO K (kH K h A) a (vs.map toV):=by
 obtain⟨us,h1,h2,h3⟩:=ar a ha
 have hu:us=vs:=by
  rcases h3 with q | q
  ·rw[e]at q
   exact absurd (Value.type.inj (zR q).1) (by decide)
  ·rw[e]at q
   exact(zR q).2.symm
 subst hu
 refine⟨h2,?_⟩
 cases hk:K.lookup a with
 | none=>exact .inl (.inr ⟨_,by rw[x8 ha hk e,Ft]⟩)
 | some o=>
  have e2:=KX a o hk
  rw[e]at e2
  obtain rfl:=ae e2
  exact .inr ⟨_,us.toArray,_,hk,rfl,rfl,by rw[aJ];exact h1,by simpa using vg h2⟩
mutual
theorem Qv{Pm:Params}(KX:K.In h)(ar:∀a∈A,nM h A a):∀(d:WData) (v:Value),Well Pm h v d->mX d=true->m9 A v->Dw K (kH K h A) (toV v) d
 | .none,_,x,_,_=>by
  cases x
  exact .ia
 | .bool b,_,x,_,_=>by
  cases x
  exact .bl b
 | .int i,_,x,_,_=>by
  cases x
  exact .int i
 | .str s,_,x,_,_=>by
  cases x
  exact .str s
 | .bytes b,_,x,_,_=>by
  cases x
  have z:=Dw.lj (K:=K) (H:=kH K h A) b.toArray
  exact z
 | .list ds,_,x,p,hu=>by
  obtain⟨a,vs,rfl,ho,jq⟩:=MS x
  obtain⟨h2,hs⟩:=Ny KX ar hu ho
  exact .lst hs (yo KX ar ds _ jq p h2)
 | .tuple ds,_,x,p,hu=>by
  obtain⟨a,vs,rfl,ho,jq⟩:=MT x
  obtain⟨h2,hs⟩:=Nz KX ar hu ho
  exact .tup hs (yo KX ar ds _ jq p h2)
 | .float _,_,_,p,_=>Bool.noConfusion (show false=true from p)
 | .dict _,_,_,p,_=>Bool.noConfusion (show false=true from p)
 | .bytearray _,_,_,p,_=>Bool.noConfusion (show false=true from p)
 | .set _,_,_,p,_=>Bool.noConfusion (show false=true from p)
 | .frozenset _,_,_,p,_=>Bool.noConfusion (show false=true from p)
 | .obj _ _,_,_,p,_=>Bool.noConfusion (show false=true from p)
theorem yo{Pm:Params}(KX:K.In h)(ar:∀a∈A,nM h A a):∀(ds:List WData) (vs:List Value),WellAll Pm h vs ds->og ds=true->(∀u∈vs,m9 A u)->nO K (kH K h A) (vs.map toV) ds
 | [],_,x,_,_=>by
  cases x
  exact .nil
 | d::ds,_,x,p,hu=>by
  obtain⟨v,vs,rfl,x1,x2⟩:=MR x
  have q:mX d=true/\og ds=true:=eZ.mp p
  exact .cons (Qv KX ar d v x1 q.1 (hu _ (aD ..))) (yo KX ar ds vs x2 q.2 λu m=>hu u (aw _ m))
end
end
theorem abj{P:Program}{w:World}{K:Fg}{mg mb:Str->Option Value}{CX:nN}{k:Nat}{fa:Addr}{fd:FuncData}{ps:List Str}{sp:Sp}{iW:Shared}{vals:List Value}{ds:List WData}{R:PySem.W.WRecords}{cl:Str->Option Addr}{d0:WData}
 (KX:K.In iW.heap) (sM:iW.heap.Ns mainGlobals mg) (hb:iW.heap.Ns builtinsNs mb) (rb:∀x:Str,x≠"__name__"->mb x=bootBuiltins x) (Tb:iW.heap.NoLimit) (uw:iW.heap.NoSeer) (hg:iW.gens=#[])
 (qA:WellAll w.params iW.heap vals ds) (i9:og ds=true) (Uo:∀d∈ds,d.weight<=1048576) (hr:jy k callerA)
 (F:∀base:Heap,K.In base->base.Ns mainGlobals mg->m5 P w K mg base CX k fa fd ps sp) (Sj:∀(s:Shared) (us:List Value),us.length=ps.length->BindsTo s fd ⟨us,[]⟩ (ps.zip us)) (hlen:ds.length=ps.length)
 (pD:∀(H:Hp) (xs:List V),vC H->nO K H xs ds->sp xs H (λv U=>Dw K U v d0) λ_ _ _=>False)
 (wb:∀H e s',CX [] H iW (λ_ _ _=>False) e s'->False):
 codeAny (model P w) callerA (.call (.ref fa) ⟨vals,[]⟩) (λr s'=>∃u as,r= .ok (.ret u)/\ReadsW R cl s'.heap u d0 as/\OldK iW.heap s'.heap/\s'.os=iW.os/\AllBare s'.gens) iW:=by
 obtain⟨A,ho,ar⟩:=x6 ds vals qA i9 Uo
 have hO:vC (kH K iW.heap A):=Nw ar
 have h_:jg P w (kH K iW.heap A) iW.heap:=Nv ar
 have hS:=yo KX ar ds vals qA i9 ho
 have hV:=vg ho
 have hK:∀b u,kH K iW.heap A b=some u->K.lookup b=none:=λb u q=>(vK ar q).1
 have uP:∀{b:Addr} {o:Obj} {es:Array DictEntry} {ep:Nat},iW.heap.get? b=some o->o.data= .dict es ep->kH K iW.heap A b=none:=λ{b o es ep} e d=>by
  cases q:kH K iW.heap A b with
  | none=>rfl
  | some u=>
   obtain⟨_,vs,_,_,⟨e2,_⟩ | ⟨e2,_⟩⟩:=vK ar q
   ·rw[e2]at e
    cases e
    have d':Data.seq vs.toArray _=Data.dict es ep:=d
    cases d'
   ·rw[e2]at e
    cases e
    have d':Data.seq vs.toArray _=Data.dict es ep:=d
    cases d'
 have G4:∀{b:Addr} {o:Obj},iW.heap.get? b=some o->o.cls= .type "module"->kH K iW.heap A b=none:=λ{b o} e d=>by
  cases q:kH K iW.heap A b with
  | none=>rfl
  | some u=>
   obtain⟨_,vs,_,_,⟨e2,_⟩ | ⟨e2,_⟩⟩:=vK ar q
   ·rw[e2]at e
    cases e
    exact absurd d (by simp)
   ·rw[e2]at e
    cases e
    exact absurd d (by simp)
 generalize kH K iW.heap A=H at hO h_ hS hK uP G4
 have Av:∀{b:Addr} {o:Obj},iW.heap.get? b=some o->H b=none->(pz iW.heap H).get? b=some o:=λe n=>SR e n
 have rH:∀{b:Addr} {m:Str->Option Value},iW.heap.Ns b m->(pz iW.heap H).Ns b m:=λ{b m} ⟨o,es,ep,e,d,r⟩=>⟨o,es,ep,Av e (uP e d),d,r⟩
 have nK:∀b o,K.lookup b=some o->H b=none:=λb o e=>by
  cases q:H b with
  | none=>rfl
  | some u=>
   rw[hK b u q]at e
   cases e
 have ER:K.In (pz iW.heap H):=λb o e=>Av (KX b o e) (nK b o e)
 have aa3:(pz iW.heap H).NoSeer:=⟨(let ⟨mc,a,b⟩:=uw.statics;⟨mc,rH a,b⟩),(let ⟨mc,a,b⟩:=uw.mods;⟨mc,rH a,b⟩),(let ⟨mc,a,b⟩:=uw.imp;⟨mc,rH a,b⟩),
  (let ⟨VT,bm,ob,a,b,c,d,e⟩:=uw.main;⟨VT,bm,ob,rH a,b,Av c (G4 c d),d,e⟩)⟩
 have hM:Mod K mg (pz iW.heap H):=⟨ER,rH sM,⟨mb,rH hb,rb⟩,let ⟨mc,h1,h2⟩:=Tb;⟨mc,rH h1,h2⟩,aa3⟩
 have e0:rY P w K mg (pz iW.heap H) callerA [] iW H:=⟨rfl,hM,λb o e=>WL e,gp (SS _ _),trivial,λb hb=>absurd (show b∈([]:List Addr) from hb) (by simp),h_,.of_eq hg⟩
 have hl:vals.length=ps.length:=by rw[z_ qA];exact hlen
 refine codeAny_mono ((F _ ER (rH sM)).run callerA [] iW H ⟨vals,[]⟩ vals (vals.map toV) _ _ hr e0 (Sj iW vals hl) hV (pD H _ hO hS)) λr s' x=>?_
 cases r with
 | error e=>exact(wb H e s' x).elim
 | ok fl=>
  cases fl with
  | next=>exact False.elim x
  | brk=>exact False.elim x
  | cont=>exact False.elim x
  | ret u=>
   obtain⟨v,U,os,bare,un,Fv,r',q⟩:=x
   have kept:∀b o,iW.heap.get? b=some o->s'.heap.get? b=some o:=λb o e=>by
    cases q2:H b with
    | none=>exact un.keep b o e q2 (by intro z;exact absurd (show b∈([]:List Addr) from z) (by simp)) (by simp)
    | some u2=>
     rcases hO b with z | ⟨ob,u3,z⟩
     ·rw[q2]at z
      cases z
     ·have z2:=un.oG b ob _ z
      obtain⟨e1,_⟩:=h_ b _ z
      obtain⟨e2,_⟩:=Fv b _ z2
      rw[e]at e1
      cases e1
      exact e2
   have Ng:K.In s'.heap:=λb o e=>kept b o (KX b o e)
   obtain⟨as,uu⟩:=Dw.reads (R:=R) (cl:=cl) Fv Ng d0 v u q r'
   exact⟨u,as,rfl,uu,OldK.of_keep kept,os,bare⟩
theorem Vf{ds:List WData}(h:WData.layableAll ds=true):∀d∈ds,d.weight<=1048576:=λd hd=>
 (PySem.W.layableW_iff.mp (cx.mp h d hd)).2.2
theorem Ef:∀(cs:List Codec) (a:Codec.denoteAll cs),(Codec.encAll cs a).length=cs.length
 | [],_=>rfl
 | c::cs,a=>by
  show(Codec.encAll cs a.2).length+1=cs.length+1
  rw[Ef cs a.2]
theorem ack{r:OpenSpec}{k:Nat}{q:Program}{loose:List Str}{XP:(Str->Option Value)->Heap->Prop}{YP:World->Heap->Prop}{d:DefRec}{K:Params->Fg}{CX:World->nN}{ps:List Str}{sp:World->Sp}
 (BO:r.wellSaid=true) (himp:PyProof.Rows.importsNone q=true) (E3:d.params.defaults=[]) (hlen:r.args.length=ps.length) (hr:jy k callerA)
 (hY:∀(w:World) (h:Heap),YP w h->(K w.params).In h)
 (F:∀(w:World) (mg:Str->Option Value) (fa:Addr) (h:Heap),YP w h->(K w.params).In h->h.Ns mainGlobals mg->mg d.name=some (.ref fa)->
  ∃
   fd:FuncData,(∀(s:Shared) (us:List Value),us.length=ps.length->BindsTo s fd ⟨us,[]⟩ (ps.zip us))/\
   ∀base:Heap,(K w.params).In base->base.Ns mainGlobals mg->m5 r.prog w (K w.params) mg base (CX w) k fa fd ps (sp w))
 (pD:∀(w:World) (H:Hp) (xs:List V) (a:Codec.denoteAll r.args),vC H->Codec.withinAll r.args a=true->Codec.app r.args r.asked a=true->nO (K w.params) H xs (Codec.encAll r.args a)->
  sp w xs H (λv U=>Dw (K w.params) U v (r.ret.enc (Codec.app r.args r.f a))) λ_ _ _=>False)
 (wb:∀(w:World) (H:Hp) (s:Shared) (e:Value) (s':Shared),CX w [] H s (λ_ _ _=>False) e s'->False):
 PySem.W.WalkOS q loose XP YP r d [] (λf vs=>PySem.call f vs):=by
 intro w kU iW mg mb G Y fa o pm cd doc dV kV ho hd pb hD Bn hg args vals as By S9 uu qA hlo
 obtain⟨a,e1,e2⟩:=PySem.W.os_pre_some By
 obtain⟨e3,yX⟩:=Codec.encAll_of_decAll r.args args a e1
 subst e3
 have KX:=hY w _ Y
 obtain⟨fd,hb,hF⟩:=F w mg fa _ Y KX G.T.g Bn
 refine PySem.W.enter_call (codeAny_mono (abj (R:=[]) (cl:=classAt kU.heap) (d0:=r.ret.enc (Codec.app r.args r.f a)) KX G.T.g G.T.b G.T.builtins G.T.nolimit (G.T.seer himp) hg qA (H_ _ _) (Vf S9) hr hF hb (by rw[Ef];exact hlen)
  (λH xs hO hS=>pD w H xs a hO yX e2 hS) λH e s'=>wb w H iW e s') λr' s' hq=>?_)
 obtain⟨u,NA,rfl,h1,h2,h3,h4⟩:=hq
 exact⟨.inl ⟨u,_,NA,rfl,λ_=>rfl,h1,(OpenSpec.post_iff BO yX _ _).mpr rfl,λz=>Bool.noConfusion (show false=true from z)⟩,h2,h3,h4⟩
theorem acm{r:OpenSpec}{k:Nat}{q:Program}{loose:List Str}{XP:(Str->Option Value)->Heap->Prop}{YP:World->Heap->Prop}{d:DefRec}{K:Params->Fg}{CX:nN}{ps:List Str}{sp:Fg->Sp}
 (BO:r.wellSaid=true) (himp:PyProof.Rows.importsNone q=true) (E3:d.params.defaults=[]) (hlen:r.args.length=ps.length) (hr:jy k callerA)
 (hY:∀(w:World) (h:Heap),YP w h->(K w.params).In h)
 (F:∀(w:World) (mg:Str->Option Value) (fa:Addr) (h:Heap),YP w h->(K w.params).In h->h.Ns mainGlobals mg->mg d.name=some (.ref fa)->
  ∃
   fd:FuncData,(∀(s:Shared) (us:List Value),us.length=ps.length->BindsTo s fd ⟨us,[]⟩ (ps.zip us))/\
   ∀base:Heap,(K w.params).In base->base.Ns mainGlobals mg->m5 r.prog w (K w.params) mg base CX k fa fd ps (sp (K w.params)))
 (pD:∀(K:Fg) (H:Hp) (xs:List V) (a:Codec.denoteAll r.args),vC H->Codec.withinAll r.args a=true->Codec.app r.args r.asked a=true->nO K H xs (Codec.encAll r.args a)->
  sp K xs H (λv U=>Dw K U v (r.ret.enc (Codec.app r.args r.f a))) λ_ _ _=>False)
 (wb:∀(H:Hp) (s:Shared) (e:Value) (s':Shared),CX [] H s (λ_ _ _=>False) e s'->False):
 PySem.W.WalkOS q loose XP YP r d [] (λf vs=>PySem.call f vs):=
 ack (K:=K) (CX:=λ_=>CX) (sp:=λw=>sp (K w.params)) BO himp E3 hlen hr hY F (λw H xs a h1 h2 h3 h4=>pD (K w.params) H xs a h1 h2 h3 h4) λ_ H s e s'=>wb H s e s'
noncomputable def Def(K:Fg)(mg:Str->Option Value)(x:Str)(ps:List Str)(st:Stmt):Prop:=
 ∃f fd,mg x=some (.ref f)/\pZ K x x st f fd/\Binds K fd ps []
noncomputable def Callee(P:Program)(w:World)(K:Fg)(mg:Str->Option Value)(base:Heap)(k:Nat)(x:Str)(ps:List Str)(sp:Sp):Prop:=
 ∃f fd,mg x=some (.ref f)/\PySem.W.keepIn K (.ref f)=true/\Binds K fd ps []/\m5 P w K mg base oZ k f fd ps sp
section
variable{P:Program}{w:World}{K:Fg}{mg:Str->Option Value}{base:Heap}
theorem Def.ok{x:Str}{st:Stmt}{N ps:List Str}{k:Nat}{sp:Sp}(D:Def K mg x ps st)(S:ie N ps (ib st))(len:∀vs H Q E,sp vs H Q E->vs.length=ps.length)
 (sH:∀(f:Addr) (h8:Value) (A:Around) (outer:List Env) (s:Shared) (H:Hp) (vs:List V) (Q:VK) (E:XK),jy k (A.deeper (envOfC x (ib st) s.heap.objs.size f h8))->sp vs H Q E->
  ∃t,md (il oZ P w K mg base N x (ib st) f h8 A outer s H E).uQ (oA st) t/\t {nx:=λ_ U=>Q .ia U,rt:=Q} (start N vs) H):Callee P w K mg base (k+1) x ps sp:=by
 obtain⟨f,fd,h1,h2,h3⟩:=D
 exact⟨f,fd,h1,h2.kp,h3,h2.ok S len (sH f)⟩
end
section
variable{X:Cx}{k:Nat}{sp:Sp}{x:Str}{ps:List Str}{p pos:Pos}{e:Expr}{es:List Expr}{t:TA}
theorem hU(C:Callee X.prog X.w X.K X.mg X.base k x ps sp)(hr:jy k X.A)(ha:PA X (e::es) t)(hg:Gl X x:=by rfl)(oJ:(x == ("__debug__":Str))=false:=by decide)
 (he:starEach (e::es) X.env=(false,eval e X.env)::starEach es X.env:=by rfl) (i9:(backTo pos (starEach es X.env)).any (·.1)=false:=by rfl):
 PE X (.Call (.Name x p) (e::es) [] pos) (tG sp [] E0 t):=by
 obtain⟨f,fd,h1,h2,h3,h4⟩:=C
 exact X8 h4 hr hg h1 h2 h3 .nil CM ha oJ he i9
theorem iD{i:Int}(h:∃t,X.mg x=some (.int i t))(hg:Gl X x:=by rfl)(hd:(x == ("__debug__":Str))=false:=by decide):PE X (.Name x pos) (tC (.int i)):=by
 obtain⟨t,h⟩:=h
 exact zH hg h ⟨t,rfl⟩ hd
end
structure mI(K:Fg)(mg:Str->Option Value)(x:Str)(ps:List Str)(st:Stmt)(C:Addr):Prop where
 Gx:mg x=some (.ref C)
 cl:pY K C
 ini:∃f fd,Mk K C f/\pZ K "__init__" (x++".__init__") (inClass st 0) f fd/\Binds K fd ("self"::ps) []
noncomputable def abh(C:Addr)(n:Nat)(mk:List V->List (Str×V)):Sp:=λvs H Q _=>∃p us dx,vs= .ref p::us/\us.length=n/\H p=some (.ins C dx [])/\Q .ia (upd H p (.ins C dx (mk us)))
noncomputable def abF(C:Addr)(n:Nat)(mk:List V->List (Str×V))(t:TA):TE:=λσ H Q=>t σ H λvs H1=>vs.length=n/\∀x dx,H1 x=none->H1 dx=none->dx≠x->Q (.ref x) (upd (upd H1 dx (.own x)) x (.ins C dx (mk vs)))
noncomputable def Maker(P:Program)(w:World)(K:Fg)(mg:Str->Option Value)(base:Heap)(x:Str)(C:Addr)(n:Nat)(mk:List V->List (Str×V)):Prop:=
 ∃f fd ps,mg x=some (.ref C)/\Mk K C f/\Binds K fd ps []/\m5 P w K mg base oZ 1 f fd ps (abh C n mk)
section
variable{X:Cx}{x:Str}{C:Addr}{n:Nat}{mk:List V->List (Str×V)}{p pos:Pos}{e:Expr}{es:List Expr}{t:TA}
theorem jk(M:Maker X.prog X.w X.K X.mg X.base x C n mk)(hr:jy 2 X.A)(ha:PA X (e::es) t)(hg:Gl X x:=by rfl)(oJ:(x == ("__debug__":Str))=false:=by decide)
 (he:starEach (e::es) X.env=(false,eval e X.env)::starEach es X.env:=by rfl) (i9:(backTo pos (starEach es X.env)).any (·.1)=false:=by rfl):
 PE X (.Call (.Name x p) (e::es) [] pos) (abF C n mk t):=by
 obtain⟨f,fd,ps,h1,h2,h3,h4⟩:=M
 intro pins s σ H Q I h
 refine eA (zb I hg h1 ?_ oJ)
 refine PySem.W.callWith_K (h₀:=X.base) I.ok.mod.kin h2.kp (ir (ha pos pins s σ H _ I h) λus s1 ⟨vs,H1,I1,r,q⟩=>⟨I1.n8,?_⟩) he i9
 refine Iz (lJ:=[]) (ds:=[]) (E:=E0) h2 h4 hr h3 .nil CM I1 r λy dx hy hd iJ=>?_
 refine⟨y,vs,dx,by rw[cv],q.1,e_,rfl,?_⟩
 rw[kn]
 exact q.2 y dx hy hd iJ
end
theorem c_.new{H:Hp}{p:Addr}{o:HO}(h:H p=none):c_ H (upd H p o):=λb u e=>by
 rw[ip (jB e h)];exact e
theorem c_.upd{H U:Hp}{p:Addr}{o:HO}(s:c_ H U)(h:H p=none):c_ H (upd U p o):=λb u e=>by
 rw[ip (jB e h)];exact s b u e
theorem c_.jc{H:Hp}{x dx:Addr}{o o':HO}(hx:H x=none)(hd:H dx=none):c_ H (L2.upd (L2.upd H dx o') x o):=(c_.new hd).upd hx
theorem take_snoc{α:Type}:∀{l:List α} {i:Nat} {x:α},l[i]? =some x->l.take (i+1)=l.take i++[x]
 | [],i,x,h=>by simp at h
 | a::l,0,x,h=>by
  have e:a=x:=ae h
  subst e
  rfl
 | a::l,i+1,x,h=>by
  have ih:=take_snoc (l:=l) (i:=i) (x:=x) h
  show a::l.take (i+1)=a::l.take i++[x]
  rw[ih]
  rfl
noncomputable def kY(H1:Hp)(D:Addr)(l:List V)(H:Hp):Prop:=c_ H1 H/\H D=some (.lst l)
theorem lZ{H1:Hp}{D:Addr}(hD:H1 D=none):kY H1 D [] (upd H1 D (.lst [])):=⟨c_.new hD,e_⟩
theorem lY{H1 H H4:Hp}{D:Addr}{l l':List V}{y:V}(hD:H1 D=none)(p:kY H1 D l H)(s:c_ H H4)(hz:l.length<sizeLine)(e:l'=l++[y]):
 ∃acc,H4 D=some (.lst acc)/\acc.length<sizeLine/\kY H1 D l' (upd H4 D (.lst (acc++[y]))):=
 ⟨l,s _ _ p.2,hz,(p.1.trans s).upd hD,by rw[e_,e]⟩
theorem i8{α β:Type}{f:α->β}{l:List α}{i:Nat}{y:β}(h:(l.map f)[i]? =some y):∃x,l[i]? =some x/\y=f x:=by
 rw[bN]at h
 cases e:l[i]? with
 | none=>rw[e]at h;cases h
 | some x=>rw[e]at h;exact⟨x,rfl,(ae h).symm⟩
theorem ja{α:Type}{l:List α}{i:Nat}{x:α}(h:l[i]? =some x):i<l.length:=(bw.mp h).1
section
variable{X:Cx}
theorem mw:jE X (binaryOp .Mult) (rI IntMulOk λi j=>.int (i*j)):=xq λ_ _ _ _ _ _ _ hc q=>mul_int q hc
theorem zE:jE X (binaryOp .FloorDiv) (rI (λ_ j=>0<j/\j.natAbs.log2<9000) λi j=>.int (i/j)):=xq λi j _ _ _ _ _ hc q=>by
 have h1:(0:Int)<j:=hc.1
 exact floordiv_int (by omega) (by rw[eX i (by omega)];exact q) (.inl (PyProof.noPylong_of_log2 hc.2))
theorem HB(ht:X.prog.given.tree=none)(hs:X.stack=X.env::X.outer)(SN:X.env.scope.isGenerator=false)(Sv:X.env.scope.isCoroutine=false)(hd:X.A.depth+Builtin.pylongFrames<recursionLimit):
 jE X (binaryOp .FloorDiv) (rI (λ_ j=>0<j) λi j=>.int (i/j)):=by
 intro pins s σ H x y v u Q I rx ry h
 obtain⟨i,j,rfl,rfl,hc,q⟩:=h
 obtain⟨t,rfl⟩:=rx
 obtain⟨t',rfl⟩:=ry
 have uw:s.heap.NoSeer:=I.mod.seer.keeps I.bk
 have hr:PylongRoom (model X.prog X.w) X.A s:=PylongRoom.of I.nolimit hd (SeerAt.of uw ht (by rw[I.ok.frames,hs]) SN Sv I.ok.blt I.ok.glob)
 have we:(0:Int)<j:=hc
 refine floordiv_int (by omega) ?_ (.inr hr)
 rw[eX i (by omega)]
 exact⟨.int (i/j),H,I.tok _,⟨_,rfl⟩,q⟩
end
theorem Iw{A:Around}(hr:jy 33 A):A.depth+Builtin.pylongFrames<recursionLimit:=by
 have:=hr.dp
 show A.depth+100<_
 omega
theorem UP{c:Bool}{ta tb:TE}{σ:St}{H:Hp}{k:VK}(G:V->Hp->Prop)(h1:c=true->∀R:VK,(∀v H0,G v H0->R v H0)->ta σ H R)(h2:c=false->∀R:VK,(∀v H0,G v H0->R v H0)->tb σ H R)(h:∀v H0,G v H0->k v H0):
 if c=true then ta σ H k else tb σ H k:=by
 cases c with
 | true=>rw[aE rfl];exact h1 rfl k h
 | false=>rw[aq ao];exact h2 rfl k h
theorem BV{c:Bool}{t u:TS}{D:Ends}{σ:St}{H:Hp}(G:St->Hp->Prop)(h1:c=true->∀nx:St->Hp->Prop,(∀ik U,G ik U->nx ik U)->t {D with nx:=nx} σ H)(h2:c=false->∀nx:St->Hp->Prop,(∀ik U,G ik U->nx ik U)->u {D with nx:=nx} σ H)(h:∀ik U,G ik U->D.nx ik U):
 if c=true then t D σ H else u D σ H:=by
 cases c with
 | true=>rw[aE rfl];exact h1 rfl D.nx h
 | false=>rw[aq ao];exact h2 rfl D.nx h
theorem AX{K:Fg}{a:Addr}{xs:List V}{g:TG}{tb:TS}{D:Ends}{σ:St}{H:Hp}(Pv:Nat->St->Hp->Prop)(h0:Pv 0 σ H)(hl:∀i σ H,i<=xs.length->Pv i σ H->f_ K H a xs)
 (hs:∀i x σ H T,xs[i]? =some x->Pv i σ H->H T=none->g (.ref T) σ (upd H T (.tup [.int (i:Nat),x])) λiA H2=>tb {D with nx:=Pv (i+1),ct:=Pv (i+1),bk:=D.nx} iA H2) (hd:∀σ H,Pv xs.length σ H->D.nx σ H):
 ∃
  W:Nat->Nat->St->Hp->Prop,(∃m,W 0 m σ H)/\∀i m σ H,W i m σ H->
  ((vq K a).stop i H/\D.nx σ H)\/((vq K a).go i H/\∃N:St->Hp->Prop,(∀ik U,N ik U->∃m',m'<m/\W (i+1) m' ik U)/\∀x U,(vq K a).l9 i H x U->g x σ U λiA H2=>tb {D with nx:=N,ct:=N,bk:=D.nx} iA H2):=by
 refine⟨λi m σ H=>m=xs.length-i/\i<=xs.length/\Pv i σ H,⟨xs.length,by simp,aU _,h0⟩,?_⟩
 rintro i m σ H ⟨rfl,hi,p⟩
 have q:=hl i σ H hi p
 by_cases iP:i<xs.length
 ·refine .inr ⟨⟨xs,xs[i],q,by simp[iP]⟩,Pv (i+1),λik U p'=>⟨xs.length-(i+1),by omega,rfl,iP,p'⟩,λx U y=>?_⟩
  obtain⟨T,v,rfl,hT,rfl,y⟩:=y
  exact hs i v σ _ T (y xs q) p hT
 ·have e:i=xs.length:=by omega
  subst e
  exact .inl ⟨⟨xs,q,ax _⟩,hd σ H p⟩
noncomputable def Kp(l:Addr)(H U:Hp):Prop:=∀b o,b≠l->H b=some o->U b=some o
theorem c_.kp{l:Addr}{H U:Hp}(s:c_ H U):Kp l H U:=λb o _ h=>s b o h
theorem Kp.trans{l:Addr}{H H1 H2:Hp}(a:Kp l H H1)(b:Kp l H1 H2):Kp l H H2:=λc o n h=>b c o n (a c o n h)
theorem Kp.upd{l:Addr}{H:Hp}{o:HO}:Kp l H (L2.upd H l o):=λb u n h=>by rw[ip n];exact h
theorem Kp.same{l:Addr}{H H1 H2:Hp}(s:c_ H H1)(h:H l=none)(k:Kp l H1 H2):c_ H H2:=λb o e=>k b o (jB e h) (s b o e)
theorem Vv{x:Str}{g:TG}{tt:TT}{te:TE}{vs:List Nat}{σ:St}{H1:Hp}{D:Addr}{Qd:Hp->Prop}(Pv:Nat->Hp->Prop)(h0:Pv 0 (upd H1 D (.lst [])))
 (hs:∀i c H,x.cps.toList[i]? =some c->Pv i H->g (.str ⟨#[c]⟩) (wipe σ vs) H λiA H2=>wipe iA vs=wipe σ vs/\tt iA H2 λb H3=>
  if b=true then te iA H3 λy H4=>∃acc,H4 D=some (.lst acc)/\acc.length<sizeLine/\Pv (i+1) (upd H4 D (.lst (acc++[y]))) else Pv (i+1) H3) (hd:∀H,Pv x.cps.toList.length H->Qd H):
 ∃
  W:Nat->Nat->Hp->Prop,(∃m,W 0 m (upd H1 D (.lst [])))/\∀i m H,W i m H->
  ((
   vx x).stop i H/\Qd H)\/((vx x).go i H/\∃Nx:Hp->Prop,(∀U,Nx U->∃m',m'<m/\W (i+1) m' U)/\∀y U,(vx x).l9 i H y U->g y (wipe σ vs) U λiA H2=>wipe iA vs=wipe σ vs/\tt iA H2 λb H3=>
   if b=true then te iA H3 λy H4=>∃acc,H4 D=some (.lst acc)/\acc.length<sizeLine/\Nx (upd H4 D (.lst (acc++[y]))) else Nx H3):=by
 have hn:x.cps.toList.length=x.cps.size:=dG
 refine⟨λi m H=>m=x.cps.size-i/\i<=x.cps.size/\Pv i H,⟨x.cps.size,by simp,aU _,h0⟩,?_⟩
 rintro i m H ⟨rfl,hi,p⟩
 by_cases iP:i<x.cps.size
 ·refine .inr ⟨iP,Pv (i+1),λU p'=>⟨x.cps.size-(i+1),by omega,rfl,iP,p'⟩,λy U z=>?_⟩
  obtain⟨rfl,c,hc,rfl⟩:=z
  exact hs i c _ (by simpa using hc) p
 ·have e:i=x.cps.size:=by omega
  subst e
  exact .inl ⟨ax _,hd H (by rw[hn];exact p)⟩
section
variable{X:Cx}
theorem V4:xW X "str.zfill" (λx xs H Q=>∃a i,x= .str a/\xs=[.int i]/\PadOk i=true/\Q (.str (Txt.zfill a i)) H):=by
 intro pins s σ H x xs v us Q I rx rs h
 obtain⟨a,i,rfl,rfl,hp,h⟩:=h
 obtain⟨t,rfl⟩:=rx
 cases rs with
 | cons r1 rs=>
  cases rs
  obtain⟨u,rfl⟩:=r1
  exact PySem.SC.zfill hp λt' k=>⟨.str _,H,I.tok k,⟨t',rfl⟩,h⟩
end
open Sem (wp)
section
variable{prog:Program}{w:World}{A:Around}{E:Value->Shared->Prop}{s:Shared}{d it vw:Addr}{od:Obj}{es:Array DictEntry}{en:DictEntry}{ep i:Nat}
theorem aci(d:Addr)(nm:(d == sysModules)=false):MeetsIn prog w (Builtin.«dict.items» ⟨[.ref d],[]⟩) (λ_ R s=>s.TypeIs (.ref d) "dict"/\R (.ok (.ret (.ref s.heap.objs.size))) {s with heap:=s.heap.push {cls:=.type "dict_items",data:=.fields #[.ref d]}}):=
 .of_wp λA R s ⟨ty,q⟩=>by
  unfold Builtin.«dict.items» Builtin.Dict.noArgs
  refine aa (aa (cY ty ?_))
  show wpAny _ _ (pure d) _ _ s;refine af ?_
  show wpAny _ _ (Builtin.Dict.showsAll d >>=_) _ _ _;unfold Builtin.Dict.showsAll
  rw[aq (by rw[nm];simp)];refine aa (af (aa (bG (af ⟨_,rfl,q⟩))))
theorem acj(d:Addr)(nm:(d == sysModules)=false):MeetsIn prog w (Builtin.«dict.values» ⟨[.ref d],[]⟩) (λ_ R s=>s.TypeIs (.ref d) "dict"/\R (.ok (.ret (.ref s.heap.objs.size))) {s with heap:=s.heap.push {cls:=.type "dict_values",data:=.fields #[.ref d]}}):=
 .of_wp λA R s ⟨ty,q⟩=>by
  refine aa ?_;unfold Builtin.Dict.noArgs
  refine aa (cY ty ?_)
  show wpAny _ _ (pure d) _ _ s;refine af ?_
  show wpAny _ _ (Builtin.Dict.showsAll d >>=_) _ _ _;unfold Builtin.Dict.showsAll
  rw[aq (by rw[nm];simp)];refine aa (af (aa (bG (af ⟨_,rfl,q⟩))))
theorem UN{Q:Value->Shared->Prop}(v:s.heap.IsItemsView vw d)(e1:s.heap.get? d=some od)(e2:od.data= .dict es ep)
 (q:Q (.ref s.heap.objs.size) {s with heap:=s.heap.push {cls:=.type "dict_itemiterator",data:=.fields #[.none,.bool false,.ref d,.int 0 0,.int es.size 0,.int ep 0,.none,.none]}}):
 wpAny (model prog w) A (pyIter (.ref vw)) Q E s:=by
 obtain⟨o,g1,g2,g3⟩:=id v
 refine fH v.typeIs F.slot_dict_items_iter (bo F.slot_dict_items_iter v.typeIs F.entry_dict_items_iter ?_ (F.args_dict_items_iter_1 _))
 unfold Builtin.«dict_items.__iter__» Builtin.Dict_items.dictOf Builtin.Dict_items.newIterator
 refine aa (af (aa (aa (bI g1 g3 (x:=.ref d) rfl (af ?_)))))
 refine aa (aa (bO e1 e2 (aa (cX e1 e2 ?_))))
 have own:Builtin.Dict_items.ownsTuple "dict_itemiterator"=true:=by decide
 rw[own]
 refine bG (af ⟨_,rfl,"dict_itemiterator",_,⟨_,aC _ rfl,rfl⟩,cM.lookup,by simpa [rawInt,Builtin.Dict_items.ownedTupleFields] using q⟩) ?_
 simp[sizeOk,Builtin.Dict_items.ownedTupleFields,gE]
theorem UO{Q:Value->Shared->Prop}(v:s.heap.IsValuesView vw d)(e1:s.heap.get? d=some od)(e2:od.data= .dict es ep)
 (q:Q (.ref s.heap.objs.size) {s with heap:=s.heap.push {cls:=.type "dict_valueiterator",data:=.fields #[.ref d,.int 0 0,.int es.size 0,.int ep 0]}}):
 wpAny (model prog w) A (pyIter (.ref vw)) Q E s:=by
 obtain⟨o,g1,g2,g3⟩:=id v
 refine fH v.typeIs F.slot_dict_values_iter (bo F.slot_dict_values_iter v.typeIs F.entry_dict_values_iter ?_ (F.args_dict_values_iter_1 _))
 unfold Builtin.«dict_values.__iter__» Builtin.Dict_items.dictOf Builtin.Dict_items.newIterator
 refine aa (af (aa (aa (bI g1 g3 (x:=.ref d) rfl (af ?_)))))
 refine aa (aa (bO e1 e2 (aa (cX e1 e2 ?_))))
 have own:Builtin.Dict_items.ownsTuple "dict_valueiterator"=false:=by decide
 simp only[own,aK,bq]
 exact bG (af ⟨_,rfl,"dict_valueiterator",_,⟨_,aC _ rfl,rfl⟩,cG.lookup,by simpa [rawInt] using q⟩)
theorem WH{Q:Option Value->Shared->Prop}(j:s.heap.IsValIter it d i es.size ep)(e1:s.heap.get? d=some od)(e2:od.data= .dict es ep)(e3:es[i]? =some en)
 (q:∀h',h'.IsValIter it d (i+1) es.size ep->Heap.SameBut it s.heap h'->Q (some en.val) {s with heap:=h'}):wpAny (model prog w) A (pyNext (.ref it)) Q E s:=by
 obtain⟨o,g1,g2,g3⟩:=id j
 unfold pyNext
 refine aa (dh (bc (name:=Str.ofString "__next__") j.typeIs cG (bo cG j.typeIs F.entry_dict_valueiterator_next ?_ (F.args_dict_valueiterator_next_1 _))))
 refine aa (af (aa (aa ?_)))
 refine aa (dk j.typeIs (af (aa (eY g1 g3 ?_))))
 have own:Builtin.Dict_items.ownsTuple "dict_valueiterator"=false:=by decide
 simp only[own,aK,bq]
 show wpAny _ _ (if (Value.ref d == Value.none)=true then _ else _) _ _ _
 rw[aq (by exact ao)]
 refine aa (af (aa (bO e1 e2 ?_)))
 rw[aq (by simp)]
 refine aa (af (aa (cX e1 e2 ?_)))
 rw[aq (by simp)]
 refine af ?_
 simp only[show ¬((i:Int)<0) from by omega,bq,b9,e3]
 refine aa (aa (dk j.typeIs (af (aa (fS j.typeIs ?_)))))
 show wpAny _ _ (setField (.ref it) 1 (rawInt ((i:Int)+1)) >>=_) _ _ _
 refine aa (d9 g1 g3 (by simp) ?_)
 have j':(s.heap.update it (Obj.mapFields (·.setIfInBounds 1 (rawInt ((i:Int)+1))))).IsValIter it d (i+1) es.size ep:=
  ⟨_,dR _ g1 (fR (dN g3 _)),(Obj.cls_mapFields ..).trans g2,by rw[dN g3];simp[rawInt]⟩
 have ty:Shared.TypeIs {s with heap:=s.heap.update it (Obj.mapFields (·.setIfInBounds 1 (rawInt ((i:Int)+1))))} (.ref it) "dict_valueiterator":=j'.typeIs
 refine aa (cQ (aa (fS ty (aa (fS ty ?_)))))
 show wpAny _ _ (pure en.val) _ _ _
 exact af (af ⟨_,rfl,af (q _ j' (bJ ..))⟩)
theorem WI{Q:Option Value->Shared->Prop}(hh:A.handled=none)(j:s.heap.IsValIter it d i es.size ep)(e1:s.heap.get? d=some od)(e2:od.data= .dict es ep)(e3:es.size<=i)
 (q:∀h',Heap.ExtBut it s.heap h'->Q none {s with heap:=h'}):wpAny (model prog w) A (pyNext (.ref it)) Q E s:=by
 obtain⟨o,g1,g2,g3⟩:=id j
 unfold pyNext
 refine aa (dh (bc (name:=Str.ofString "__next__") j.typeIs cG (bo cG j.typeIs F.entry_dict_valueiterator_next ?_ (F.args_dict_valueiterator_next_1 _))))
 refine aa (af (aa (aa ?_)))
 refine aa (dk j.typeIs (af (aa (eY g1 g3 ?_))))
 have own:Builtin.Dict_items.ownsTuple "dict_valueiterator"=false:=by decide
 simp only[own,aK,bq]
 show wpAny _ _ (if (Value.ref d == Value.none)=true then _ else _) _ _ _
 rw[aq (by exact ao)]
 refine aa (af (aa (bO e1 e2 ?_)))
 rw[aq (by simp)]
 refine aa (af (aa (cX e1 e2 ?_)))
 rw[aq (by simp)]
 refine af ?_
 simp only[show ¬((i:Int)<0) from by omega,bq,b9,dI e3]
 refine aa (aa (dk j.typeIs (af ?_)))
 show wpAny _ _ (setField (.ref it) 0 .none >>=_) _ _ _
 refine aa (d9 g1 g3 (by simp) ?_)
 show wpAny _ _ (newExc (.type "StopIteration") [] >>=_) _ _ _
 refine aa ?_;simp only[newExc,newTuple]
 refine aa (bG (aa (m:=firstArgMember _ _) (wpAny_of_eq (a:=Value.none) (by first | rfl | (simp only[firstArgMember];rfl)) (bG ?_ (by size_fits)))) (by size_fits))
 simp only[raiseNew];refine aa (gL ?_)
 rw[show A.in1.handled=none from hh];refine aa (af (wpAny_throw ?_))
 refine aa (dc (T:="StopIteration") (b:=true) ⟨_,aC _ rfl,rfl⟩ fI (af (q _ (((bJ ..).extBut.push _).push _))))
theorem WC{ok ov:Value}{Q:Option Value->Shared->Prop}(j:IsItemIter s.heap it d i es.size ep ok ov)(e1:s.heap.get? d=some od)(e2:od.data= .dict es ep)(e3:es[i]? =some en)
 (q:∀h',IsItemIterOut h' it d (i+1) es.size ep en.key en.val s.heap.objs.size->h'.get? s.heap.objs.size=some {cls:=.type "tuple",data:=.seq #[en.key,en.val]}->(∀b o,b≠it->s.heap.get? b=some o->h'.get? b=some o)->Q (some (.ref s.heap.objs.size)) {s with heap:=h'}):
 wpAny (model prog w) A (pyNext (.ref it)) Q E s:=by
 obtain⟨hp,g,dr,tk,os⟩:=s
 have ty:Shared.TypeIs ⟨hp,g,dr,tk,os⟩ (.ref it) "dict_itemiterator":=⟨_,j,rfl⟩
 unfold pyNext
 refine aa (dh (bc (name:=Str.ofString "__next__") ty cM (bo cM ty F.entry_dict_itemiterator_next ?_ (F.args_dict_itemiterator_next_1 _))))
 refine aa (af (aa (aa ?_)))
 refine aa (df ty (af (aa (eY j rfl ?_))))
 have own:Builtin.Dict_items.ownsTuple "dict_itemiterator"=true:=by decide
 simp only[own,dQ]
 show wpAny _ _ (if (Value.ref d == Value.none)=true then _ else _) _ _ _
 rw[aq (by exact ao)]
 refine aa (af (aa (bO e1 e2 ?_)))
 rw[aq (by simp)]
 refine aa (af (aa (cX e1 e2 ?_)))
 rw[aq (by simp)]
 refine af ?_
 simp only[show ¬((i:Int)<0) from by omega,bq,b9,e3]
 refine aa (aa (df ty (af (aa (fJ ty ?_)))))
 show wpAny _ _ (setField (.ref it) 3 (rawInt ((i:Int)+1)) >>=_) _ _ ⟨hp,g,dr,tk,os⟩
 refine aa (bU j (by simp) λh1 a1 b1=>?_)
 replace b1:Heap.SameBut it hp h1:=b1
 have DM:IsItemIter h1 it d (i+1) es.size ep ok ov:=by
  have z:((i+1:Nat):Int)=(i:Int)+1:=by omega
  unfold IsItemIter;rw[z];simpa [rawInt] using a1
 have MM:Shared.TypeIs ⟨h1,g,dr,tk,os⟩ (.ref it) "dict_itemiterator":=⟨_,DM,rfl⟩
 refine aa (cQ (aa (fJ MM (aa (fJ MM ?_)))))
 show wpAny _ _ (Builtin.Dict_items.pairFromOwner (.ref it) 6 en.key en.val) _ _ ⟨h1,g,dr,tk,os⟩
 unfold Builtin.Dict_items.pairFromOwner
 refine aa (wpAny_newTuple ?_)
 have a2:IsItemIter (h1.push {cls:=.type "tuple",data:=.seq #[en.key,en.val]}) it d (i+1) es.size ep ok ov:=ag _ DM
 generalize eh:h1.push {cls:=.type "tuple",data:=.seq #[en.key,en.val]}=h2 at a2
 have z1:h1.objs.size=hp.objs.size:=b1.1
 have lt:it<hp.objs.size:=aF j
 have t2:h2.get? hp.objs.size=some {cls:=.type "tuple",data:=.seq #[en.key,en.val]}:=by rw[<-eh,<-z1];exact aC _ rfl
 have k2:∀b o,b≠it->hp.get? b=some o->h2.get? b=some o:=λb o nb e=>by rw[<-eh];exact ag _ (b1.extBut b o nb e)
 show wpAny _ _ (Builtin.Dict_items.ownedTupleIsFree (.ref it) >>=_) _ _ ⟨h2,g,dr,tk,os⟩
 rw[z1]
 unfold Builtin.Dict_items.ownedTupleIsFree
 refine aa (aa (bI a2 rfl (x:=.none) rfl (af ?_)))
 simp only[dQ]
 refine aa (bI a2 rfl (x:=ok) rfl (aa (bI a2 rfl (x:=ov) rfl ?_)))
 refine aa (bU a2 (by simp) λh3 a3 b3=>?_)
 have Nj:IsItemIter h3 it d (i+1) es.size ep en.key ov:=a3
 refine aa (bU Nj (by simp) λh4 a4 b4=>?_)
 have Nk:IsItemIter h4 it d (i+1) es.size ep en.key en.val:=a4
 refine aa (bU Nk (by simp) λh5 a5 b5=>?_)
 have Nl:IsItemIterOut h5 it d (i+1) es.size ep en.key en.val hp.objs.size:=a5
 refine aa (bU Nl (by simp) λh6 a6 b6=>?_)
 have Nm:IsItemIterOut h6 it d (i+1) es.size ep en.key en.val hp.objs.size:=a6
 have kk:∀b o,b≠it->h2.get? b=some o->h6.get? b=some o:=λb o nb e=>(show Heap.SameBut it h5 h6 from b6).extBut b o nb ((show Heap.SameBut it h4 h5 from b5).extBut b o nb ((show Heap.SameBut it h3 h4 from b4).extBut b o nb ((show Heap.SameBut it h2 h3 from b3).extBut b o nb e)))
 exact aa (gH (af (af ⟨_,rfl,af (q h6 Nm (kk _ _ (cp lt) t2) λb o nb e=>kk b o nb (k2 b o nb e))⟩)))
theorem WD{ok ov:Value}{Q:Option Value->Shared->Prop}(hh:A.handled=none)(j:IsItemIter s.heap it d i es.size ep ok ov)(e1:s.heap.get? d=some od)(e2:od.data= .dict es ep)(e3:es.size<=i)
 (q:∀h',Heap.ExtBut it s.heap h'->Q none {s with heap:=h'}):wpAny (model prog w) A (pyNext (.ref it)) Q E s:=by
 have ty:s.TypeIs (.ref it) "dict_itemiterator":=⟨_,j,rfl⟩
 unfold pyNext
 refine aa (dh (bc (name:=Str.ofString "__next__") ty cM (bo cM ty F.entry_dict_itemiterator_next ?_ (F.args_dict_itemiterator_next_1 _))))
 refine aa (af (aa (aa ?_)))
 refine aa (df ty (af (aa (eY j rfl ?_))))
 have own:Builtin.Dict_items.ownsTuple "dict_itemiterator"=true:=by decide
 simp only[own,dQ]
 show wpAny _ _ (if (Value.ref d == Value.none)=true then _ else _) _ _ _
 rw[aq (by exact ao)]
 refine aa (af (aa (bO e1 e2 ?_)))
 rw[aq (by simp)]
 refine aa (af (aa (cX e1 e2 ?_)))
 rw[aq (by simp)]
 refine af ?_
 simp only[show ¬((i:Int)<0) from by omega,bq,b9,dI e3]
 refine aa (aa (df ty (af ?_)))
 show wpAny _ _ (setField (.ref it) 2 .none >>=_) _ _ _
 refine aa (d9 j rfl (by simp) ?_)
 show wpAny _ _ (newExc (.type "StopIteration") [] >>=_) _ _ _
 refine aa ?_;simp only[newExc,newTuple]
 refine aa (bG (aa (m:=firstArgMember _ _) (wpAny_of_eq (a:=Value.none) (by first | rfl | (simp only[firstArgMember];rfl)) (bG ?_ (by size_fits)))) (by size_fits))
 simp only[raiseNew];refine aa (gL ?_)
 rw[show A.in1.handled=none from hh];refine aa (af (wpAny_throw ?_))
 refine aa (dc (T:="StopIteration") (b:=true) ⟨_,aC _ rfl,rfl⟩ fI (af (q _ (((bJ ..).extBut.push _).push _))))
end
theorem Inv.ud{X:Cx}{pins:List (Addr×Obj)}{σ:St}{H:Hp}{s:Shared}{d:Addr}{o:Obj}{kvs:List (List Key×V)}(I:Inv X pins σ H s)(h:H d=some (.iF o (.dT kvs))):
 (d == sysModules)=false/\s.heap.get? d=some o/\o.ExactDict/\∃(es:Array DictEntry) (ep:Nat),o.data= .dict es ep/\es.size=kvs.length/\
  ∀(i:Nat) (k:List Key) (v:V),kvs[i]? =some (k,v)->∃(en:DictEntry) (q:Addr),es[i]? =some en/\en.key= .ref q/\H q=some (.tup (k.map kV))/\RelV v en.val:=by
 obtain⟨hd,z,hs,xs,pr,o',es,ep,ho,hx,i6,he,_⟩:=I.h_ d _ h
 rw[hd]at ho
 cases ho
 refine⟨hs,hd,hx,es,ep,i6,?_,λi k v e=>?_⟩
 ·have l1:es.size=xs.length:=eF he
  have l2:kvs.length=xs.length:=cF pr
  omega
 ·obtain⟨b,hb,e1,e2,e3⟩:=CL pr e
  have q:=entry_at he i
  rw[hb]at q
  exact⟨_,b.2.1,q,rfl,e2,e3⟩
noncomputable def vo(d:Addr)(o:Obj)(kvs:List (List Key×V)):It:=
 ⟨λi H=>H d=some (.iF o (.dT kvs))/\i<kvs.length,λi H x U=>U=H/\∃k,kvs[i]? =some (k,x),λi H=>H d=some (.iF o (.dT kvs))/\kvs.length<=i⟩
noncomputable def vt(d:Addr)(o:Obj)(kvs:List (List Key×V)):It:=
 ⟨λi H=>H d=some (.iF o (.dT kvs))/\i<kvs.length,λi H x U=>∃T k v q,kvs[i]? =some (k,v)/\x= .ref T/\H T=none/\H q=some (.tup (k.map kV))/\U=upd H T (.tup [.ref q,v]),λi H=>H d=some (.iF o (.dT kvs))/\kvs.length<=i⟩
section
variable{P:Program}{w:World}{K:Fg}{tg:Expr}{d:Addr}{o:Obj}{es:Array DictEntry}{ep:Nat}
theorem ab3{kvs:List (List Key×V)}(it:Addr)(lM:o.data= .dict es ep):Turn P w K tg (vo d o kvs) [it] it (λi h=>h.IsValIter it d i kvs.length ep) where
 mem:=by simp
 obj:=λi h st b hb=>by
  have e:b=it:=by simpa using hb
  subst e
  obtain⟨oi,e,c,dd⟩:=st
  exact⟨oi,e,λv z=>by rw[dd]at z;cases z⟩
 keep:=λi h h' st k=>st.at λoi e=>k it (by simp) oi e
 item:=by
  intro X hP hw hK hc i pins s σ H E I hf st hg
  subst hP hw hK
  obtain⟨hd,hi⟩:=hg
  obtain⟨f0,f1,f2,f3,f4,f5⟩:=hf it (by simp)
  obtain⟨hs,jU,hx,lT,ll,i6,hsz,ent⟩:=I.ud hd
  obtain⟨rfl,rfl⟩:=qU lM i6
  obtain⟨⟨k,v⟩,jr⟩:∃p,kvs[i]? =some p:=⟨kvs[i],ay hi⟩
  obtain⟨en,q,mQ,lW,hq,rv⟩:=ent i k v jr
  rw[<-hsz]at st
  refine WH st jU i6 mQ λh' kG sb=>?_
  have I1:Inv X pins σ H {s with heap:=h'}:=I.turned (t':=s.toks) (λb ob hb e=>(sb.2 b hb).trans e) f0 f1 f3 f4 f5
  obtain⟨oi,e,c,dd⟩:=id kG
  exact⟨en.val,rfl,sF (s:={s with heap:=h'}) e c dd (by decide) ⟨v,H,I1,rv,⟨rfl,k,jr⟩,hsz▸kG,λb hb=>(hf b hb).1⟩⟩
 done:=by
  intro X hP hw hK hc i pins s σ H E I hf st hg
  subst hP hw hK
  obtain⟨hd,hi⟩:=hg
  obtain⟨f0,f1,f2,f3,f4,f5⟩:=hf it (by simp)
  obtain⟨hs,jU,hx,lT,ll,i6,hsz,ent⟩:=I.ud hd
  obtain⟨rfl,rfl⟩:=qU lM i6
  rw[<-hsz]at st
  exact WI (I.ok.hd hc) st jU i6 (by omega) λh' eb=>⟨rfl,I.turned (t':=s.toks) (λb ob hb e=>eb b ob hb e) f0 f1 f3 f4 f5⟩
 self:=λA i s Q E st h=>wpAny_pyIter_valiter st h
theorem abX{kvs:List (List Key×V)}{elts:List Expr}{kk:Nat}{lF:Pos}(it:Addr)(lM:o.data= .dict es ep):
 Turn P w K (.Tuple elts kk lF) (vt d o kvs) [it] it (λi h=>∃ok ov,IsItemIter h it d i kvs.length ep ok ov) where
 mem:=by simp
 obj:=λi h st b hb=>by
  have e:b=it:=by simpa using hb
  subst e
  obtain⟨ok,ov,e⟩:=st
  exact⟨_,e,λv z=>nomatch z⟩
 keep:=λi h h' st k=>let ⟨ok,ov,e⟩:=st;⟨ok,ov,k it (by simp) _ e⟩
 item:=by
  intro X hP hw hK hc i pins s σ H E I hf st hg
  subst hP hw hK
  obtain⟨hd,hi⟩:=hg
  obtain⟨hs,jU,hx,lT,ll,i6,hsz,ent⟩:=I.ud hd
  obtain⟨rfl,rfl⟩:=qU lM i6
  obtain⟨⟨k,v⟩,jr⟩:∃p,kvs[i]? =some p:=⟨kvs[i],ay hi⟩
  obtain⟨en,q,mQ,lW,hq,rv⟩:=ent i k v jr
  obtain⟨ok,ov,he⟩:=st
  rw[<-hsz]at he
  have iP:it<s.heap.objs.size:=aF he
  refine WC he jU i6 mQ λh' ho hT hk=>?_
  refine⟨_,rfl,wpAny_letOwnedTupleGo_items (s:={s with heap:=h'}) ho λlq Bg sb=>?_⟩
  have qm:lq.get? s.heap.objs.size=some {cls:=.type "tuple",data:=.seq #[en.key,en.val]}:=(sb.2 _ (cp iP)).trans hT
  have new:jl X.prog X.w (upd H s.heap.objs.size (.tup [.ref q,v])) lq s.heap.objs.size (.tup [.ref q,v]):=
   ⟨by show 2<=sizeLine;decide,[en.key,en.val],.cons lW (.cons rv .nil),⟨_,qm,rfl,_,rfl⟩⟩
  have I1:Inv X pins σ (upd H s.heap.objs.size (.tup [.ref q,v])) {s with heap:=lq}:=
   I.xK (t':=s.toks) (ch:=[it]) (λb ob hb e=>(sb.2 b (by simpa using hb)).trans (hk b ob (by simpa using hb) e)) hf (ax _) new
  refine⟨.ref s.heap.objs.size,_,I1,rfl,⟨_,k,v,q,jr,rfl,I.h_.fresh (ax _),hq,rfl⟩,⟨en.key,en.val,?_⟩,λb hb=>?_⟩
  ·rw[<-hsz];exact Bg
  ·have e:b=it:=by simpa using hb
   rw[e,ip (a9 iP)]
   exact(hf it (by simp)).1
 done:=by
  intro X hP hw hK hc i pins s σ H E I hf st hg
  subst hP hw hK
  obtain⟨hd,hi⟩:=hg
  obtain⟨f0,f1,f2,f3,f4,f5⟩:=hf it (by simp)
  obtain⟨hs,jU,hx,lT,ll,i6,hsz,ent⟩:=I.ud hd
  obtain⟨rfl,rfl⟩:=qU lM i6
  obtain⟨ok,ov,he⟩:=st
  rw[<-hsz]at he
  exact WD (I.ok.hd hc) he jU i6 (by omega) λh' eb=>⟨rfl,I.turned (t':=s.toks) (λb ob hb e=>eb b ob hb e) f0 f1 f3 f4 f5⟩
 self:=λA i s Q E st h=>let ⟨_,_,e⟩:=st;PySem.W.kcp_self e h
end
noncomputable def UH(td:TE):TI:=λσ H R=>td σ H λx H1=>∃d o kvs,x= .ref d/\H1 d=some (.iF o (.dT kvs))/\R (vo d o kvs) H1
noncomputable def UC(td:TE):TI:=λσ H R=>td σ H λx H1=>∃d o kvs,x= .ref d/\H1 d=some (.iF o (.dT kvs))/\R (vt d o kvs) H1
section
variable{X:Cx}{tg e:Expr}{td:TE}{apos jm:Pos}
theorem Yo(he:PE X e td)(qt:attributeBase e "values" X.env (eval e X.env)=eval e X.env:=by rfl)(sL:(apos.endLine == jm.line)=true:=by rfl):PI X tg (.Call (.Attribute e "values" apos) [] [] jm) (UH td):=by
 intro pins s σ H R I h
 refine eP (T:="dict") (id:="dict.values") qt rfl sL F.plainAttrs_dict F.slot_dict_values F.type_dict_values (ir (he pins s σ H _ I h) λu s1 ⟨x,H1,I1,rx,d,o,kvs,ex,hd,q⟩=>?_)
 subst ex
 obtain rfl:u=Value.ref d:=rx
 obtain⟨hs,jU,hx,es,ep,i6,hsz,ent⟩:=I1.ud hd
 have ty:s1.TypeIs (.ref d) "dict":=⟨o,jU,hx.1⟩
 refine⟨ty,λb z=>by cases z;exact⟨o,jU,hx.2.1⟩,?_⟩
 have I2:Inv X pins σ H1 {s1 with heap:=s1.heap.push {cls:=.type "dict_values",data:=.fields #[.ref d]}}:=I1.kept (t':=s1.toks) λb ob q=>ag _ q
 have fin:wpAny (model X.prog X.w) X.A (pyIter (.ref s1.heap.objs.size)) (vD X pins σ tg R) X.xe {s1 with heap:=s1.heap.push {cls:=.type "dict_values",data:=.fields #[.ref d]}}:=by
  refine UO (d:=d) ⟨_,aC _ rfl,rfl,rfl⟩ (ag _ jU) i6 (uW (tk:=s1.toks) I2 _ (ab3 _ i6) ⟨_,aC _ rfl,rfl,?_⟩ q)
  rw[<-hsz]<;>rfl
 show wpAny _ _ (callWith jm (.builtin "dict.values") [.ref d] [] []) _ X.xe s1
 exact method_meetsIn F.slot_dict_values F.entry_dict_values rfl (PySem.evalArgs_none ⟨rfl,ty,F.args_dict_values_1 _,_,acj d hs,ty,fin⟩)
theorem HR{elts:List Expr}{kk:Nat}{lF:Pos}(he:PE X e td)(qt:attributeBase e "items" X.env (eval e X.env)=eval e X.env:=by rfl)(sL:(apos.endLine == jm.line)=true:=by rfl):
 PI X (.Tuple elts kk lF) (.Call (.Attribute e "items" apos) [] [] jm) (UC td):=by
 intro pins s σ H R I h
 refine eP (T:="dict") (id:="dict.items") qt rfl sL F.plainAttrs_dict F.slot_dict_items F.type_dict_items (ir (he pins s σ H _ I h) λu s1 ⟨x,H1,I1,rx,d,o,kvs,ex,hd,q⟩=>?_)
 subst ex
 obtain rfl:u=Value.ref d:=rx
 obtain⟨hs,jU,hx,es,ep,i6,hsz,ent⟩:=I1.ud hd
 have ty:s1.TypeIs (.ref d) "dict":=⟨o,jU,hx.1⟩
 refine⟨ty,λb z=>by cases z;exact⟨o,jU,hx.2.1⟩,?_⟩
 have I2:Inv X pins σ H1 {s1 with heap:=s1.heap.push {cls:=.type "dict_items",data:=.fields #[.ref d]}}:=I1.kept (t':=s1.toks) λb ob q=>ag _ q
 have fin:wpAny (model X.prog X.w) X.A (pyIter (.ref s1.heap.objs.size)) (vD X pins σ (.Tuple elts kk lF) R) X.xe {s1 with heap:=s1.heap.push {cls:=.type "dict_items",data:=.fields #[.ref d]}}:=by
  refine UN (d:=d) ⟨_,aC _ rfl,rfl,rfl⟩ (ag _ jU) i6 (uW (tk:=s1.toks) I2 _ (abX _ i6) ⟨.none,.none,?_⟩ q)
  rw[<-hsz]
  exact aC _ rfl
 show wpAny _ _ (callWith jm (.builtin "dict.items") [.ref d] [] []) _ X.xe s1
 exact method_meetsIn F.slot_dict_items F.entry_dict_items rfl (PySem.evalArgs_none ⟨rfl,ty,F.args_dict_items_1 _,_,aci d hs,ty,fin⟩)
end
section
variable{prog:Program}{w:World}{A:Around}{E:Value->Shared->Prop}{s:Shared}{d:Addr}{od:Obj}{es:Array DictEntry}{ep:Nat}
theorem VO(d:Addr)(nm:(d == sysModules)=false):MeetsIn prog w (Builtin.«dict.__len__» ⟨[.ref d],[]⟩) (λ_ R s=>∃od es ep,s.heap.get? d=some od/\od.data= .dict es ep/\R (.ok (.ret (.int es.size s.toks))) {s with toks:=s.toks+1}):=
 .of_wp λA R s ⟨od,es,ep,e1,e2,q⟩=>by
  show wpAny _ _ (dictSize d >>=_) _ _ _;unfold dictSize
  refine aa (aa (bO e1 e2 (af ?_)))
  show wpAny _ _ (Builtin.Dict.pendingCount d >>=_) _ _ _
  exact aa (wpAny_pendingCount_other nm (wpAny_ret_mkInt (by rw[Nat.add_zero];exact q)))
theorem Vz{Q:Value->Shared->Prop}(ty:s.TypeIs (.ref d) "dict")(nm:(d == sysModules)=false)(e1:s.heap.get? d=some od)(e2:od.data= .dict es ep)(fit:(es.size:Int)<2^63)
 (q:Q (.int es.size (s.toks+1)) {s with toks:=s.toks+1+1}):wpAny (model prog w) A (call (.builtin "len") [.ref d]) Q E s:=by
 refine Calls.call_function_entry kind_len plain_len entry_len (args_len1 _) ?_
 unfold Builtin.«len»
 refine aa (m:=oneArg "len" _) (af (aa (m:=callSpecial? (.ref d) (Str.ofString "__len__")) (bc (name:=Str.ofString "__len__") ty F.slot_dict_len (gr F.slot_dict_len ty F.entry_dict_len (F.args_dict_len_1 _) (VO d nm) ⟨od,es,ep,e1,e2,?_⟩))))
 show wpAny _ _ _ _ _ {s with toks:=s.toks+1}
 refine aa (cQ (af (aa (gH ?_))))
 show wpAny _ _ (if ((es.size:Nat):Int)<0 then _ else _) _ _ _;rw[aq (by omega)]
 show wpAny _ _ (if ((es.size:Nat):Int) >= 2^63 then _ else _) _ _ _;rw[aq (by omega)]
 exact aa (wpAny_mkInt (af ⟨_,rfl,q⟩))
end
theorem DX{X:Cx}:ma X (.builtin "len") (λxs H Q=>∃a kvs,xs=[V.ref a]/\Rd H a (.dT kvs)/\Q (.int kvs.length) H):=by
 intro pins s σ H xs us Q I r h
 obtain⟨a,kvs,rfl,ha,q⟩:=h
 obtain⟨u,rfl,ru⟩:=vals1 r
 cases ru
 obtain⟨z,hd,ys,rel,o,es,ep,h1,h2,h3,h4,h5⟩:=qV I.h_ ha
 have hl:kvs.length=ys.length:=cF rel
 have hz:=eF h4
 have hn:=uG
 refine Vz ⟨o,h1,h2.1⟩ hd h1 h3 (by omega) ⟨.int kvs.length,H,I.tok _,⟨s.toks+1,by rw[hz,hl]⟩,q⟩
section
variable{prog:Program}{w:World}{K:Type}[DecidableEq K](knd:HeapKind prog w K)
theorem erase_filter:∀{xs:List (K×Addr×Value)} {j:Nat} {k:K} {p:Addr×Value},(xs.map (·.1)).Nodup->xs[j]? =some (k,p)->xs.eraseIdx j=xs.filter λx=>decide (x.1≠k)
 | [],j,k,p,_,h=>by simp at h
 | x::r,0,k,p,hn,h=>by
  have e:x=(k,p):=ae h
  subst e
  rw[aO,cS]at hn
  rw[List.eraseIdx_cons_zero,aY,aq (by simp)]
  refine(List.filter_eq_self.mpr λy hy=>?_).symm
  exact ah λz=>hn.1 (aQ.mpr ⟨y,hy,z⟩)
 | x::r,j+1,k,p,hn,h=>by
  rw[aO,cS]at hn
  have h':r[j]? =some (k,p):=by simpa using h
  have ne:x.1≠k:=λz=>hn.1 (aQ.mpr ⟨(k,p),aG h',z.symm⟩)
  rw[List.eraseIdx_cons_succ,erase_filter hn.2 h',aY,aE (ah ne)]
theorem Gs{α β:Type}(f:α->β):∀(l:List α) (j:Nat),(l.map f).eraseIdx j=(l.eraseIdx j).map f
 | [],_=>rfl
 | x::r,0=>rfl
 | x::r,j+1=>by
  show f x::(r.map f).eraseIdx j=f x::(r.eraseIdx j).map f
  rw[Gs f r j]
theorem VP(d a:Addr):MeetsIn prog w (Builtin.«dict.pop» ⟨[.ref d,.ref a],[]⟩) (λA R s=>knd.room A.in1/\∃(k:K) (xs:List (K×Addr×Value)) (j:Nat) (p:Addr×Value),knd.is s.heap k a/\s.heap.DictOfH knd d xs/\xs.length<=sizeLine/\xs[j]? =some (k,p)/\
 ∀h' t,h'.DictOfH knd d (xs.filter λx=>decide (x.1≠k))->Heap.SameBut d s.heap h'->R (.ok (.ret p.2)) {s with heap:=h',toks:=t}):=
 .of_wp λA R s ⟨hu,k,xs,j,p,ky,dm,sz,hj,q⟩=>by
  obtain⟨o,es,ep,g1,g2,g3,g4,g5,g6⟩:=id dm
  have E7:=eF g4
  have yO:j<xs.length:=(bw.mp hj).1
  have ty:s.TypeIs (.ref d) "dict":=dm.typeIs
  unfold Builtin.«dict.pop» Builtin.Dict.keyAndDefault
  refine aa (aa (cY ty ?_))
  show wpAny _ _ (pure (d,Value.ref a,none)) _ _ s;refine af ?_
  have kp:(keyPart (Value.ref a)).isSome=false:=rfl
  simp only[kp,aK,bq]
  refine aa (bO g1 g3 (aa (af ?_)))
  have ne:es.isEmpty=false:=by
   rw[Array.isEmpty_eq_false_iff];intro z;rw[z]at E7;simp at E7;omega
  simp only[ne,aK,bq]
  refine aa ?_
  unfold Builtin.Dict.takeOut
  refine cQ (aa (knd.pyHash hu ky (aa (wpAny_dictFind_heap (s:={s with toks:=s.toks+knd.draws k}) hu ky g1 g3 g4 g5 g6 (λno=>absurd hj (no j p)) λj' p' Fc=>?_))))
  have ej:j'=j:=idxH_unique g6 Fc hj
  subst ej
  have ll:p'=p:=by rw[Fc]at hj;exact(Prod.mk.inj (ae hj)).2
  subst ll
  refine aa (bO (s:={s with toks:=s.toks+knd.draws k}) g1 g3 ?_)
  rw[entry_at g4 j',hj]
  have keep:∀x,x∈xs.filter (λx=>decide (x.1≠k))->knd.is (s.heap.update d (Obj.mapDictKeys λz=>z.eraseIdxIfInBounds j')) x.1 x.2.1:=λx hx=>knd.keeps (g5 x (cR.mp hx).1) g1 g3 (bJ ..)
  have fin:(s.heap.update d (Obj.mapDictKeys λz=>z.eraseIdxIfInBounds j')).DictOfH knd d (xs.filter λx=>decide (x.1≠k)):=by
   refine⟨_,_,ep+1,dR _ g1 (Obj.isFreed_of_dict (e8 g3 _)),g2.mapDictKeys _,e8 g3 _,?_,keep,?_⟩
   ·rw[<-erase_filter g6 hj,Array.toList_eraseIdxIfInBounds,g4,Gs]
   ·exact List.Nodup.sublist ((List.filter_sublist).map _) g6
  refine aa (wpAny_updateDictKeys (hz:=by omega) (s:={s with toks:=s.toks+knd.draws k}) g1 g3 (af ?_))
  simp only[Option.isNone_some,aK,bq]
  exact aa (gH (af ⟨p'.2,rfl,q _ _ fin (bJ ..)⟩))
end
theorem KT.drop{H:Hp}{kvs:List (List Key×V)}{xs:List (List Key×Addr×Value)}(r:KT H kvs xs)(k:List Key):KT H (nc kvs k) (xs.filter λx=>decide (x.1≠k)):=by
 induction r with
 | nil=>exact .nil
 | @cons p q ps qs h t ih=>
  obtain⟨h1,h2,h3⟩:=h
  by_cases e:p.1=k
  ·rw[Qt e,aY,aq (by simp[<-h1,e])]
   exact ih
  ·rw[Qs e,aY,aE (by simp[<-h1,e])]
   exact .cons ⟨h1,h2,h3⟩ ih
theorem KT.NC{H:Hp}{kvs:List (List Key×V)}{xs:List (List Key×Addr×Value)}(r:KT H kvs xs){k:List Key}{v:V}(h:jD kvs k=some v):∃(j:Nat) (p:Addr×Value),xs[j]? =some (k,p)/\RelV v p.2:=by
 induction r with
 | nil=>cases h
 | @cons p q ps qs hh t ih=>
  obtain⟨h1,_,h3⟩:=hh
  by_cases e:p.1=k
  ·rw[vf e]at h
   have e2:p.2=v:=ae h
   refine⟨0,q.2,?_,e2▸h3⟩
   show some q=some (k,q.2)
   rw[<-e,h1]
  ·rw[ve e]at h
   obtain⟨j,p',a,b⟩:=ih h
   exact⟨j+1,p',a,b⟩
noncomputable def abu(td ty:TE):TE:=λσ H Q=>td σ H λx H1=>∃a,x= .ref a/\Ae H1 a/\ty σ H1 λy H2=>∃kvs k v b,H2 a=some (.dT kvs)/\y= .ref b/\H2 b=some (.tup (k.map kV))/\jD kvs k=some v/\Q v (upd H2 a (.dT (nc kvs k)))
theorem Ye{X:Cx}{o e:Expr}{apos jm:Pos}{td ty:TE}(hu:X.A.units+1<cLine)(ho:PE X o td)(he:PE X e ty)(m:M1 X o "pop" apos e jm):PE X (.Call (.Attribute o "pop" apos) [e] [] jm) (abu td ty):=by
 intro pins s σ H Q I h
 refine eP m.base m.mO m.line ft PySem.F.slot_dict_pop PySem.F.type_dict_pop (ir (ho pins s σ H _ I h) λu s1 ⟨x,H1,I1,rx,a,ex,d,q1⟩=>?_)
 subst ex
 obtain rfl:u=Value.ref a:=rx
 obtain⟨t1,t2,_⟩:=F4 I1 d
 refine⟨t1,t2,?_⟩
 rw[m.trees]
 refine dH rfl (dX (cU (ir (he pins s1 σ H1 _ I1 q1) λiv s2 ⟨y,H2,I2,ry,kvs,k,v,b,ea,ey,eb,l,q2⟩=>dW ?_)))
 subst ey
 obtain rfl:iv=Value.ref b:=ry
 obtain⟨z,hd,xs,rel,dd⟩:=AK I2.h_ ea
 obtain⟨j,p,hj,rv⟩:=rel.NC l
 have hl:kvs.length=xs.length:=cF rel
 refine gr PySem.F.slot_dict_pop dd.typeIs PySem.F.entry_dict_pop (PySem.F.args_dict_pop_2 _ _) (VP (tupleKind (i4 X.prog X.w)) a b) ⟨da hu,k,xs,j,p,pH I2.h_ eb,dd,by omega,hj,λh' t oz hs=>?_⟩
 obtain⟨o',es,ep,g1,g2,g3,g4,g5,g6⟩:=oz
 have nb:b≠a:=iC eb ea (by intro z;cases z)
 refine⟨v,_,vX I2 (by rw[ea];exact True.intro) hs ⟨_,g1⟩ ?_,rv,q2⟩
 refine⟨aN (Qr kvs k) z,hd,xs.filter λx=>decide (x.1≠k),(rel.drop k).keeps λc ys e=>?_,o',es,ep,g1,g2,g3,g4,g6⟩
 rw[ip (iC e ea (by intro z;cases z))]
 exact e
theorem Gf{d:Addr}{o:Obj}{kvs:List (List Key×V)}{g:TG}{tt:TT}{te:TE}{vs:List Nat}{σ:St}{H1:Hp}{D:Addr}{Qd:Hp->Prop}(Pv:Nat->Hp->Prop)(h0:Pv 0 (upd H1 D (.lst [])))(hl:∀i H,i<=kvs.length->Pv i H->H d=some (.iF o (.dT kvs)))
 (hs:∀i k v H T q,kvs[i]? =some (k,v)->Pv i H->H T=none->H q=some (.tup (k.map kV))->g (.ref T) (wipe σ vs) (upd H T (.tup [.ref q,v])) λiA H2=>wipe iA vs=wipe σ vs/\tt iA H2 λb H3=>
  if b=true then te iA H3 λy H4=>∃acc,H4 D=some (.lst acc)/\acc.length<sizeLine/\Pv (i+1) (upd H4 D (.lst (acc++[y]))) else Pv (i+1) H3) (hd:∀H,Pv kvs.length H->Qd H):
 ∃
  W:Nat->Nat->Hp->Prop,(∃m,W 0 m (upd H1 D (.lst [])))/\∀i m H,W i m H->
  ((
   vt d o kvs).stop i H/\Qd H)\/((vt d o kvs).go i H/\∃Nx:Hp->Prop,(∀U,Nx U->∃m',m'<m/\W (i+1) m' U)/\∀x U,(vt d o kvs).l9 i H x U->g x (wipe σ vs) U λiA H2=>wipe iA vs=wipe σ vs/\tt iA H2 λb H3=>
   if b=true then te iA H3 λy H4=>∃acc,H4 D=some (.lst acc)/\acc.length<sizeLine/\Nx (upd H4 D (.lst (acc++[y]))) else Nx H3):=by
 refine⟨λi m H=>m=kvs.length-i/\i<=kvs.length/\Pv i H,⟨kvs.length,by simp,aU _,h0⟩,?_⟩
 rintro i m H ⟨rfl,hi,p⟩
 have q:=hl i H hi p
 by_cases iP:i<kvs.length
 ·refine .inr ⟨⟨q,iP⟩,Pv (i+1),λU p'=>⟨kvs.length-(i+1),by omega,rfl,iP,p'⟩,λx U y=>?_⟩
  obtain⟨T,k,v,r,e1,rfl,e2,e3,rfl⟩:=y
  exact hs i k v H T r e1 p e2 e3
 ·have e:i=kvs.length:=by omega
  subst e
  exact .inl ⟨⟨q,ax _⟩,hd H p⟩
theorem Vx{d:Addr}{o:Obj}{kvs:List (List Key×V)}{g:TG}{tt:TT}{te:TE}{vs:List Nat}{σ:St}{H1:Hp}{D:Addr}{Qd:Hp->Prop}(Pv:Nat->Hp->Prop)(h0:Pv 0 (upd H1 D (.lst [])))(hl:∀i H,i<=kvs.length->Pv i H->H d=some (.iF o (.dT kvs)))
 (hs:∀i k v H,kvs[i]? =some (k,v)->Pv i H->g v (wipe σ vs) H λiA H2=>wipe iA vs=wipe σ vs/\tt iA H2 λb H3=>
  if b=true then te iA H3 λy H4=>∃acc,H4 D=some (.lst acc)/\acc.length<sizeLine/\Pv (i+1) (upd H4 D (.lst (acc++[y]))) else Pv (i+1) H3) (hd:∀H,Pv kvs.length H->Qd H):
 ∃
  W:Nat->Nat->Hp->Prop,(∃m,W 0 m (upd H1 D (.lst [])))/\∀i m H,W i m H->
  ((
   vo d o kvs).stop i H/\Qd H)\/((vo d o kvs).go i H/\∃Nx:Hp->Prop,(∀U,Nx U->∃m',m'<m/\W (i+1) m' U)/\∀x U,(vo d o kvs).l9 i H x U->g x (wipe σ vs) U λiA H2=>wipe iA vs=wipe σ vs/\tt iA H2 λb H3=>
   if b=true then te iA H3 λy H4=>∃acc,H4 D=some (.lst acc)/\acc.length<sizeLine/\Nx (upd H4 D (.lst (acc++[y]))) else Nx H3):=by
 refine⟨λi m H=>m=kvs.length-i/\i<=kvs.length/\Pv i H,⟨kvs.length,by simp,aU _,h0⟩,?_⟩
 rintro i m H ⟨rfl,hi,p⟩
 have q:=hl i H hi p
 by_cases iP:i<kvs.length
 ·refine .inr ⟨⟨q,iP⟩,Pv (i+1),λU p'=>⟨kvs.length-(i+1),by omega,rfl,iP,p'⟩,λx U y=>?_⟩
  obtain⟨rfl,k,e1⟩:=y
  exact hs i k x _ e1 p
 ·have e:i=kvs.length:=by omega
  subst e
  exact .inl ⟨⟨q,ax _⟩,hd H p⟩
theorem c_.unlock{H U:Hp}{d:Addr}{u:HO}{od:Obj}(h:H d=some u)(s:c_ (L2.upd H d (.iF od u)) U):c_ H (L2.upd U d u):=λb o e=>by
 by_cases c:b=d
 ·subst c
  rw[h]at e
  cases e
  exact e_
 ·rw[ip c]
  exact s b o (by rw[ip c];exact e)
theorem c_.locked{H U:Hp}{d:Addr}{u:HO}{od:Obj}(s:c_ (L2.upd H d (.iF od u)) U):U d=some (.iF od u):=s d _ e_
noncomputable def abw(tk tv:TE):TE:=λσ H Q=>∀p,H p=none->Dv [(tk,tv)] σ (upd H p (.dT [])) λps H2=>∃y b k,ps=[(.ref b,y)]/\H2 b=some (.tup (k.map kV))/\H2 p=some (.dT [])/\Q (.ref p) (upd H2 p (.dT [(k,y)]))
theorem Yb{X:Cx}{pos:Pos}{k v:Expr}{tk tv:TE}(hu:X.A.units+1<cLine)(hk:PE X k tk)(hv:PE X v tv):PE X (.Dict [some k] [v] pos) (abw tk tv):=by
 intro pins s σ H Q I q
 have hn:=I.h_.fresh (ax s.heap.objs.size)
 have I1:=I.laid (a:=s.heap.objs.size) (o:=.dT []) (h':=s.heap.push {cls:=.type "dict",data:=.dict #[]}) (t':=s.toks) (λ_ _ q=>ag _ q) (ax _) (Eb s.heap I.yb)
 refine PySem.wpAny_Dict_any rfl rfl (by simp) (by simp) (ir (Yu hk hv Yv pins _ σ _ _ I1 (q _ hn)) λws s2 ⟨ps,H2,I2,rel,y,b,kk,ep,eb,e0,q2⟩=>?_)
 subst ep
 cases rel with
 | @cons _ w1 _ ws' r1 r2=>
  cases r2
  obtain⟨u1,u2⟩:=w1
  obtain⟨r1,rv⟩:=r1
  cases (show u1=Value.ref b from r1)
  obtain⟨z,hd,xs,rel,dd⟩:=AK I2.h_ e0
  cases rel
  unfold PySem.storeAll
  simp only[eE,d8]
  have room:(tupleKind (i4 X.prog X.w)).room X.A:=by first | exact Nat.lt_of_succ_lt hu | (have h0:=hu;show X.A.units<cLine;omega)
  refine aa (aa (wpAny_dictSet_heap (hsz:=aU _) room (pH I2.h_ eb) dd λh' oz hs=>af (af ?_)))
  obtain⟨o',es,ep,g1,g2,g3,g4,g5,g6⟩:=oz
  refine⟨.ref s.heap.objs.size,_,vX (ob:=.dT [(kk,y)]) I2 (by rw[e0];exact True.intro) hs ⟨_,g1⟩ ⟨by show 1<=sizeLine;decide,hd,_,.cons ⟨rfl,?_,rv⟩ .nil,o',es,ep,g1,g2,g3,g4,g6⟩,rfl,q2⟩
  show upd H2 s.heap.objs.size _ b=_
  rw[ip (iC eb e0 (by intro z;cases z))]
  exact eb
noncomputable abbrev p9(h:Heap)(z TI TO T:Addr)(f:Bool):Prop:=
 h.get? z=some {cls:=.type "zip",dict:=none,data:=.fields #[rawInt T,.bool f,.bool false,.ref TI,.ref TO],slots:=#[]}
section
variable{prog:Program}{w:World}{A:Around}{E:Value->Shared->Prop}{s:Shared}{z TI TO T i1 i2 l1 l2:Addr}{k1 k2:Nat}{xs ys:Array Value}{x y a b:Value}{f:Bool}{ot:Obj}
theorem M7{Q:Bool->Shared->Prop}(hz:p9 s.heap z TI TO T f)(hT:s.heap.get? T=some ot)(q:∀h',p9 h' z TI TO T true->Heap.ExtBut z s.heap h'->h'.objs.size=s.heap.objs.size->Q false {s with heap:=h'}):
 wpAny (model prog w) A (Builtin.SmallTypes.ownedTupleIsFree (.ref z)) Q E s:=by
 unfold Builtin.SmallTypes.ownedTupleIsFree
 refine aa (bI hz rfl (x:=rawInt T) rfl ?_)
 show wpAny _ _ (loadIfAlive ((T:Int).toNat) >>=_) _ _ _
 rw[b9]
 refine aa (PySem.W.kdx_alive hT ?_)
 simp only[Option.isNone_some,aK,bq]
 refine aa (bI hz rfl (x:=.bool f) rfl ?_)
 cases f with
 | true=>exact af (q s.heap hz (λ_ _ _ e=>e) rfl)
 | false=>
  rw[aE (by decide)]
  refine aa (bU hz (by simp) λh1 a1 b1=>af (q h1 a1 (λc o n e=>b1.extBut c o n e) b1.1))
theorem acv{Q:Value->Shared->Prop}(D:ZipApart z TI TO i1 i2 l1 l2)(hz:p9 s.heap z TI TO T f)(hT:s.heap.get? T=some ot)(iX:IsPair s.heap TI (.ref i1) (.ref i2))
 (h1:s.heap.IsListIter i1 l1 k1) (h2:s.heap.IsListIter i2 l2 k2) (kJ:s.heap.IsList l1 xs) (jd:s.heap.IsList l2 ys) (hx:xs[k1]? =some x) (hy:ys[k2]? =some y)
 (q:∀h',p9 h' z TI TO T true->h'.IsListIter i1 l1 (k1+1)->h'.IsListIter i2 l2 (k2+1)->IsPair h' s.heap.objs.size x y->(∀c o,c≠z->c≠i1->c≠i2->s.heap.get? c=some o->h'.get? c=some o)->Q (.ref s.heap.objs.size) {s with heap:=h'}):
 wpAny (model prog w) A (Builtin.«zip.__next__» ⟨[.ref z],[]⟩) (λfin s'=>∃v,fin= .done (.ret v)/\Q v s') E s:=by
 show wpAny _ _ (field (.ref z) 2 >>=_) _ _ _;refine aa (bI hz rfl (x:=.bool false) rfl ?_)
 show wpAny _ _ (field (.ref z) 3 >>=_) _ _ _;refine aa (bI hz rfl (x:=.ref TI) rfl (aa (cD iX rfl ?_)))
 show wpAny _ _ (Builtin.SmallTypes.ownedTupleIsFree (.ref z) >>=_) _ _ _
 refine aa (M7 hz hT λh3 z3 e3 n3=>?_)
 simp only[aK,bq]
 rw[show(#[Value.ref i1,Value.ref i2]:Array Value)=[Value.ref i1,Value.ref i2].toArray from rfl,List.forIn_toArray]
 simp only[eE,d8]
 refine aa (aa (aa (cQ ?_)))
 show wpAny _ _ (Builtin.SmallTypes.nextOf (.ref i1) >>=_) _ _ _
 refine aa (fK (h1.extBut e3 D.i1z) (kJ.extBut e3 D.l1z) hx λh4 j4 b4=>af (af ?_))
 refine aa (aa (cQ ?_))
 show wpAny _ _ (Builtin.SmallTypes.nextOf (.ref i2) >>=_) _ _ _
 refine aa (fK ((h2.extBut e3 D.i2z).extBut b4.extBut D.i12.symm) ((jd.extBut e3 D.l2z).extBut b4.extBut D.l2i1) hy λh5 j5 b5=>af (af (af ?_)))
 show wpAny _ _ (newTuple [x,y] >>=_) _ _ _
 refine aa (wpAny_newTuple (af ⟨_,rfl,?_⟩))
 have n5:h5.objs.size=s.heap.objs.size:=by rw[b5.1,b4.1];exact n3
 have up:∀c o,h5.get? c=some o->(h5.push {cls:=.type "tuple",data:=.seq #[x,y]}).get? c=some o:=λc o e=>ag _ e
 have pr:IsPair (h5.push {cls:=.type "tuple",data:=.seq #[x,y]}) s.heap.objs.size x y:=by
  show(h5.push _).get? _=_
  rw[<-n5];exact aC _ rfl
 have fin:=q (h5.push {cls:=.type "tuple",data:=.seq #[x,y]}) (up _ _ (b5.extBut _ _ D.i2z.symm (b4.extBut _ _ D.i1z.symm z3))) ((j4.extBut b5.extBut D.i12).at λo e=>up _ o e) (j5.at λo e=>up _ o e) pr λc o c1 c2 c3 e=>up c o (b5.extBut c o c3 (b4.extBut c o c2 (e3 c o c1 e)))
 show Q (.ref h5.objs.size) _
 rw[n5]
 exact fin
theorem acu{Q:Fin->Shared->Prop}(hh:A.handled=none)(D:ZipApart z TI TO i1 i2 l1 l2)(hz:p9 s.heap z TI TO T f)(hT:s.heap.get? T=some ot)(iX:IsPair s.heap TI (.ref i1) (.ref i2))
 (h1:s.heap.IsListIter i1 l1 k1) (kJ:s.heap.IsList l1 xs) (hx:xs[k1]? =none)
 (q:∀h' e,(∀c o,c≠z->c≠i1->s.heap.get? c=some o->h'.get? c=some o)->(∃o,h'.get? e=some o/\o.cls= .type "StopIteration")->E (.ref e) {s with heap:=h'}):
 wpAny (model prog w) A (Builtin.«zip.__next__» ⟨[.ref z],[]⟩) Q E s:=by
 show wpAny _ _ (field (.ref z) 2 >>=_) _ _ _;refine aa (bI hz rfl (x:=.bool false) rfl ?_)
 show wpAny _ _ (field (.ref z) 3 >>=_) _ _ _;refine aa (bI hz rfl (x:=.ref TI) rfl (aa (cD iX rfl ?_)))
 show wpAny _ _ (Builtin.SmallTypes.ownedTupleIsFree (.ref z) >>=_) _ _ _
 refine aa (M7 hz hT λh3 z3 e3 n3=>?_)
 simp only[aK,bq]
 rw[show(#[Value.ref i1,Value.ref i2]:Array Value)=[Value.ref i1,Value.ref i2].toArray from rfl,List.forIn_toArray]
 simp only[eE,d8]
 refine aa (aa (aa (cQ ?_)))
 show wpAny _ _ (Builtin.SmallTypes.nextOf (.ref i1) >>=_) _ _ _
 exact aa (wpAny_nextOf_list_end hh (h1.extBut e3 D.i1z) (kJ.extBut e3 D.l1z) hx λh4 e b4 he=>q h4 e (λc o c1 c2 x=>b4 c o c2 (e3 c o c1 x)) he)
theorem acw{Q:Option Value->Shared->Prop}(D:ZipApart z TI TO i1 i2 l1 l2)(hz:p9 s.heap z TI TO T f)(hT:s.heap.get? T=some ot)(iX:IsPair s.heap TI (.ref i1) (.ref i2))
 (h1:s.heap.IsListIter i1 l1 k1) (h2:s.heap.IsListIter i2 l2 k2) (kJ:s.heap.IsList l1 xs) (jd:s.heap.IsList l2 ys) (hx:xs[k1]? =some x) (hy:ys[k2]? =some y)
 (q:∀h',p9 h' z TI TO T true->h'.IsListIter i1 l1 (k1+1)->h'.IsListIter i2 l2 (k2+1)->IsPair h' s.heap.objs.size x y->(∀c o,c≠z->c≠i1->c≠i2->s.heap.get? c=some o->h'.get? c=some o)->Q (some (.ref s.heap.objs.size)) {s with heap:=h'}):
 wpAny (model prog w) A (pyNext (.ref z)) Q E s:=by
 have ty:s.TypeIs (.ref z) "zip":=⟨_,hz,rfl⟩
 unfold pyNext
 exact aa (dh (bc (name:=Str.ofString "__next__") ty dC (bo dC ty fW (acv D hz hT iX h1 h2 kJ jd hx hy λh' a1 a2 a3 a4 a5=>af (q h' a1 a2 a3 a4 a5)) (fL _))))
theorem acx{Q:Option Value->Shared->Prop}(hh:A.handled=none)(D:ZipApart z TI TO i1 i2 l1 l2)(hz:p9 s.heap z TI TO T f)(hT:s.heap.get? T=some ot)(iX:IsPair s.heap TI (.ref i1) (.ref i2))
 (h1:s.heap.IsListIter i1 l1 k1) (kJ:s.heap.IsList l1 xs) (hx:xs[k1]? =none)
 (q:∀h',(∀c o,c≠z->c≠i1->s.heap.get? c=some o->h'.get? c=some o)->Q none {s with heap:=h'}):wpAny (model prog w) A (pyNext (.ref z)) Q E s:=by
 have ty:s.TypeIs (.ref z) "zip":=⟨_,hz,rfl⟩
 unfold pyNext
 refine aa (dh (bc (name:=Str.ofString "__next__") ty dC (bo dC ty fW (acu hh D hz hT iX h1 kJ hx λh' e hk ⟨o,ho,hc⟩=>?_) (fL _))))
 exact aa (dc (T:="StopIteration") (b:=true) ⟨o,ho,hc⟩ fI (af (q _ hk)))
noncomputable def vI(h:Heap)(z TI TO i1 i2 S:Addr):Prop:=(IsZip h z TI TO .none/\∃a b,IsPair h TO a b)\/∃T f ot,p9 h z TI TO T f/\h.get? T=some ot/\T≠z/\T≠i1/\T≠i2/\T≠S
theorem acz{S:Addr}{oS:Obj}{Q:Option Value->Shared->Prop}(D:ZipApart z TI TO i1 i2 l1 l2)(hz:vI s.heap z TI TO i1 i2 S)(hS:s.heap.get? S=some oS)(iX:IsPair s.heap TI (.ref i1) (.ref i2))
 (h1:s.heap.IsListIter i1 l1 k1) (h2:s.heap.IsListIter i2 l2 k2) (kJ:s.heap.IsList l1 xs) (jd:s.heap.IsList l2 ys) (hx:xs[k1]? =some x) (hy:ys[k2]? =some y)
 (q:∀h',vI h' z TI TO i1 i2 S->h'.IsListIter i1 l1 (k1+1)->h'.IsListIter i2 l2 (k2+1)->IsPair h' s.heap.objs.size x y->(∀c o,c≠z->c≠TO->c≠i1->c≠i2->s.heap.get? c=some o->h'.get? c=some o)->Q (some (.ref s.heap.objs.size)) {s with heap:=h'}):
 wpAny (model prog w) A (pyNext (.ref z)) Q E s:=by
 have VH:S<s.heap.objs.size:=aF hS
 have VF:i1<s.heap.objs.size:=by obtain⟨_,e,_⟩:=h1;exact aF e
 have VG:i2<s.heap.objs.size:=by obtain⟨_,e,_⟩:=h2;exact aF e
 rcases hz with⟨hz,a,b,jw⟩ | ⟨T,f,ot,hz,hT,t1,t2,t3,t4⟩
 ·refine wpAny_pyNext_zip_item D hz iX jw h1 h2 kJ jd hx hy λh' a1 a2 a3 a4 a5 a6 a7=>q h' (.inr ⟨s.heap.objs.size,false,_,a1,a5,cp (aF hz),cp VF,cp VG,cp VH⟩) a3 a4 a5 a7
 ·exact acw D hz hT iX h1 h2 kJ jd hx hy λh' a1 a2 a3 a4 a5=>q h' (.inr ⟨T,true,ot,a1,a5 T ot t1 t2 t3 hT,t1,t2,t3,t4⟩) a2 a3 a4 λc o c1 _ c3 c4 e=>a5 c o c1 c3 c4 e
theorem acA{S:Addr}{Q:Option Value->Shared->Prop}(hh:A.handled=none)(D:ZipApart z TI TO i1 i2 l1 l2)(hz:vI s.heap z TI TO i1 i2 S)(iX:IsPair s.heap TI (.ref i1) (.ref i2))
 (h1:s.heap.IsListIter i1 l1 k1) (h2:s.heap.IsListIter i2 l2 k2) (kJ:s.heap.IsList l1 xs) (jd:s.heap.IsList l2 ys) (hx:xs[k1]? =none)
 (q:∀h',(∀c o,c≠z->c≠TO->c≠i1->c≠i2->s.heap.get? c=some o->h'.get? c=some o)->Q none {s with heap:=h'}):wpAny (model prog w) A (pyNext (.ref z)) Q E s:=by
 rcases hz with⟨hz,a,b,jw⟩ | ⟨T,f,ot,hz,hT,t1,t2,t3,t4⟩
 ·exact wpAny_pyNext_zip_end hh D hz iX jw h1 h2 kJ jd (.inl hx) q
 ·exact acx hh D hz hT iX h1 kJ hx λh' k=>q h' λc o c1 _ c3 _ e=>k c o c1 c3 e
end
theorem wY{prog:Program}{w:World}{h h':Heap}{k:List Key}{a:Addr}(x:(tupleKind (i4 prog w)).is h k a)(kp:∀o,h.get? a=some o->h'.get? a=some o):(tupleKind (i4 prog w)).is h' k a:=by
 obtain⟨o,g_,n,h1,r⟩:=x
 exact⟨o,g_,n,kp o h1,r⟩
theorem AJ{prog:Program}{w:World}{h h':Heap}{S:Addr}{acc:List (List Key×Addr×Value)}(m:h.DictOfH (tupleKind (i4 prog w)) S acc)(k1:∀o,h.get? S=some o->h'.get? S=some o)(k2:∀q∈acc,∀o,h.get? q.2.1=some o->h'.get? q.2.1=some o):h'.DictOfH (tupleKind (i4 prog w)) S acc:=by
 obtain⟨o,es,ep,g1,g2,g3,g4,g5,g6⟩:=m
 exact⟨o,es,ep,k1 o g1,g2,g3,g4,λx hx=>wY (g5 x hx) (k2 x hx),g6⟩
noncomputable def Off(z TO i1 i2 c:Addr):Prop:=c≠z/\c≠TO/\c≠i1/\c≠i2
theorem MX{prog:Program}{w:World}{A:Around}{R:Result->Shared->Prop}{S z TI TO i1 i2 l1 l2:Addr}{xs ys:Array Value}{res:Value}(hh:A.handled=none)(hu:A.units+1<cLine)(D:ZipApart z TI TO i1 i2 l1 l2)(nS:Off z TO i1 i2 S)(nT:TI≠S)(n1:l1≠S)(n2:l2≠S):
 ∀
  (rest:List (List Key×Addr×Value)) (k:Nat) (acc:List (List Key×Addr×Value)) (ix:Int) (t:Tok) (s:Shared),xs.size=k+rest.length->ys.size=k+rest.length->acc.length+rest.length<=sizeLine->((acc++rest).map (·.1)).Nodup->
  (∀(j:Nat) (q:List Key×Addr×Value),rest[j]? =some q->xs[k+j]? =some (.ref q.2.1)/\ys[k+j]? =some q.2.2/\(tupleKind (i4 prog w)).is s.heap q.1 q.2.1/\q.2.1≠S/\Off z TO i1 i2 q.2.1)->(∀q∈acc,Off z TO i1 i2 q.2.1)->
  vI s.heap z TI TO i1 i2 S->IsPair s.heap TI (.ref i1) (.ref i2)->s.heap.IsListIter i1 l1 k->s.heap.IsListIter i2 l2 k->s.heap.IsList l1 xs->s.heap.IsList l2 ys->s.heap.DictOfH (tupleKind (i4 prog w)) S acc->
  (∀h' tk,h'.DictOfH (tupleKind (i4 prog w)) S (acc++rest)->(∀b o,b≠S->Off z TO i1 i2 b->s.heap.get? b=some o->h'.get? b=some o)->R (.ok (.ret res)) {s with heap:=h',toks:=tk})->
  codeAny (model prog w) A (.builtin "dict.update.loop" ⟨[.ref S,.ref z,.int ix t,res],[]⟩) R s
 | [],k,acc,ix,t,s,e1,e2,e3,e4,hr,ha,hz,iX,h1,h2,kJ,jd,hm,q=>by
  refine codeAny_builtin MO ?_
  rw[Around.under_plainId xM _]
  show wpAny _ A.in1 (pyNext (.ref z) >>=_) _ _ s
  refine aa (acA (A:=A.in1) hh D hz iX h1 h2 kJ jd (dI (gp e1)) λh' kp=>?_)
  show wpAny _ A.in1 (Builtin.Dict.addKeywords S [] >>=_) _ _ _
  refine aa (af (af (q h' s.toks ?_ λb o _ b2 e=>kp b o b2.1 b2.2.1 b2.2.2.1 b2.2.2.2 e)))
  rw[cv]
  exact AJ hm (λo e=>kp _ o nS.1 nS.2.1 nS.2.2.1 nS.2.2.2 e) λc hc o e=>kp _ o (ha c hc).1 (ha c hc).2.1 (ha c hc).2.2.1 (ha c hc).2.2.2 e
 | p::rest,k,acc,ix,t,s,e1,e2,e3,e4,hr,ha,hz,iX,h1,h2,kJ,jd,hm,q=>by
  obtain⟨hx,hy,lW,pS,xw⟩:=hr 0 p rfl
  rw[ai]at e1 e2 e3
  refine codeAny_builtin MO ?_
  rw[Around.under_plainId xM _]
  show wpAny _ A.in1 (pyNext (.ref z) >>=_) _ _ s
  obtain⟨oS,_,_,Tz,_⟩:=id hm
  refine aa (acz D hz Tz iX h1 h2 kJ jd (by simpa using hx) (by simpa using hy) λh3 z3 j1 j2 pr kp=>?_)
  have m3:h3.DictOfH (tupleKind (i4 prog w)) S acc:=AJ hm (λo e=>kp _ o nS.1 nS.2.1 nS.2.2.1 nS.2.2.2 e) λc hc o e=>kp _ o (ha c hc).1 (ha c hc).2.1 (ha c hc).2.2.1 (ha c hc).2.2.2 e
  have k3:(tupleKind (i4 prog w)).is h3 p.1 p.2.1:=wY lW λo e=>kp _ o xw.1 xw.2.1 xw.2.2.1 xw.2.2.2 e
  show wpAny _ A.in1 (holding [Value.ref s.heap.objs.size] _ >>=_) _ _ _
  refine aa (cQ (aa (wpAny_tryCatch ?_)))
  unfold Builtin.Dict.pairItems
  refine aa (wpAny_typeOf (T:="tuple") ⟨_,pr,rfl⟩ ?_)
  rw[aE (by first | decide | rfl | simp)]
  refine aa (cD pr rfl (af ?_))
  show wpAny _ A.in1 (holding [Value.ref p.2.1,p.2.2] (dictSet S (Value.ref p.2.1) p.2.2)) _ _ _
  have room:(tupleKind (i4 prog w)).room A.in1:=da hu
  refine cQ (wpAny_dictSet_heap (hsz:=by omega) room k3 m3 λh4 m4 b4=>?_)
  have sj:Heap.SameBut S h3 h4:=b4
  have wz:atKey acc p.1=none:=by
   refine atKey_none_of_get λj pp hj=>?_
   rw[au,gA]at e4
   exact e4.2.2 p.1 (aQ.mpr ⟨(p.1,pp),aG hj,rfl⟩) p.1 (by simp) rfl
  rw[storedH_new wz]at m4
  have z4:vI h4 z TI TO i1 i2 S:=by
   rcases z3 with⟨a1,x1,x2,a2⟩ | ⟨T,f,ot,a1,a2,t1,t2,t3,t4⟩
   ·exact .inl ⟨sj.extBut _ _ (cJ nS.1) a1,x1,x2,sj.extBut _ _ (cJ nS.2.1) a2⟩
   ·exact .inr ⟨T,f,ot,sj.extBut _ _ (cJ nS.1) a1,sj.extBut _ _ t4 a2,t1,t2,t3,t4⟩
  have up:∀c o,c≠S->Off z TO i1 i2 c->s.heap.get? c=some o->h4.get? c=some o:=λc o c0 c1 e=>sj.extBut c o c0 (kp c o c1.1 c1.2.1 c1.2.2.1 c1.2.2.2 e)
  have eq1:acc++p::rest=(acc++[p])++rest:=by simp
  refine af ⟨plainId_quiet xM _,MX (xs:=xs) (ys:=ys) hh hu D nS nT n1 n2 rest (k+1) (acc++[p]) (ix+1) 0 _ (by omega) (by omega) (by rw[aj,aA];omega) (by rw[<-eq1];exact e4) (λj q' e=>?_) (λc hc=>?_) z4 ?_ (j1.extBut sj.extBut (cJ nS.2.2.1)) (j2.extBut sj.extBut (cJ nS.2.2.2)) ?_ ?_ m4 λh' tk m' kk=>?_⟩
  ·obtain⟨y1,y2,y3,y4,y5⟩:=hr (j+1) q' (by simpa using e)
   refine⟨by rw[show k+1+j=k+(j+1) by omega];exact y1,by rw[show k+1+j=k+(j+1) by omega];exact y2,wY y3 λo e=>up _ o y4 y5 e,y4,y5⟩
  ·rcases bg.mp hc with hc | hc
   ·exact ha c hc
   ·rw[bA.mp hc];exact xw
  ·exact up _ _ nT ⟨D.TIz,D.TITO,D.TIi1,D.TIi2⟩ iX
  ·exact kJ.at λo e=>up _ o n1 ⟨D.l1z,D.l1TO,D.l1i1,D.l1i2⟩ e
  ·exact jd.at λo e=>up _ o n2 ⟨D.l2z,D.l2TO,D.l2i1,D.l2i2⟩ e
  ·refine q h' tk (by rw[eq1];exact m') λb o b1 b2 e=>kk b o b1 b2 (up b o b1 b2 e)
theorem acr:typeLookup (.type "zip") "keys"=pure none:=am_miss_of_fast (by first | decide +kernel | rfl)
theorem acq:typeLookup (.type "zip") "__getattr__"=pure none:=am_miss_of_fast (by first | decide +kernel | rfl)
theorem aco:entryFor table "zip.__getattribute__"=some Builtin.«object.__getattribute__»:=entryFor_alias (id':="object.__getattribute__") (by kernel_rfl) (by decide +kernel) (by decide +kernel) (by kernel_rfl)
theorem acp(z:Addr)(fs:Array Value)(x:Str)(u:Tok)(no:typeLookup (.type "zip") x=pure none)(nm:(["__module__","__name__","__qualname__","__doc__","__annotations__"]:List Str).contains x=false)(sz:x.length+100<=sizeLine):
 Meets (Builtin.«object.__getattribute__» ⟨[.ref z,.str x u],[]⟩) (λA R s=>s.heap.get? z=some {cls:=.type "zip",dict:=none,data:=.fields fs,slots:=#[]}/\raisesAttr (.ref z) x A R s):=
 Meets.of_wp λprog w A R s ⟨hz,hs⟩=>by
  obtain⟨hp,g,d,tk,os⟩:=s
  have ty:(⟨hp,g,d,tk,os⟩:Shared).TypeIs (.ref z) "zip":=⟨_,hz,rfl⟩
  unfold Builtin.«object.__getattribute__»;repeat (any_goals (first | assumption | wp_step))
  simp only[nm,aK,bq];repeat (any_goals (first | assumption | wp_step))
  exact wpAny_raiseAttrError hs.1 hs.2 (attrMsg_fits (by decide +kernel) sz)
section
variable{prog:Program}{w:World}{A:Around}{E:Value->Shared->Prop}
theorem VU{s:Shared}{z:Addr}{fs:Array Value}{Q:Option Value->Shared->Prop}(hz:s.heap.get? z=some {cls:=.type "zip",dict:=none,data:=.fields fs,slots:=#[]})(hA:A.handled=none)
 (h:∀h' tk,(∀b ob,s.heap.get? b=some ob->h'.get? b=some ob)->Q none {s with heap:=h',toks:=tk}):wpAny (model prog w) A (getAttr? (.ref z) "keys") Q E s:=by
 obtain⟨hp,g,d,tk,os⟩:=s
 have hT:∀MF,(⟨hp,g,d,MF,os⟩:Shared).TypeIs (.ref z) "zip":=λ_=>⟨_,hz,rfl⟩
 have Ti:=acr
 have Ts:(["__module__","__name__","__qualname__","__doc__","__annotations__"]:List Str).contains "keys"=false:=by decide +kernel
 have hsz:("keys":Str).length+100<=sizeLine:=by first | size_fits | decide +kernel
 have f1:=sub_AttributeError
 have f3:=ei.lookup
 have f4:=ei.bind (.ref z)
 have f5:=acq
 unfold getAttr? getAttrBy? getAttrBy
 repeat (any_goals (first | assumption | exact hT _ | ((with_reducible show wpAny _ _ (call (Value.builtin "zip.__getattribute__") _ _) _ _ _);refine gw ei (hT _) aco (PySem.F.args_zip_getattribute_2 _ _) (acp z fs "keys" _ Ti Ts hsz) ⟨hz,hA,λh' MF e wK=>?_⟩) | wp_step))
 obtain⟨t',u',he⟩:=wK.there
 show wpAny _ _ (getattributeRaised _ _ _ _ _ _ _) _ _ _
 unfold getattributeRaised
 repeat (any_goals (first | assumption | wp_step))
 all_goals first | exact h _ _ wK.keeps | (dsimp only;repeat (any_goals (first | assumption | exact h _ _ wK.keeps | wp_step)))
theorem NT{s:Shared}{z TI TO i1 i2 l1 l2:Addr}{xs ys:Array Value}{prs:List (List Key×Addr×Value)}{Q:Value->Shared->Prop}(hh:A.handled=none)(hu:A.units+2<cLine)(D:ZipApart z TI TO i1 i2 l1 l2)
 (hz:IsZip s.heap z TI TO .none) (jw:∃a b,IsPair s.heap TO a b) (iX:IsPair s.heap TI (.ref i1) (.ref i2)) (h1:s.heap.IsListIter i1 l1 0) (h2:s.heap.IsListIter i2 l2 0) (kJ:s.heap.IsList l1 xs) (jd:s.heap.IsList l2 ys)
 (e1:xs.size=prs.length) (e2:ys.size=prs.length) (e3:prs.length<=sizeLine) (e4:(prs.map (·.1)).Nodup)
 (hr:∀(j:Nat) (q:List Key×Addr×Value),prs[j]? =some q->xs[j]? =some (.ref q.2.1)/\ys[j]? =some q.2.2/\(tupleKind (i4 prog w)).is s.heap q.1 q.2.1/\Off z TO i1 i2 q.2.1)
 (h:∀h' tk,h'.DictOfH (tupleKind (i4 prog w)) s.heap.objs.size prs->(∀b o,Off z TO i1 i2 b->s.heap.get? b=some o->h'.get? b=some o)->Q (.ref s.heap.objs.size) {s with heap:=h',toks:=tk}):
 wpAny (model prog w) A (call (.type "dict") [.ref z]) Q E s:=by
 refine callType_codes (Q₁:=λobj iW=>obj= .ref s.heap.objs.size/\iW={s with heap:=s.heap.push {cls:=.type "dict",data:=.dict #[]}}) PySem.F.kt_called_dict (PySem.F.kt_typeCall_dict_1 _) PySem.F.entry_dict_init (kt_code_dict_new _ ⟨rfl,rfl⟩) ?_
 rintro obj iW ⟨rfl,rfl⟩
 have wz:(s.heap.push {cls:=.type "dict",data:=.dict #[]}).DictOfH (tupleKind (i4 prog w)) s.heap.objs.size []:=Heap.DictOfH.new s.heap
 have k0:∀b o,s.heap.get? b=some o->(s.heap.push {cls:=.type "dict",data:=.dict #[]}).get? b=some o:=λb o e=>ag _ e
 refine⟨wz.typeIs,PySem.F.args_dict_init_2 _ _,?_⟩
 unfold Builtin.«dict.__init__»
 refine aa ?_
 unfold Builtin.Dict.selfAndRest
 refine aa (cY wz.typeIs ?_)
 show wpAny _ _ (pure (s.heap.objs.size,[Value.ref z])) _ _ _
 refine af ?_
 show wpAny _ _ (Builtin.Dict.updateFrom "dict.__init__" s.heap.objs.size (.ref z) [] .none) _ _ _
 unfold Builtin.Dict.updateFrom
 refine aa (wpAny_typeOf (T:="zip") ⟨_,k0 _ _ hz,rfl⟩ ?_)
 rw[aE (by first | decide | rfl | simp)]
 refine aa (VU (k0 _ _ hz) hh λh3 tk3 yQ=>?_)
 rw[aE (show(none:Option Value).isNone=true from rfl)]
 refine aa (fo ?_)
 have up:∀b o,s.heap.get? b=some o->h3.get? b=some o:=λb o e=>yQ _ _ (k0 _ _ e)
 refine aa (fc (up _ _ hz) ?_)
 have lt:∀{c o},s.heap.get? c=some o->c≠s.heap.objs.size:=λe=>a9 (aF e)
 obtain⟨ta,tb,jw⟩:=jw
 have SQ:i1≠s.heap.objs.size:=by obtain⟨_,e,_⟩:=h1;exact lt e
 have wo:i2≠s.heap.objs.size:=by obtain⟨_,e,_⟩:=h2;exact lt e
 have Wj:l1≠s.heap.objs.size:=by obtain⟨_,e,_⟩:=kJ;exact lt e
 have Wk:l2≠s.heap.objs.size:=by obtain⟨_,e,_⟩:=jd;exact lt e
 have key:=MX (prog:=prog) (w:=w) (A:=A.in1) (R:=wants (λr kO=>r= .none/\Q (.ref s.heap.objs.size) kO) E) (S:=s.heap.objs.size) (xs:=xs) (ys:=ys) (res:=Value.none) hh (show A.in1.units+1<cLine from hu) D ⟨cJ (lt hz),cJ (lt jw),cJ SQ,cJ wo⟩ (lt iX) Wj Wk
  prs 0 [] 0 0 {s with heap:=h3,toks:=tk3} (by omega) (by omega) (by rw[bQ];omega) (by rw[List.nil_append];exact e4)
  (λj q e=>by
   obtain⟨y1,y2,y3,y4⟩:=hr j q e
   obtain⟨o,g_,n,g1,_⟩:=id y3
   exact⟨by rw[gT];exact y1,by rw[gT];exact y2,wY y3 λo e=>up _ o e,lt g1,y4⟩)
  (λq hq=>by simp at hq) (.inl ⟨up _ _ hz,ta,tb,up _ _ jw⟩) (up _ _ iX) (h1.at λo e=>up _ o e) (h2.at λo e=>up _ o e) (kJ.at λo e=>up _ o e) (jd.at λo e=>up _ o e) (AJ wz (λo e=>yQ _ o e) λq hq=>by simp at hq)
  (λh' tk m kk=>⟨rfl,h h' tk m λb o b1 e=>kk b o (lt e) b1 (up b o e)⟩)
 first
  | exact af ⟨plainId_quiet xM _,key⟩
  | exact aa (af (af ⟨plainId_quiet xM _,key⟩))
end
noncomputable def abv(K:Fg)(ta:TA):TE:=λσ H Q=>ta σ H λvs H1=>∃(a b:Addr) (ps:List Addr) (ks:List (List Key)) (ys:List V),vs=[.ref a,.ref b]/\f_ K H1 a (ps.map V.ref)/\f_ K H1 b ys/\
 Paired (λp k=>H1 p=some (.tup (k.map kV))) ps ks/\ks.Nodup/\ks.length=ys.length/\∀d,H1 d=none->Q (.ref d) (upd H1 d (.dT (ks.zip ys)))
theorem MZ{H:Hp}:∀{ps:List Addr} {ks:List (List Key)} {ys:List V} {us:List Value},Paired (λp k=>H p=some (.tup (k.map kV))) ps ks->iG ys us->ks.length=ys.length->KT H (ks.zip ys) (ks.zip (ps.zip us))
 | _,_,_,_,.nil,_,_=>.nil
 | _,_,_,_,.cons _ _,.nil,h=>by simp at h
 | _,_,_,_,.cons r1 t1,.cons r2 t2,h=>.cons ⟨rfl,r1,r2⟩ (MZ t1 t2 (by simpa using h))
theorem HJ{α β:Type}{R:α->β->Prop}:∀{xs:List α} {ys:List β},Paired R xs ys->∀{i:Nat} {x:α} {y:β},xs[i]? =some x->ys[i]? =some y->R x y
 | _,_,.nil,i,x,y,h,_=>by simp at h
 | _,_,.cons r t,0,x,y,h1,h2=>by
  have e1:=ae h1
  have e2:=ae h2
  rw[<-e1,<-e2];exact r
 | _,_,.cons r t,i+1,x,y,h1,h2=>HJ t (i:=i) (by simpa using h1) (by simpa using h2)
theorem X_{X:Cx}{e1 e2:Expr}{ta:TA}{p1 p2 Yr xB:Pos}(hc:X.calm=true)(hu:X.A.units+64<cLine)(wy:X.mg "dict"=none)(Tg:X.mg "zip"=none)(ha:PA X [e1,e2] ta)(SK:Gl X "dict":=by rfl)(yM:Gl X "zip":=by rfl)
 (hs:starEach [e1,e2] X.env=(false,eval e1 X.env)::starEach [e2] X.env:=by rfl) (i9:(backTo xB (starEach [e2] X.env)).any (·.1)=false:=by rfl)
 (BG:starEach [.Call (.Name "zip" p2) [e1,e2] [] xB] X.env=[(false,eval (.Call (.Name "zip" p2) [e1,e2] [] xB) X.env)]:=by rfl):
 PE X (.Call (.Name "dict" p1) [.Call (.Name "zip" p2) [e1,e2] [] xB] [] Yr) (abv X.K ta):=by
 intro pins s σ H Q I h
 refine Call_ (qD I SK wy (show bootBuiltins "dict"=some (.type "dict") by decide +kernel) (bK ?_ BG rfl))
 rw[BG]
 show wpAny _ _ (spliced [(false,eval _ X.env)]) _ _ _
 refine cU (Call_ (qD I yM Tg Ay (bK (ir (ha xB pins s σ H _ I h) λus s1 ⟨vs,H1,I1,r1,q1⟩=>?_) hs i9)))
 obtain⟨a,b,ps,ks,ys,ex,mm,nt,pk,nk,el,q⟩:=q1
 subst ex
 cases r1 with
 | cons r rr=>
  cases rr with
  | cons r' rr=>
   cases rr
   cases r
   cases r'
   obtain⟨g_,rv,l1,lz⟩:=I1.list mm
   obtain⟨kE,pR,l2,lz2⟩:=I1.list nt
   have la:a<s1.heap.objs.size:=l1.lt
   have lb:b<s1.heap.objs.size:=l2.lt
   have rg:ps.length=ks.length:=cF pk
   have yZ:=pR.length
   have e0:=Iv rv
   subst e0
   refine call_zip_2 l1.isList l2.isList λh' hz iX jw j1 j2 hsz hk=>dW ?_
   have D:=gG s1.heap.objs.size a b la lb
   have rel:=MZ pk pR el
   have oO:(ks.zip (ps.zip kE)).length=ks.length:=by rw[dD,dD];omega
   have lt:∀{c:Addr} {o:Obj},s1.heap.get? c=some o->Off (s1.heap.objs.size+4) (s1.heap.objs.size+3) s1.heap.objs.size (s1.heap.objs.size+1) c:=λ{c o} e=>by
    have:=aF e
    exact⟨a9 (aS this (bZ _ _)),a9 (aS this (bZ _ _)),a9 this,a9 (aS this (bZ _ _))⟩
   have keys:(ks.zip (ps.zip kE)).map (·.1)=ks:=by
    rw[List.map_fst_zip];rw[dD];omega
   refine NT (prs:=ks.zip (ps.zip kE)) (I.ok.hd hc) (by omega) D hz ⟨_,_,jw⟩ iX j1 j2 (l1.isList.at λo e=>hk _ o e) (l2.isList.at λo e=>hk _ o e) (by rw[oO];simp[rg]) (by rw[oO];simp;omega) ?_ (by rw[keys];exact nk) (λj x hx=>?_) λlq tk m kk=>?_
   ·rw[oO,<-rg]
    rw[ab]at lz
    exact lz
   ·rw[cH,cH]at hx
    obtain⟨x1,x2,x3⟩:=hx
    have uo:=HJ pk x2 x1
    have Fi:=pH I1.h_ uo
    obtain⟨o,it,n,g1,_⟩:=id Fi
    exact⟨by simp[x2],by simpa using x3,wY Fi λo e=>hk _ o e,lt g1⟩
   ·obtain⟨o',es,ep,g1,g2,g3,g4,g5,g6⟩:=m
    have hS:s1.heap.objs.size<=h'.objs.size:=by omega
    have keep:∀c o,c∉[s1.heap.objs.size+4,s1.heap.objs.size+3,s1.heap.objs.size,s1.heap.objs.size+1]->s1.heap.get? c=some o->lq.get? c=some o:=λc o _ e=>kk c o (lt e) (hk c o e)
    have fp:∀c∈[s1.heap.objs.size+4,s1.heap.objs.size+3,s1.heap.objs.size,s1.heap.objs.size+1],m6 X pins H1 c:=λc oI=>by
     have hle:s1.heap.objs.size<=c:=by simp at oI;omega
     exact I1.qj hle (I1.h_.fresh hle)
    refine⟨.ref h'.objs.size,_,I1.xK (t':=tk) (ob:=.dT (ks.zip ys)) keep fp hS ?_,rfl,q _ (I1.h_.fresh hS)⟩
    have ny:(ks.zip ys).length<=sizeLine:=by
     rw[dD]
     rw[ab]at lz
     omega
    refine⟨ny,bX.mpr (cp (aS I1.yb hS)),_,rel.keeps λc xs e=>?_,o',es,ep,g1,g2,g3,g4,g6⟩
    have mh:c<s1.heap.objs.size:=(I1.h_ c _ e).lt
    rw[ip (a9 (aS mh hS))]
    exact e
inductive tR{α β:Type}(R:α->β->Prop):List α->List β->Prop
 | nil:tR R [] []
 | cons {x:α} {y:β} {xs:List α} {ys:List β}:R x y->tR R xs ys->tR R (x::xs) (y::ys)
theorem MQ:∀{ns:List Int} {g_:List Value},iG (ns.map V.int) g_->∀{i:Nat} {v:Value},g_[i]? =some v->∃n t,ns[i]? =some n/\v= .int n t
 | [],_,r,i,v,h=>by cases r;simp at h
 | n::ns,_,r,i,v,h=>by
  cases r with
  | cons r1 r2=>
   obtain⟨t,rfl⟩:=r1
   cases i with
   | zero=>exact⟨n,t,rfl,by simpa using h.symm⟩
   | succ i=>
    obtain⟨m,t',e1,e2⟩:=MQ r2 (i:=i) (by simpa using h)
    exact⟨m,t',by simpa using e1,e2⟩
section
variable{X:Cx}
noncomputable def aab(K:Fg):List V->Hp->VK->Prop:=λvs H Q=>∃(a:Addr) (ns:List Int),vs=[V.ref a]/\f_ K H a (ns.map V.int)/\Q (.bl (ns.any λn=>n != 0)) H
theorem N5(hc:X.calm=true):ma X (.builtin "any") (aab X.K):=by
 intro pins s σ H vs us Q I r h
 obtain⟨a,ns,rfl,hs,q⟩:=h
 obtain⟨g_,rv,hl,_⟩:=I.list hs
 rw[iG.zP r]
 have tr:TruthOf X.prog X.w X.A.in1 (λi v=>g_.toArray[i]? =some v) (λi=>(ns.map λn=>n != 0).getD i false):=λi v s Q E hv hq=>by
  have oP:g_[i]? =some v:=by simpa using hv
  obtain⟨n,t,hn,rfl⟩:=MQ rv oP
  have hg:(ns.map λn=>n != 0).getD i false=(n != 0):=by rw[bE,bN,hn]<;>rfl
  have kg:Q ((ns.map λn=>n != 0).getD i false) s:=hq
  rw[hg]at kg
  exact truthy_int kg
 refine call_any_walk (BY hl.isList λkO e2 st iJ=>?_)
 subst e2
 refine⟨_,_,_,_,_,_,_,rfl,Walks.list (A:=X.A.in1) (I.ok.hd hc) _ a iJ g_.toArray,st,tr,λh' tk hk=>?_⟩
 refine⟨.bl _,H,I.kept λb o eo=>hk b o (λke=>?_) (ag _ eo),?_,q⟩
 ·rcases aM.mp ke with e1 | ke
  ·exact absurd (e1▸aF eo) (cO _)
  ·cases ke
 ·show Value.bool _=Value.bool _
  have e:=any_range (ns.map λn=>n != 0)
  rw[ab,fE]at e
  have jd:=rv.length
  rw[ab]at jd
  rw[aJ,<-jd,e]
  rfl
noncomputable def aag:V->List V->Hp->VK->Prop:=λx vs H Q=>∃(l:Addr) (xs:List V) (i:Nat) (y:V),x= .ref l/\vs=[.int i,y]/\H l=some (.lst xs)/\i<=xs.length/\xs.length<sizeLine/\Q .ia (upd H l (.lst (xs.take i++y::xs.drop i)))
theorem acf{i:Nat}:∀{xs:List V} {g_:List Value},iG xs g_->iG (xs.take i) (g_.take i):=λ{xs g_} r=>by
 induction r generalizing i with
 | nil=>rw[List.take_nil,List.take_nil];exact .nil
 | cons h t ih=>cases i with
  | zero=>exact .nil
  | succ i=>exact .cons h ih
theorem ace{i:Nat}:∀{xs:List V} {g_:List Value},iG xs g_->iG (xs.drop i) (g_.drop i):=λ{xs g_} r=>by
 induction r generalizing i with
 | nil=>rw[List.drop_nil,List.drop_nil];exact .nil
 | cons h t ih=>cases i with
  | zero=>exact .cons h t
  | succ i=>exact ih
theorem V3:xV X "list.insert" aag:=by
 intro pins s σ H x vs v us Q I rx rv h
 obtain⟨l,xs,i,y,rfl,rfl,hH,hi,hz,q⟩:=h
 cases rx
 cases rv with
 | @cons _ w1 _ ws1 r1 rr=>
  cases rr with
  | @cons _ u _ ws2 r2 rr=>
   cases rr
   obtain⟨t,rfl⟩:=r1
   obtain⟨z,g_,n,r,hl,e⟩:=I.sV hH
   obtain⟨zi,Q2⟩:∃zi:Int,zi=(i:Int):=⟨_,rfl⟩
   rw[<-Q2]
   have hf:PySem.Builtin.List.listFitsIndex zi=true:=by
    have R5:sizeLine=16777216:=by decide
    unfold PySem.Builtin.List.listFitsIndex
    rw[aZ,ak,ak]
    omega
   have hsz:g_.toArray.size<=sizeLine:=by rw[aJ];omega
   have n0:¬(!PySem.Builtin.List.listFitsIndex zi)=true:=by rw[hf];exact ao
   refine gw F.slot_list_insert ⟨_,e,rfl⟩ F.entry_list_insert (F.args_list_insert_3 _ _ _) (PySem.AutoSeq1.list_insert_list_int_val_1 l g_.toArray n zi t u n0 hsz) ⟨e,?_⟩
   refine⟨.ia,_,I.ze (its':=g_.take i++u::g_.drop i) hH e ?_ ((acf r).append (.cons r2 (ace r))) ?_,rfl,q⟩
   ·have wo:min zi.toNat g_.length=i:=by omega
    have hn:¬zi<0:=by omega
    simp only[hn,bq,aJ,wo]
    simp[List.extract_eq_drop_take]
    exact cu (by rw[aR];exact ax _)
   ·rw[aj,ai,aB,aR]
    omega
noncomputable def aae(K:Fg):V->List V->Hp->VK->Prop:=λx vs H Q=>∃l b xs zs,x= .ref l/\vs=[.ref b]/\H l=some (.lst xs)/\iO K H b zs/\xs.length+zs.length<=sizeLine/\Q .ia (upd H l (.lst (xs++zs)))
open PySem.AutoSeq1 in
theorem Q1(l:Addr)(items:Array Value)(n:Nat)(b:Addr)(wW:Array Value)(n2:Nat)(dd:Option Addr)(sl:Array (Option Value))(BG:¬(!items.isEmpty&&Builtin.List.listTooLong (items.size+wW.size))=true)(T6:items.size<=sizeLine)(sO:items.size+wW.size<=sizeLine+1):
 Meets (Builtin.«list.extend» ⟨[.ref l,.ref b],[]⟩) (λ_ R s=>s.heap.get? l=some {cls:=.type "list",dict:=none,data:=.seq items n,slots:=#[]}/\s.heap.get? b=some {cls:=.type "tuple",dict:=dd,data:=.seq wW n2,slots:=sl}/\R (.ok (.ret Value.none)) {s with heap:=s.heap.update l (Obj.mapSeq λx=>x++wW),toks:=s.toks}):=
 .of_wp λprog w A R ⟨hp,g,d,tk,os⟩ ⟨hl,hb,h⟩=>by
  have f2:=AutoSeq1.sub_tuple_tuple
  have f3:=AutoSeq1.sub_list_list
  have f4:=AutoSeq1.sub_tuple_list
  have f5:=AutoSeq1.sub_list_tuple
  have ny:(items++wW).size<=sizeLine+1:=by
   rw[Array.size_append]
   exact sO
  wp_walk using (wpAny_updateSeq hl rfl (hz:=T6) (_hz':=ny)),wpAny_loadPart' hl,wpAny_loadPart' hb
  exact⟨_,rfl,h⟩
theorem V2:xV X "list.extend" (aae X.K):=by
 intro pins s σ H x vs v us Q I rx rv h
 obtain⟨l,b,xs,zs,rfl,rfl,hH,hB,hz,q⟩:=h
 cases rx
 obtain⟨u,rfl,ru⟩:=rv.one
 cases ru
 obtain⟨z,g_,n,r,hl,e⟩:=I.sV hH
 obtain⟨kE,r2,pl,ny⟩:=I.tuple hB
 have jd:=r2.length
 obtain⟨⟨oc,od,oda,mz⟩,e2,c2,n2,d2⟩:=pl
 simp only at c2 d2
 subst c2 d2
 have hsz:g_.toArray.size+kE.toArray.size<=sizeLine:=by rw[aJ,aJ];omega
 have Bm:¬(!g_.toArray.isEmpty&&Builtin.List.listTooLong (g_.toArray.size+kE.toArray.size))=true:=by
  rw[G6 hsz,Bool.and_false]
  exact ao
 refine gw F.slot_list_extend ⟨_,e,rfl⟩ F.entry_list_extend (F.args_list_extend_2 _ _)
  (Q1 l g_.toArray n b kE.toArray n2 od mz Bm (by rw[aJ];omega) (by omega)) ⟨e,e2,?_⟩
 refine⟨.ia,_,I.ze (its':=g_++kE) hH e (by simp) (r.append r2) ?_,rfl,q⟩
 rw[aj]
 omega
theorem UZ{prog:Program}{w:World}{d:Addr}{od:Obj}{es:Array DictEntry}{ep:Nat}(lo:(d == sysModules)=false)(hx:od.ExactDict)(hd:od.data= .dict es ep):
 PySem.W.KdlSrc prog w "dict" d d es.size (λi v=>∃en:DictEntry,es[i]? =some en/\v=en.key) (λh=>h.get? d=some od) where
 type:=λ_ hm=>⟨_,hm,hx.1⟩
 there:=λ_ hm=>⟨aF hm,aF hm⟩
 keep:=λ_ _ hm hk=>hk d (.inl rfl) _ hm
 notList:=by decide
 notTuple:=by decide
 hint:=λ_ _ _ _ hm hq=>PySem.W.kdl_hint_dict ⟨_,hm,hx.1⟩ hq
 iter:=λA s hh hm=>by
  refine⟨_,λi h=>h.IsKeyIter s.heap.objs.size d i es.size ep/\h.get? d=some od,λ_ _ hq=>BZ lo hm hx hd hq,?_,⟨_,aC _ rfl,rfl,rfl⟩,ag _ hm⟩
  have iJ:d≠s.heap.objs.size:=a9 (aF hm)
  exact {
   sub:=λb hb=>by simp at hb;simp[hb]
   frame:=λ_ _ _ st hk=>⟨st.1.at λo e=>hk _ (by simp) o e,hk d (by simp) _ st.2⟩
   item:=λi s2 Q E hi st hQ=>by
    obtain⟨en,mQ⟩:∃en,es[i]? =some en:=⟨es[i],Array.getElem?_eq_getElem hi⟩
    exact G1 st.1 st.2 hd rfl mQ λh' kG sb=>hQ _ h' s2.toks ⟨en,mQ,rfl⟩ ⟨kG,(sb.2 d iJ).trans st.2⟩ λb o hb e=>(sb.2 b (λz=>hb (by simp[z]))).trans e
   done:=λs2 Q E st hQ=>Cr hh st.1 st.2 hd rfl (ax _) λh' eb=>hQ h' s2.toks λb o hb e=>eb b o (λz=>hb (by simp[z])) e
   self:=λ_ _ _ _ st hQ=>wpAny_pyIter_keyiter st.1 hQ}
theorem NV(hc:X.calm=true):ma X (.type "list") (λxs H Q=>∃(d:Addr) (kvs:List (List Key×V)),xs=[.ref d]/\Rd H d (.dT kvs)/\∀l ps,H l=none->tR (λ(p:Addr) (kv:List Key×V)=>H p=some (.tup (kv.1.map kV))) ps kvs->Q (.ref l) (upd H l (.lst (ps.map V.ref)))):=by
 intro pins s σ H xs us Q I r h
 obtain⟨d,kvs,rfl,hd,q⟩:=h
 obtain⟨u,rfl,rx⟩:=vals1 r
 cases rx
 obtain⟨z,lo,ys,kt,od,es,ep,h1,h2,h3,h4,_⟩:=(show jl X.prog X.w H s.heap d (.dT kvs) from C8 I.h_ hd)
 have l1:es.size=ys.length:=eF h4
 have l2:kvs.length=ys.length:=cF kt
 refine PySem.W.kdl_call (UZ lo h2 h3) (I.ok.hd hc) h1 (by omega) λh' tk qO c' hk hS Ba=>?_
 have len:qO.toList.length=kvs.length:=by rw[dG];have:=Ba.1;omega
 have hex:∀i,i<kvs.length->∃p,qO.toList[i]? =some (.ref p)/\∀kv,kvs[i]? =some kv->H p=some (.tup (kv.1.map kV)):=λi hi=>by
  obtain⟨b,hb,e1,e2,e3⟩:=CL kt (ay hi)
  have hv:qO.toList[i]? =some qO.toList[i]:=ay (by omega)
  have BN:qO[i]? =some qO.toList[i]:=by rw[<-Array.getElem?_toList];exact hv
  obtain⟨en,mQ,ev⟩:=Ba.2 i _ BN
  have q2:=entry_at h4 i
  rw[hb,mQ]at q2
  have q3:en=entryOfKey (tupleKind (i4 X.prog X.w)) b:=ae q2
  refine⟨b.2.1,?_,λkv jr=>?_⟩
  ·rw[hv,ev,q3];rfl
  ·rw[ay hi]at jr
   rw[<-ae jr]
   exact e2
 have jQ:∃ps:List Addr,qO.toList=ps.map Value.ref/\tR (λ(p:Addr) (kv:List Key×V)=>H p=some (.tup (kv.1.map kV))) ps kvs:=by
  clear Ba
  generalize qO.toList=vs at len hex
  clear hk hS q kt l2 z hd
  induction vs generalizing kvs with
  | nil=>
   cases kvs with
   | nil=>exact⟨[],rfl,.nil⟩
   | cons _ _=>simp at len
  | cons v r ih=>
   cases kvs with
   | nil=>simp at len
   | cons kv rr=>
    obtain⟨p,kf,jA⟩:=hex 0 (by simp)
    obtain⟨ps,e,zz⟩:=ih (kvs:=rr) (by simpa using len) λi hi=>by
     obtain⟨p,h1,h2⟩:=hex (i+1) (by simpa using hi)
     exact⟨p,by simpa using h1,λkv h=>h2 kv (by simpa using h)⟩
    refine⟨p::ps,?_,.cons (jA kv rfl) zz⟩
    have:v= .ref p:=by simpa using kf
    rw[this,e];rfl
 obtain⟨ps,ea,zz⟩:=jQ
 have rv:∀ps:List Addr,iG (ps.map V.ref) (ps.map Value.ref):=λps=>by
  induction ps with
  | nil=>exact .nil
  | cons p r ih=>exact .cons rfl ih
 have i9:ps.length=kvs.length:=by rw[ea,ab]at len;exact len
 refine⟨.ref s.heap.objs.size,_,I.laid (t':=tk) hk (ax _) (show jl X.prog X.w _ h' _ (.lst (ps.map V.ref)) from⟨by rw[ab];omega,_,c',rv ps,?_⟩),rfl,q _ ps (I.h_.fresh (ax _)) zz⟩
 rw[<-ea,Array.toArray_toList];exact hS
end
theorem Gg{K:Fg}{a b:Addr}{xs ys:List V}{g:TG}{tt:TT}{te:TE}{vs:List Nat}{σ:St}{H1:Hp}{D:Addr}{Qd:Hp->Prop}(n:Nat)(hx:xs.length=n)(hy:ys.length=n)(Pv:Nat->Hp->Prop)(h0:Pv 0 (upd H1 D (.lst [])))(hl:∀i H,Pv i H->f_ K H a xs/\f_ K H b ys)
 (hs:∀i x y H T,xs[i]? =some x->ys[i]? =some y->Pv i H->H T=none->g (.ref T) (wipe σ vs) (upd H T (.tup [x,y])) λiA H2=>wipe iA vs=wipe σ vs/\tt iA H2 λb H3=>
  if b=true then te iA H3 λy H4=>∃acc,H4 D=some (.lst acc)/\acc.length<sizeLine/\Pv (i+1) (upd H4 D (.lst (acc++[y]))) else Pv (i+1) H3) (hd:∀H,Pv n H->Qd H):
 ∃
  W:Nat->Nat->Hp->Prop,(∃m,W 0 m (upd H1 D (.lst [])))/\∀i m H,W i m H->
  ((
   vz K a b).stop i H/\Qd H)\/((vz K a b).go i H/\∃Nx:Hp->Prop,(∀U,Nx U->∃m',m'<m/\W (i+1) m' U)/\∀x U,(vz K a b).l9 i H x U->g x (wipe σ vs) U λiA H2=>wipe iA vs=wipe σ vs/\tt iA H2 λb H3=>
   if b=true then te iA H3 λy H4=>∃acc,H4 D=some (.lst acc)/\acc.length<sizeLine/\Nx (upd H4 D (.lst (acc++[y]))) else Nx H3):=by
 refine⟨λi m H=>m=n-i/\i<=n/\Pv i H,⟨n,by simp,aU _,h0⟩,?_⟩
 rintro i m H ⟨rfl,hi,p⟩
 obtain⟨q1,q2⟩:=hl i H p
 by_cases iP:i<n
 ·refine .inr ⟨⟨xs,ys,xs[i],ys[i],q1,q2,ay (by omega),ay (by omega)⟩,Pv (i+1),λU p'=>⟨n-(i+1),by omega,rfl,iP,p'⟩,λx U y=>?_⟩
  obtain⟨T,u,v,rfl,hT,rfl,y1,y2⟩:=y
  exact hs i u v H T (y1 _ q1) (y2 _ q2) p hT
 ·have e:i=n:=by omega
  subst e
  exact .inl ⟨⟨xs,ys,q1,q2,.inl (by omega)⟩,hd H p⟩
theorem Vt{d:Addr}{o:Obj}{kvs:List (List Key×V)}{g:TG}{tt:TT}{te:TE}{vs:List Nat}{σ:St}{H1:Hp}{D:Addr}{Qd:Hp->Prop}(Pv:Nat->Hp->Prop)(h0:Pv 0 (upd H1 D (.lst [])))(hl:∀i H,i<=kvs.length->Pv i H->H d=some (.iF o (.dT kvs)))
 (hs:∀i k v H q,kvs[i]? =some (k,v)->Pv i H->H q=some (.tup (k.map kV))->g (.ref q) (wipe σ vs) H λiA H2=>wipe iA vs=wipe σ vs/\tt iA H2 λb H3=>
  if b=true then te iA H3 λy H4=>∃acc,H4 D=some (.lst acc)/\acc.length<sizeLine/\Pv (i+1) (upd H4 D (.lst (acc++[y]))) else Pv (i+1) H3) (hd:∀H,Pv kvs.length H->Qd H):
 ∃
  W:Nat->Nat->Hp->Prop,(∃m,W 0 m (upd H1 D (.lst [])))/\∀i m H,W i m H->
  ((
   qM d o kvs).stop i H/\Qd H)\/((qM d o kvs).go i H/\∃Nx:Hp->Prop,(∀U,Nx U->∃m',m'<m/\W (i+1) m' U)/\∀x U,(qM d o kvs).l9 i H x U->g x (wipe σ vs) U λiA H2=>wipe iA vs=wipe σ vs/\tt iA H2 λb H3=>
   if b=true then te iA H3 λy H4=>∃acc,H4 D=some (.lst acc)/\acc.length<sizeLine/\Nx (upd H4 D (.lst (acc++[y]))) else Nx H3):=by
 refine⟨λi m H=>m=kvs.length-i/\i<=kvs.length/\Pv i H,⟨kvs.length,by simp,aU _,h0⟩,?_⟩
 rintro i m H ⟨rfl,hi,p⟩
 have q:=hl i H hi p
 by_cases iP:i<kvs.length
 ·refine .inr ⟨⟨q,iP⟩,Pv (i+1),λU p'=>⟨kvs.length-(i+1),by omega,rfl,iP,p'⟩,λx U y=>?_⟩
  obtain⟨rfl,k,v,r,e1,rfl,e2⟩:=y
  exact hs i k v _ r e1 p e2
 ·have e:i=kvs.length:=by omega
  subst e
  exact .inl ⟨⟨q,ax _⟩,hd H p⟩
theorem Ex{d:Addr}{o:Obj}{kvs:List (List Key×V)}{g:TG}{tb:TS}{D:Ends}{σ:St}{H:Hp}(Pv:Nat->St->Hp->Prop)(h0:Pv 0 σ H)(hl:∀i σ H,i<=kvs.length->Pv i σ H->H d=some (.iF o (.dT kvs)))
 (hs:∀i k v σ H q,kvs[i]? =some (k,v)->Pv i σ H->H q=some (.tup (k.map kV))->g (.ref q) σ H λiA H2=>tb {D with nx:=Pv (i+1),ct:=Pv (i+1),bk:=D.nx} iA H2) (hd:∀σ H,Pv kvs.length σ H->D.nx σ H):
 ∃
  W:Nat->Nat->St->Hp->Prop,(∃m,W 0 m σ H)/\∀i m σ H,W i m σ H->
  ((qM d o kvs).stop i H/\D.nx σ H)\/((qM d o kvs).go i H/\∃N:St->Hp->Prop,(∀ik U,N ik U->∃m',m'<m/\W (i+1) m' ik U)/\∀x U,(qM d o kvs).l9 i H x U->g x σ U λiA H2=>tb {D with nx:=N,ct:=N,bk:=D.nx} iA H2):=by
 refine⟨λi m σ H=>m=kvs.length-i/\i<=kvs.length/\Pv i σ H,⟨kvs.length,by simp,aU _,h0⟩,?_⟩
 rintro i m σ H ⟨rfl,hi,p⟩
 have q:=hl i σ H hi p
 by_cases iP:i<kvs.length
 ·refine .inr ⟨⟨q,iP⟩,Pv (i+1),λik U p'=>⟨kvs.length-(i+1),by omega,rfl,iP,p'⟩,λx U y=>?_⟩
  obtain⟨rfl,k,v,r,e1,rfl,e2⟩:=y
  exact hs i k v σ _ r e1 p e2
 ·have e:i=kvs.length:=by omega
  subst e
  exact .inl ⟨⟨q,ax _⟩,hd σ H p⟩
noncomputable abbrev K3:=Int×Int×List Int
section
variable{prog:Program}{w:World}
noncomputable def lN(prog:Program)(w:World)(h:Heap)(k:K3)(a:Addr):Prop:=
 ∃(o:Obj) (n:Nat) (t u:Tok) (q:Addr),h.get? a=some o/\o.cls= .type "tuple"/\o.data= .seq #[.int k.1 t,.int k.2.1 u,.ref q] n/\IsTupleKey (i4 prog w) h (k.2.2.map Sum.inl) q
theorem lN.ty{s:Shared}{k:K3}{a:Addr}(x:lN prog w s.heap k a):s.TypeIs (.ref a) "tuple":=let ⟨o,_,_,_,_,ho,hc,_⟩:=x;⟨o,ho,hc⟩
noncomputable def EU(prog:Program)(w:World)(k:K3):Int:=reduceHash (Builtin.Tuple.tupleHashOf [(i4 prog w).hash (Sum.inl k.1),(i4 prog w).hash (Sum.inl k.2.1),tupleKeyHash (i4 prog w) (k.2.2.map Sum.inl)])
theorem BW:∀{x y:List Int},x.map (Sum.inl (β:=Str))=y.map Sum.inl->x=y
 | [],[],_=>rfl
 | [],_::_,h=>by simp at h
 | _::_,[],h=>by simp at h
 | a::x,b::y,h=>by
  simp only[aO,fk,Sum.inl.injEq]at h
  rw[h.1,BW h.2]
theorem lN.inj{h:Heap}{a:Addr}{x y:K3}(hx:lN prog w h x a)(hy:lN prog w h y a):x=y:=by
 obtain⟨o,n,t,u,q,h1,h2,h3,h4⟩:=hx
 obtain⟨o',n',t',u',q',g1,g2,g3,g4⟩:=hy
 rw[h1]at g1
 have e:=ae g1
 subst e
 rw[h3]at g3
 injection g3 with e1 e2
 have e1:=cB Array.toList e1
 simp only[fk,Value.int.injEq,Value.ref.injEq]at e1
 obtain⟨⟨a1,_⟩,⟨a2,_⟩,a3,_⟩:=e1
 subst a3
 have a4:=BW (h4.inj g4)
 exact Prod.ext a1 (Prod.ext a2 a4)
theorem lN.keeps{h h':Heap}{k:K3}{a d:Addr}{o:Obj}{es ep}(x:lN prog w h k a)(ho:h.get? d=some o)(hd:o.data= .dict es ep)(hs:Heap.SameBut d h h'):lN prog w h' k a:=by
 obtain⟨o',n,t,u,q,h1,h2,h3,h4⟩:=x
 have ne:a≠d:=by
  rintro rfl
  rw[h1]at ho
  have e:=ae ho
  subst e
  rw[h3]at hd
  cases hd
 exact⟨o',n,t,u,q,(hs.2 a ne).trans h1,h2,h3,h4.keeps ho hd hs⟩
variable{A:Around}{E:Value->Shared->Prop}{s:Shared}
theorem Sh{k:K3}{a:Addr}{Q:Int->Shared->Prop}(hu:A.units+1<cLine)(hk:lN prog w s.heap k a)(h:Q (EU prog w k) {s with toks:=s.toks+(k.2.2.length+4)}):
 wpAny (model prog w) A (pyHash (.ref a)) Q E s:=by
 have ty:=hk.ty
 obtain⟨o,n,t,u,q,h1,h2,h3,h4⟩:=hk
 unfold pyHash
 first | unfold pyHashByItsType | skip
 first | (refine aa (wpAny_cRoomFor_or (.inr (by omega)) ?_)) | skip
 refine aa (fj ty fM.lookup ?_)
 show wpAny _ _ (if (some (Value.builtin "tuple.__hash__") == some Value.none)=true then _ else _) _ _ _
 rw[aq (show ¬(some (Value.builtin "tuple.__hash__") == some Value.none)=true by rw[beq_builtin_none];exact ao)]
 refine aa (fj ty fM.lookup ?_)
 show wpAny _ _ (callSpecialIfBoundUnlessNone? (.ref a) "__hash__" _ >>=_) _ _ _
 refine aa (wpAny_callSpecialIfBoundUnlessNone?_slot ty fM (bo fM ty F.entry_tuple_hash ?_ (F.args_tuple_hash_1 _)))
 show wpAny _ _ (Builtin.Tuple.tupleItemsOf (.ref a) >>=_) _ _ _
 refine aa (gx h1 h3 (aa ?_))
 rw[<-gy]
 let H1:=(i4 prog w).hash (Sum.inl k.1)
 let H2:=(i4 prog w).hash (Sum.inl k.2.1)
 let H3:=tupleKeyHash (i4 prog w) (k.2.2.map Sum.inl)
 refine fX _ (λrest (b:Array Int) s'=>(rest=[.int k.1 t,.int k.2.1 u,.ref q]/\b.toList=[]/\s'=s)\/(rest=[.int k.2.1 u,.ref q]/\b.toList=[H1]/\s'={s with toks:=s.toks+1})\/
  (rest=[.ref q]/\b.toList=[H1,H2]/\s'={s with toks:=s.toks+2})\/(rest=[]/\b.toList=[H1,H2,H3]/\s'={s with toks:=s.toks+(k.2.2.length+3)})) _ ?_ ?_ _ _ (.inl ⟨rfl,rfl,rfl⟩)
 ·rintro x rest b s' (⟨e,hb,rfl⟩ | ⟨e,hb,rfl⟩ | ⟨e,hb,rfl⟩ | ⟨e,_⟩)
  ·injection e with e1 e2
   subst e1 e2
   refine aa ((i4 prog w).pyHash (k:=Sum.inl k.1) (show mU (Sum.inl k.1) (.int k.1 t)=true from bY _) ?_)
   first
    | exact af (.inr (.inl ⟨rfl,by simp[hb,H1],rfl⟩))
    | exact aa (af (af (.inr (.inl ⟨rfl,by simp[hb,H1],rfl⟩))))
  ·injection e with e1 e2
   subst e1 e2
   refine aa ((i4 prog w).pyHash (k:=Sum.inl k.2.1) (show mU (Sum.inl k.2.1) (.int k.2.1 u)=true from bY _) ?_)
   first
    | exact af (.inr (.inr (.inl ⟨rfl,by simp[hb,H2],rfl⟩)))
    | exact aa (af (af (.inr (.inr (.inl ⟨rfl,by simp[hb,H2],rfl⟩)))))
  ·injection e with e1 e2
   subst e1 e2
   refine aa (wpAny_pyHash_tuple (ks:=k.2.2.map Sum.inl) (by first | exact hu | (show A.units+1<cLine;exact hu) | omega) h4 ?_)
   have el:s.toks+2+((k.2.2.map (Sum.inl (β:=Str))).length+1)=s.toks+(k.2.2.length+3):=by rw[ab];omega
   first
    | exact af (.inr (.inr (.inr ⟨rfl,by simp[hb,H3],by rw[<-el]⟩)))
    | exact aa (af (af (.inr (.inr (.inr ⟨rfl,by simp[hb,H3],by rw[<-el]⟩)))))
  ·cases e
 ·rintro b s' (⟨e,_⟩ | ⟨e,_⟩ | ⟨e,_⟩ | ⟨_,hb,rfl⟩)
  ·cases e
  ·cases e
  ·cases e
  ·show wpAny _ _ (retInt (Builtin.Tuple.tupleHashOf b.toList)) _ _ _
   rw[hb]
   refine wpAny_ret_mkInt ?_
   have h:Q (reduceHash (Builtin.Tuple.tupleHashOf [H1,H2,H3])) {s with toks:=s.toks+(k.2.2.length+3)+1}:=h
   show wpAny _ _ (if (decide (-(2:Int)^63<=Builtin.Tuple.tupleHashOf [H1,H2,H3])&&decide (Builtin.Tuple.tupleHashOf [H1,H2,H3]<2^63))=true then _ else _) _ _ _
   unfold reduceHash at h
   by_cases c:(decide (-(2:Int)^63<=Builtin.Tuple.tupleHashOf [H1,H2,H3])&&decide (Builtin.Tuple.tupleHashOf [H1,H2,H3]<2^63))=true
   ·rw[aE c]at h ⊢;exact af h
   ·rw[aq c]at h ⊢;exact aa (fo (af h))
end
section
variable{prog:Program}{w:World}{A:Around}{E:Value->Shared->Prop}{s:Shared}
theorem Qg(x y:K3):decide (x=y)=(decide (Sum.inl (β:=Str) x.1=Sum.inl y.1)&&(decide (Sum.inl (β:=Str) x.2.1=Sum.inl y.2.1)&&decide (x.2.2.map (Sum.inl (β:=Str))=y.2.2.map Sum.inl))):=by
 rw[aH,aZ,aZ,ak,ak,ak,ak,Sum.inl.injEq,Sum.inl.injEq]
 constructor
 ·rintro rfl;exact⟨rfl,rfl,rfl⟩
 ·rintro⟨a,b,c⟩;exact Prod.ext a (Prod.ext b (BW c))
theorem QZ{x y:K3}{a b:Addr}{R:Fin->Shared->Prop}(hu:A.units<cLine)(hx:lN prog w s.heap x a)(hy:lN prog w s.heap y b)(h:R (.done (.ret (.bool (decide (x=y))))) s):
 wpAny (model prog w) A (Builtin.«tuple.__eq__» ⟨[.ref a,.ref b],[]⟩) R E s:=by
 have tyb:=hy.ty
 obtain⟨o,n,t,u,q,h1,h2,h3,h4⟩:=hx
 obtain⟨o',n',t',u',q',g1,g2,g3,g4⟩:=hy
 rw[Qg]at h
 have k1:mU (Sum.inl x.1) (.int x.1 t)=true:=bY _
 have k2:mU (Sum.inl y.1) (.int y.1 t')=true:=bY _
 have k3:mU (Sum.inl x.2.1) (.int x.2.1 u)=true:=bY _
 have k4:mU (Sum.inl y.2.1) (.int y.2.1 u')=true:=bY _
 show wpAny _ _ (isInstance (.ref b) (.type "tuple") >>=_) _ _ _
 refine aa (dc tyb fT ?_)
 simp only[cf,aK,bq]
 refine aa (gx h1 h3 (aa (gx g1 g3 (aa ?_))))
 let B1:=decide (Sum.inl (β:=Str) x.1=Sum.inl y.1)
 let B2:=decide (Sum.inl (β:=Str) x.2.1=Sum.inl y.2.1)
 let B3:=decide (x.2.2.map (Sum.inl (β:=Str))=y.2.2.map Sum.inl)
 refine fX _ (λrest r s'=>r.1=none/\s'=s/\((rest=[(.int x.1 t,.int y.1 t'),(.int x.2.1 u,.int y.2.1 u'),(.ref q,.ref q')])\/(rest=[(.int x.2.1 u,.int y.2.1 u'),(.ref q,.ref q')]/\B1=true)\/
  (rest=[(.ref q,.ref q')]/\B1=true/\B2=true)\/(rest=[]/\B1=true/\B2=true/\B3=true))) _ ?_ ?_ _ _ ⟨rfl,rfl,.inl rfl⟩
 ·rintro⟨c,e⟩ rest r s' ⟨hr,rfl,(e1 | ⟨e1,b1⟩ | ⟨e1,b1,b2⟩ | ⟨e1,_⟩)⟩
  ·injection e1 with e1 e2
   injection e1 with e3 e4
   subst e2 e3 e4
   refine aa ((i4 prog w).eqBool (a:=Sum.inl x.1) (b:=Sum.inl y.1) k1 k2 ?_)
   cases hb:B1 with
   | true=>
    rw[show decide (Sum.inl (β:=Str) x.1=Sum.inl y.1)=true from hb]
    simp only[cf,aK,bq]
    exact af ⟨(by first | rfl | trivial),(by first | rfl | trivial),.inr (.inl ⟨(by first | rfl | trivial),(by first | rfl | trivial)⟩)⟩
   | false=>
    rw[show decide (Sum.inl (β:=Str) x.1=Sum.inl y.1)=false from hb]at h ⊢
    simp only[gv,dQ]
    rw[fC]at h
    exact aa (af (af (af h)))
  ·injection e1 with e1 e2
   injection e1 with e3 e4
   subst e2 e3 e4
   refine aa ((i4 prog w).eqBool (a:=Sum.inl x.2.1) (b:=Sum.inl y.2.1) k3 k4 ?_)
   rw[show decide (Sum.inl (β:=Str) x.1=Sum.inl y.1)=true from b1,eI]at h
   cases hb:B2 with
   | true=>
    rw[show decide (Sum.inl (β:=Str) x.2.1=Sum.inl y.2.1)=true from hb]
    simp only[cf,aK,bq]
    exact af ⟨(by first | rfl | trivial),(by first | rfl | trivial),.inr (.inr (.inl ⟨(by first | rfl | trivial),b1,(by first | rfl | trivial)⟩))⟩
   | false=>
    rw[show decide (Sum.inl (β:=Str) x.2.1=Sum.inl y.2.1)=false from hb]at h ⊢
    simp only[gv,dQ]
    rw[fC]at h
    exact aa (af (af (af h)))
  ·injection e1 with e1 e2
   injection e1 with e3 e4
   subst e2 e3 e4
   refine aa (wpAny_eqBool_tuple (x:=x.2.2.map Sum.inl) (y:=y.2.2.map Sum.inl) hu h4 g4 ?_)
   rw[show decide (Sum.inl (β:=Str) x.1=Sum.inl y.1)=true from b1,eI,show decide (Sum.inl (β:=Str) x.2.1=Sum.inl y.2.1)=true from b2,eI]at h
   cases hb:B3 with
   | true=>
    rw[show decide (x.2.2.map (Sum.inl (β:=Str))=y.2.2.map Sum.inl)=true from hb]
    simp only[cf,aK,bq]
    exact af ⟨(by first | rfl | trivial),(by first | rfl | trivial),.inr (.inr (.inr ⟨(by first | rfl | trivial),b1,b2,(by first | rfl | trivial)⟩))⟩
   | false=>
    rw[show decide (x.2.2.map (Sum.inl (β:=Str))=y.2.2.map Sum.inl)=false from hb]at h ⊢
    simp only[gv,dQ]
    exact aa (af (af (af h)))
  ·cases e1
 ·rintro⟨r1,r2⟩ s' ⟨hr,rfl,(e1 | ⟨e1,_⟩ | ⟨e1,_⟩ | ⟨_,b1,b2,b3⟩)⟩
  ·cases e1
  ·cases e1
  ·cases e1
  ·simp only at hr
   subst hr
   refine af ?_
   rw[show decide (Sum.inl (β:=Str) x.1=Sum.inl y.1)=true from b1,show decide (Sum.inl (β:=Str) x.2.1=Sum.inl y.2.1)=true from b2,show decide (x.2.2.map (Sum.inl (β:=Str))=y.2.2.map Sum.inl)=true from b3]at h
   exact h
theorem QY{x y:K3}{a b:Addr}{Q:Bool->Shared->Prop}(hu:A.units+1<cLine)(hx:lN prog w s.heap x a)(hy:lN prog w s.heap y b)(h:Q (decide (x=y)) s):
 wpAny (model prog w) A (eqBool (.ref a) (.ref b)) Q E s:=by
 unfold eqBool
 try (with_reducible refine cQ ?_)
 show wpAny _ _ (if (Value.ref a == Value.ref b)=true then _ else _) _ _ _
 by_cases c:(Value.ref a == Value.ref b)=true
 ·rw[aE c]
  have e:a=b:=by have:=gN c;injection this
  subst e
  have e2:=hx.inj hy
  subst e2
  rw[ah rfl]at h
  exact aa (fo (af h))
 ·rw[aq c]
  exact aa (wpAny_richCompare_same_room (op:=.Eq) hx.ty hy.ty gi
   (bo gi hx.ty F.entry_tuple_eq (QZ (by first | exact hu | omega) hx hy ⟨_,rfl,(λe=>nomatch e),cK h⟩) (F.args_tuple_eq_2 _ _)) (by omega))
theorem Z7{ks:List Key}{n:Nat}{a:Addr}{Q:Bool->Shared->Prop}(hk:IsTupleKey (i4 prog w) s.heap ks a)(h:Q true s):wpAny (model prog w) A (eqIsQuiet (n+1) (.ref a)) Q E s:=by
 have ty:=hk.typeIs
 obtain⟨o,items,m,ho,_,hd,hi⟩:=hk
 unfold eqIsQuiet
 refine aa (fj ty gi.lookup ?_)
 show wpAny _ _ (isInstance (.ref a) (.type "tuple") >>=_) _ _ _
 refine aa (dc ty fT ?_)
 simp only[cf,aK,bq]
 refine aa (cD ho hd (aa ?_))
 show wpAny _ _ (forIn items _ _) _ _ _
 rw[<-gy]
 refine fX _ (λrest r s'=>(∀v∈rest,carriedByValue v=true)/\r.1=none/\s'=s) _ ?_ ?_ _ _ ⟨hi.byValue,rfl,rfl⟩
 ·rintro v rest r s' ⟨jq,hr,rfl⟩
  rw[eqIsQuiet_byValue _ (jq v aD)]
  refine aa (af ?_)
  simp only[cf,aK,bq]
  exact af ⟨λu hu=>jq u (aw _ hu),rfl,rfl⟩
 ·rintro⟨r1,r2⟩ s' ⟨_,hr,rfl⟩
  simp only at hr
  subst hr
  exact af h
theorem Z8{k:K3}{a:Addr}{Q:Bool->Shared->Prop}(hk:lN prog w s.heap k a)(h:Q true s):wpAny (model prog w) A (eqIsQuiet 8 (.ref a)) Q E s:=by
 have ty:=hk.ty
 obtain⟨o,n,t,u,q,h1,h2,h3,h4⟩:=hk
 unfold eqIsQuiet
 refine aa (fj ty gi.lookup ?_)
 show wpAny _ _ (isInstance (.ref a) (.type "tuple") >>=_) _ _ _
 refine aa (dc ty fT ?_)
 simp only[cf,aK,bq]
 refine aa (cD h1 h3 (aa ?_))
 show wpAny _ _ (forIn (#[.int k.1 t,.int k.2.1 u,.ref q]:Array Value) _ _) _ _ _
 rw[<-gy]
 refine fX _ (λrest r s'=>(∀v∈rest,carriedByValue v=true\/v= .ref q)/\r.1=none/\s'=s) _ ?_ ?_ _ _ ⟨λv hv=>?_,rfl,rfl⟩
 ·rintro v rest r s' ⟨jq,hr,rfl⟩
  rcases jq v aD with hv | hv
  ·rw[eqIsQuiet_byValue _ hv]
   refine aa (af ?_)
   simp only[cf,aK,bq]
   exact af ⟨λu hu=>jq u (aw _ hu),rfl,rfl⟩
  ·subst hv
   refine aa (Z7 (n:=6) h4 ?_)
   simp only[cf,aK,bq]
   exact af ⟨λu hu=>jq u (aw _ hu),rfl,rfl⟩
 ·rintro⟨r1,r2⟩ s' ⟨_,hr,rfl⟩
  simp only at hr
  subst hr
  exact af h
 ·have hv:v= .int k.1 t\/v= .int k.2.1 u\/v= .ref q:=by simpa using hv
  rcases hv with rfl | rfl | rfl
  ·exact .inl rfl
  ·exact .inl rfl
  ·exact .inr rfl
noncomputable def xa(prog:Program)(w:World):HeapKind prog w K3 where
 is:=lN prog w
 hash:=EU prog w
 draws:=λk=>k.2.2.length+4
 room:=λA=>A.units+1<cLine
 inj:=λhx hy=>hx.inj hy
 keeps:=λx ho hd hs=>x.keeps ho hd hs
 pyHash:=λhu hk h=>Sh hu hk h
 eqBool:=λhu hx hy h=>QY hu hx hy h
 quiet:=λhk h=>Z8 hk h
end
section
variable{prog:Program}{w:World}{K:Type}[DecidableEq K]{knd:HeapKind prog w K}{A:Around}{E:Value->Shared->Prop}{s:Shared}
theorem aa6{d a:Addr}{xs:List (K×Addr×Value)}{k:K}{v:Value}{Q:Value->Shared->Prop}(hu:knd.room A)(lW:knd.is s.heap k a)(hm:s.heap.DictOfH knd d xs)(hsz:xs.length<=sizeLine)
 (h1:∀p,atKey xs k=some p->Q p.2 {s with toks:=s.toks+knd.draws k})
 (h2:atKey xs k=none->∀h',h'.DictOfH knd d (xs++[(k,a,v)])->Heap.SameBut d s.heap h'->Q v {s with heap:=h',toks:=s.toks+knd.draws k}):
 wpAny (model prog w) A (dictSetDefault d (.ref a) v) Q E s:=by
 obtain⟨o,es,ep,ho,hc,hd,he,E_,hn⟩:=hm
 unfold dictSetDefault
 try (with_reducible refine cQ ?_)
 refine aa (knd.pyHash hu lW (aa (wpAny_dictFind_heap (s:={s with toks:=s.toks+knd.draws k}) hu lW ho hd he E_ hn (λrf=>?_) (λj p hj=>?_))))
 ·have Tv:k∉xs.map (·.1):=not_mem_keys_of_get rf
  refine aa (fo (aa (wpAny_updateDictKeys (hz:=by have e:=eF he;omega) (s:={s with toks:=s.toks+knd.draws k}) ho hd (af (h2 (atKey_none_of_get rf) _ ⟨_,_,ep+1,dR _ ho (Obj.isFreed_of_dict (e8 hd _)),hc.mapDictKeys _,e8 hd _,?_,λx hx=>?_,?_⟩ (bJ ..))))))
  ·rw[Array.toList_push,he,au];rfl
  ·rcases bg.mp hx with hx | hx
   ·exact knd.keeps (E_ x hx) ho hd (bJ ..)
   ·rw[bA.mp hx]
    exact knd.keeps lW ho hd (bJ ..)
  ·rw[au,gA]
   refine⟨hn,by simp,λx hx y hy=>?_⟩
   have e:y=k:=by simpa using hy
   rw[e]
   exact λz=>Tv (z▸hx)
 ·refine aa (bO (s:={s with toks:=s.toks+knd.draws k}) ho hd ?_)
  rw[entry_at he j,hj]
  exact aa (fo (af (h1 p (atKey_of_get hn hj))))
theorem VS(knd:HeapKind prog w K)(d a:Addr)(v:Value)(hd:(d == sysModules)=false):
 MeetsIn prog w (Builtin.«dict.setdefault» ⟨[.ref d,.ref a,v],[]⟩) (λA R s=>knd.room A.in1/\∃k xs,knd.is s.heap k a/\s.heap.DictOfH knd d xs/\xs.length<=sizeLine/\
  (∀p,atKey xs k=some p->R (.ok (.ret p.2)) {s with toks:=s.toks+knd.draws k})/\
  (atKey xs k=none->∀h',h'.DictOfH knd d (xs++[(k,a,v)])->Heap.SameBut d s.heap h'->R (.ok (.ret v)) {s with heap:=h',toks:=s.toks+knd.draws k})):=
 .of_wp λA R s ⟨hu,k,xs,lW,hm,hz,h1,h2⟩=>by
  unfold Builtin.«dict.setdefault»
  refine aa ?_
  unfold Builtin.Dict.keyAndDefault
  refine aa (cY hm.typeIs ?_)
  show wpAny _ _ (pure (d,Value.ref a,some v)) _ _ _
  refine af ?_
  show wpAny _ _ (if (d == sysModules)=true then _ else (dictSetDefault d (.ref a) v >>=_)) _ _ _
  rw[aq (show ¬(d == sysModules)=true by rw[hd];exact ao)]
  exact aa (aa6 hu lW hm hz (λp hp=>af ⟨_,rfl,h1 p hp⟩) λhn h' Tf BF=>af ⟨_,rfl,h2 hn h' Tf BF⟩)
end
noncomputable abbrev L3:=List (K3×Addr×Int)
noncomputable def r_(x:K3×Addr×Int)(y:K3×Addr×Value):Prop:=x.1=y.1/\x.2.1=y.2.1/\∃t,y.2.2= .int x.2.2 t
noncomputable def xP(P:Program)(w:World)(d:Addr)(xs:L3)(h:Heap):Prop:=(d == sysModules)=false/\xs.length<=100/\∃(ys:List (K3×Addr×Value)) (o:Obj) (es:Array DictEntry) (ep:Nat),Paired r_ xs ys/\h.get? d=some o/\o.ExactDict/\o.data= .dict es ep/\es.toList=ys.map (entryOfKey (xa P w))/\(ys.map (·.1)).Nodup
noncomputable def D3(P:Program)(w:World)(d:Addr)(xs:L3):HO:=.ext (xP P w d xs)
theorem Ql{P:Program}{w:World}{d:Addr}{xs:L3}(h1 h2:Heap)(x:xP P w d xs h1)(k:∀o,h1.get? d=some o->h2.get? d=some o):xP P w d xs h2:=by
 obtain⟨a,b,ys,o,es,ep,c,e,r⟩:=x
 exact⟨a,b,ys,o,es,ep,c,k _ e,r⟩
theorem Hd{P:Program}{w:World}{H:Hp}{d:Addr}{xs:L3}{h:Heap}(x:xP P w d xs h):jl P w H h d (D3 P w d xs):=by
 have x':=x
 obtain⟨_,_,ys,o,_,_,_,e,_⟩:=x
 exact⟨x',⟨o,e⟩,λh1 h2 y k=>Ql h1 h2 y k⟩
noncomputable def ko(H:Hp)(p:Addr)(k:K3):Prop:=∃q,H p=some (.tup [.int k.1,.int k.2.1,.ref q])/\H q=some (.tup (k.2.2.map V.int))
theorem ko.same{H U:Hp}{p:Addr}{k:K3}(h:ko H p k)(s:c_ H U):ko U p k:=by
 obtain⟨q,h1,h2⟩:=h
 exact⟨q,s _ _ h1,s _ _ h2⟩
noncomputable def l_(P:Program)(w:World)(H:Hp)(d:Addr)(xs:L3):Prop:=H d=some (D3 P w d xs)/\∀x∈xs,ko H x.2.1 x.1
theorem l_.same{P:Program}{w:World}{H U:Hp}{d:Addr}{xs:L3}(h:l_ P w H d xs)(s:c_ H U):l_ P w U d xs:=⟨s _ _ h.1,λx hx=>(h.2 x hx).same s⟩
noncomputable def mZ(xs:L3)(k:K3):Option Int:=(xs.find? λx=>decide (x.1=k)).map λx=>x.2.2
theorem za{P:Program}{w:World}{H:Hp}{h:Heap}{p:Addr}{k:K3}(ok:jg P w H h)(e:ko H p k):lN P w h k p:=by
 obtain⟨q,e1,e2⟩:=e
 obtain⟨_,g_,r,o,h1,h2,n,h3⟩:=(show jl P w H h p (.tup [.int k.1,.int k.2.1,.ref q]) from ok p _ e1)
 have hq:(tupleKind (i4 P w)).is h (k.2.2.map Sum.inl) q:=pH ok (by rw[bu];exact e2)
 cases r with
 | cons r1 r=>
  cases r with
  | cons r2 r=>
   cases r with
   | cons r3 r=>
    cases r
    obtain⟨t,rfl⟩:=r1
    obtain⟨u,rfl⟩:=r2
    cases r3
    exact⟨o,n,t,u,q,h1,h2,h3,hq⟩
theorem zJ:∀{xs:L3} {ys:List (K3×Addr×Value)},Paired r_ xs ys->∀k,lh ((mZ xs k).map V.int) ((atKey ys k).map (·.2))
 | _,_,.nil,k=>True.intro
 | _,_,.cons (a:=x) (b:=y) (l₁:=xs) (l₂:=ys) r t,k=>by
  obtain⟨e1,e2,tt,e3⟩:=r
  unfold mZ atKey
  rw[a8,a8,<-e1]
  by_cases c:x.1=k
  ·rw[ah c]
   show lh (some (V.int x.2.2)) (some y.2.2)
   exact⟨tt,e3⟩
  ·rw[az c]
   exact zJ t k
section
variable{X:Cx}{pins:List (Addr×Obj)}{σ:St}{H:Hp}{s:Shared}
theorem x9{d:Addr}{xs:L3}(I:Inv X pins σ H s)(e:l_ X.prog X.w H d xs):(d == sysModules)=false/\xs.length<=100/\∃ys,Paired r_ xs ys/\s.heap.DictOfH (xa X.prog X.w) d ys:=by
 obtain⟨e1,e2⟩:=e
 obtain⟨⟨a,b,ys,o,es,ep,pr,h1,h2,h3,h4,h5⟩,_⟩:=(show jl X.prog X.w H s.heap d (D3 X.prog X.w d xs) from I.h_ d _ e1)
 refine⟨a,b,ys,pr,o,es,ep,h1,h2,h3,h4,λy hy=>?_,h5⟩
 have:∀{xs:L3} {ys:List (K3×Addr×Value)},Paired r_ xs ys->(∀x∈xs,ko H x.2.1 x.1)->∀y∈ys,lN X.prog X.w s.heap y.1 y.2.1:=by
  intro xs ys pr
  induction pr with
  | nil=>intro _ y hy;cases hy
  | cons r t ih=>
   intro hx y hy
   rcases aM.mp hy with e | hy
   ·rw[e,<-r.1,<-r.2.1];exact za I.h_ (hx _ aD)
   ·exact ih (λx h=>hx x (aw _ h)) y hy
 exact this pr e2 y hy
end
noncomputable def abG(P:Program)(w:World):TE:=λ_ H Q=>∀p,H p=none->Q (.ref p) (upd H p (D3 P w p []))
noncomputable def abA(P:Program)(w:World)(ty td:TE):TE:=λσ H Q=>ty σ H λy H1=>td σ H1 λx H2=>∃a b k xs,x= .ref a/\y= .ref b/\l_ P w H2 a xs/\ko H2 b k/\Q (.bl (mZ xs k).isSome) H2
noncomputable def abz(P:Program)(w:World)(td ty:TE):TE:=λσ H Q=>td σ H λx H1=>ty σ H1 λy H2=>∃a b k xs z,x= .ref a/\y= .ref b/\l_ P w H2 a xs/\ko H2 b k/\mZ xs k=some z/\Q (.int z) H2
noncomputable def abL(P:Program)(w:World)(td ty tx:TE):TE:=λσ H Q=>td σ H λx H1=>∃a xs,x= .ref a/\l_ P w H1 a xs/\ty σ H1 λy H2=>tx σ H2 λz H3=>∃b k xs i,y= .ref b/\z= .int i/\l_ P w H3 a xs/\ko H3 b k/\xs.length<100/\
 (∀j,mZ xs k=some j->Q (.int j) H3)/\(mZ xs k=none->Q (.int i) (upd H3 a (D3 P w a (xs++[(k,b,i)]))))
section
variable{X:Cx}{o e f i:Expr}{apos jm pos:Pos}{td ty tx:TE}
theorem Yc:PE X (.Dict [] [] pos) (abG X.prog X.w):=λpins s σ H Q I h=>
 wpAny_Dict_empty ⟨.ref s.heap.objs.size,_,I.laid (a:=s.heap.objs.size) (o:=D3 X.prog X.w s.heap.objs.size []) (t':=s.toks) (λ_ _ q=>ag _ q) (ax _)
  (Hd ⟨bX.mpr (cJ (a9 I.yb)),aU _,[],_,#[],0,.nil,aC _ rfl,⟨rfl,rfl,rfl⟩,rfl,rfl,gu⟩),rfl,h _ (I.h_.fresh (ax _))⟩
theorem HK(hu:X.A.units+64<cLine)(hi:PE X i ty)(ho:PE X o td):PC X .In i o (abA X.prog X.w ty td):=by
 intro pins s σ H Q I h
 refine ir (hi pins s σ H _ I h) λiv s1 ⟨y,H1,I1,ry,q1⟩=>ir (ho pins s1 σ H1 _ I1 q1) λu s2 ⟨x,H2,I2,rx,a,b,k,xs,ex,ey,g,gk,q2⟩=>?_
 subst ex ey
 obtain rfl:u=Value.ref a:=rx
 obtain rfl:iv=Value.ref b:=ry
 obtain⟨hd,_,ys,pr,dd⟩:=x9 I2 g
 refine wpAny_in_heap (knd:=xa X.prog X.w) (show X.A.units+1+1<cLine by omega) (za I2.h_ gk) hd dd ?_
 have q:=(zJ pr k).uC
 rw[eO,eO]at q
 rw[<-q]
 exact⟨.bl _,H2,I2.tok _,rfl,q2⟩
theorem HP(hu:X.A.units+64<cLine)(ho:PE X o td)(hi:PE X i ty)(hs:Ah i):PE X (.Subscript o i pos) (abz X.prog X.w td ty):=by
 intro pins s σ H Q I h
 refine Mo PySem.F.slot_dict_getitem.lookup hs (ir (ho pins s σ H _ I h) λu s1 ⟨x,H1,I1,rx,q1⟩=>ir (hi pins s1 σ H1 _ I1 q1) λiv s2 ⟨y,H2,I2,ry,a,b,k,xs,z,ex,ey,g,gk,hz,q2⟩=>?_)
 subst ex ey
 obtain rfl:u=Value.ref a:=rx
 obtain rfl:iv=Value.ref b:=ry
 obtain⟨hd,_,ys,pr,dd⟩:=x9 I2 g
 have q:=zJ pr k
 rw[hz]at q
 obtain⟨w',hw,nJ⟩:=lh.some_of (v:=V.int z) (o:=Option.map (λp:Addr×Value=>p.2) (atKey ys k)) q
 obtain⟨p,hp,jA⟩:=fD.mp hw
 refine⟨dd.typeIs,wpAny_getItem_heap (knd:=xa X.prog X.w) (show X.A.units+1+1<cLine by omega) (za I2.h_ gk) dd hp ?_⟩
 rw[jA]
 exact⟨.int z,H2,I2.tok _,nJ,q2⟩
theorem Yw{xs:L3}{ys:List (K3×Addr×Value)}(pr:Paired r_ xs ys){x:K3×Addr×Int}{y:K3×Addr×Value}(r:r_ x y):Paired r_ (xs++[x]) (ys++[y]):=by
 induction pr with
 | nil=>exact .cons r .nil
 | cons h t ih=>exact .cons h ih
theorem Yj(hu:X.A.units+64<cLine)(ho:PE X o td)(he:PE X e ty)(hf:PE X f tx)(m:M2 X o "setdefault" apos e f jm):PE X (.Call (.Attribute o "setdefault" apos) [e,f] [] jm) (abL X.prog X.w td ty tx):=by
 intro pins s σ H Q I h
 refine eP m.base m.mO m.line ft gj PySem.F.type_dict_setdefault (ir (ho pins s σ H _ I h) λu s1 ⟨x,H1,I1,rx,a,xs0,ex,g0,q1⟩=>?_)
 subst ex
 obtain rfl:u=Value.ref a:=rx
 obtain⟨_,_,ys0,_,D4⟩:=x9 I1 g0
 refine⟨D4.typeIs,λb q=>?_,?_⟩
 ·cases q
  obtain⟨ob,_,_,h1,h2,_⟩:=D4
  exact⟨ob,h1,h2.2.1⟩
 rw[m.trees]
 refine dH rfl (dX (cU (ir (he pins s1 σ H1 _ I1 q1) λiv s2 ⟨y,H2,I2,ry,q2⟩=>
  cU (ir (hf pins s2 σ H2 _ I2 q2) λfv s3 ⟨z,H3,I3,rz,b,k,xs,j,ey,ez,g,gk,hl,q3,q4⟩=>dW ?_))))
 subst ey ez
 obtain rfl:iv=Value.ref b:=ry
 obtain⟨t,rfl⟩:=rz
 obtain⟨hd,acG,ys,pr,dd⟩:=x9 I3 g
 have hlen:xs.length=ys.length:=cF pr
 have hr:=zJ pr k
 refine gr gj dd.typeIs PySem.F.entry_dict_setdefault (PySem.F.args_dict_setdefault_3 _ _ _) (VS (xa X.prog X.w) a b (.int j t) hd) ⟨show X.A.units+1+1<cLine by omega,k,ys,za I3.h_ gk,dd,?_,λp hp=>?_,λhn h' oz BF=>?_⟩
 ·have R5:sizeLine=16777216:=by decide
  omega
 ·rw[hp]at hr
  cases hv:mZ xs k with
  | none=>rw[hv]at hr;exact hr.elim
  | some z=>
   rw[hv]at hr
   exact⟨.int z,H3,I3.tok _,hr,q3 z hv⟩
 ·rw[hn]at hr
  cases hv:mZ xs k with
  | some z=>rw[hv]at hr;exact hr.elim
  | none=>
   have dd2:=oz
   obtain⟨o',lT,ll,h1,h2,h3,h4,h5,h6⟩:=oz
   refine⟨.int j,_,vX I3 (by rw[g.1];exact True.intro) BF ⟨o',h1⟩ (Hd ⟨hd,?_,_,o',lT,ll,Yw pr (x:=(k,b,j)) ⟨rfl,rfl,t,rfl⟩,h1,h2,h3,h4,h6⟩),⟨t,rfl⟩,q4 hv⟩
   rw[aj,aA];omega
end
section
variable{prog:Program}{w:World}{A:Around}{E:Value->Shared->Prop}{s:Shared}
theorem WE{it t:Addr}{i:Nat}{g_:Array Value}{x:Value}{Q:Value->Shared->Prop}(j:s.heap.IsTupleIter it t i)(ht:s.heap.IsTuple t g_)(hx:g_[i]? =some x)
 (k:∀h',h'.IsTupleIter it t (i+1)->Heap.SameBut it s.heap h'->Q x {s with heap:=h'}):wpAny (model prog w) A (Builtin.SmallTypes.nextOf (.ref it)) Q E s:=by
 have ty:=j.typeIs
 obtain⟨o,ho,hc,hd⟩:=j
 obtain⟨ot,Bt,_,n,i6⟩:=ht
 unfold Builtin.SmallTypes.nextOf
 refine aa (bc (name:=Str.ofString "__next__") ty dO (bo dO ty F.entry_tuple_iterator_next ?_ (F.args_tuple_iterator_next_1 _)))
 show wpAny _ _ (field (.ref it) 0 >>=_) _ _ _;refine aa (bI ho hd (x:=.ref t) rfl ?_)
 show wpAny _ _ (if (Value.ref t == Value.none)=true then _ else _) _ _ _;rw[aq (show ¬((Value.ref t == Value.none)=true) from ao)]
 show wpAny _ _ (field (.ref it) 1 >>=_) _ _ _;refine aa (bI ho hd (x:=.int i 0) rfl ?_)
 show wpAny _ _ (seqItems? (.ref t) >>=_) _ _ _;refine aa (cD Bt i6 ?_)
 simp only[b9,hx];refine aa (d9 ho hd (by simp) (af ⟨x,rfl,af (k _ ⟨_,dR _ ho (fR (dN hd _)),(Obj.cls_mapFields ..).trans hc,?_⟩ (bJ ..))⟩))
 rw[dN hd];simp[rawInt]
theorem WG{it t:Addr}{i:Nat}{g_:Array Value}{Q:Value->Shared->Prop}(hh:A.handled=none)(j:s.heap.IsTupleIter it t i)(ht:s.heap.IsTuple t g_)(hx:g_[i]? =none)
 (k:∀h' e,Heap.ExtBut it s.heap h'->(∃o,h'.get? e=some o/\o.cls= .type "StopIteration")->E (.ref e) {s with heap:=h'}):wpAny (model prog w) A (Builtin.SmallTypes.nextOf (.ref it)) Q E s:=by
 have ty:=j.typeIs
 obtain⟨o,ho,hc,hd⟩:=j
 obtain⟨ot,Bt,_,n,i6⟩:=ht
 unfold Builtin.SmallTypes.nextOf
 refine aa (bc (name:=Str.ofString "__next__") ty dO (bo dO ty F.entry_tuple_iterator_next ?_ (F.args_tuple_iterator_next_1 _)))
 show wpAny _ _ (field (.ref it) 0 >>=_) _ _ _;refine aa (bI ho hd (x:=.ref t) rfl ?_)
 show wpAny _ _ (if (Value.ref t == Value.none)=true then _ else _) _ _ _;rw[aq (show ¬((Value.ref t == Value.none)=true) from ao)]
 show wpAny _ _ (field (.ref it) 1 >>=_) _ _ _;refine aa (bI ho hd (x:=.int i 0) rfl ?_)
 show wpAny _ _ (seqItems? (.ref t) >>=_) _ _ _;refine aa (cD Bt i6 ?_)
 simp only[b9,hx];refine aa (fo (aa (d9 ho hd (by simp) ?_)))
 show wpAny _ _ (newExc (.type "StopIteration") [] >>=_) _ _ _;refine aa ?_
 simp only[newExc,newTuple];refine aa (bG ?_ (by size_fits))
 refine aa (m:=firstArgMember _ _) (wpAny_of_eq (a:=Value.none) (by first | rfl | (simp only[firstArgMember];rfl)) (bG ?_ (by size_fits)))
 simp only[raiseNew];refine aa (gL ?_)
 (first | rw[show A.in1.handled=none from hh] | rw[hh]);refine aa (af (wpAny_throw ?_))
 exact k _ _ (((bJ ..).extBut.push _).push _) ⟨_,aC _ rfl,rfl⟩
theorem acC{z TI TO i1 i2 l1 l2:Addr}{k1 k2:Nat}{xs ys:Array Value}{x y a b:Value}{Q:Value->Shared->Prop}(D:ZipApart z TI TO i1 i2 l1 l2)
 (hz:IsZip s.heap z TI TO .none) (iX:IsPair s.heap TI (.ref i1) (.ref i2)) (jw:IsPair s.heap TO a b)
 (j1:s.heap.IsTupleIter i1 l1 k1) (j2:s.heap.IsListIter i2 l2 k2) (m1:s.heap.IsTuple l1 xs) (m2:s.heap.IsList l2 ys) (hx:xs[k1]? =some x) (hy:ys[k2]? =some y)
 (hQ:∀h',IsZip h' z TI TO (rawInt s.heap.objs.size)->IsPair h' TO x y->h'.IsTupleIter i1 l1 (k1+1)->h'.IsListIter i2 l2 (k2+1)->IsPair h' s.heap.objs.size x y->h'.objs.size=s.heap.objs.size+1->
  (∀c o,c≠z->c≠TO->c≠i1->c≠i2->s.heap.get? c=some o->h'.get? c=some o)->Q (.ref s.heap.objs.size) {s with heap:=h'}):
 wpAny (model prog w) A (Builtin.«zip.__next__» ⟨[.ref z],[]⟩) (λfin s'=>∃v,fin= .done (.ret v)/\Q v s') E s:=by
 show wpAny _ _ (field (.ref z) 2 >>=_) _ _ _;refine aa (bI hz rfl (x:=.bool false) rfl ?_)
 show wpAny _ _ (field (.ref z) 3 >>=_) _ _ _;refine aa (bI hz rfl (x:=.ref TI) rfl (aa (cD iX rfl ?_)))
 show wpAny _ _ (Builtin.SmallTypes.ownedTupleIsFree (.ref z) >>=_) _ _ _;refine aa ?_
 unfold Builtin.SmallTypes.ownedTupleIsFree;refine aa (bI hz rfl (x:=.none) rfl (af ?_))
 simp only[dQ];refine aa (fo (aa (bI hz rfl (x:=.ref TO) rfl ?_)))
 refine aa (bU hz (by simp) λg1 z1 b1=>?_)
 have z1:IsZip g1 z TI TO .ellipsis:=z1
 refine aa ?_;simp only[List.zipIdx_cons,List.zipIdx_nil,eE,d8]
 refine aa (aa (wpAny_onRaise ?_));show wpAny _ _ (Builtin.SmallTypes.nextOf (.ref i1) >>=_) _ _ _
 refine aa (WE (j1.extBut b1.extBut D.i1z) (m1.extBut b1.extBut D.l1z) hx λg2 US b2=>af ?_)
 have o2:IsPair g2 TO a b:=b2.extBut _ _ D.TOi1 (b1.extBut _ _ D.TOz jw)
 refine aa (cD o2 rfl (aa (wpAny_updateSeq_pair o2 λg3 o3 b3=>aa (gH (af ?_)))))
 have o3:IsPair g3 TO x b:=o3
 refine aa (aa (wpAny_onRaise ?_));show wpAny _ _ (Builtin.SmallTypes.nextOf (.ref i2) >>=_) _ _ _
 refine aa (fK (((j2.extBut b1.extBut D.i2z).extBut b2.extBut D.i12.symm).extBut b3.extBut D.TOi2.symm) (((m2.extBut b1.extBut D.l2z).extBut b2.extBut D.l2i1).extBut b3.extBut D.l2TO) hy λg4 UU b4=>af ?_)
 have o4:IsPair g4 TO x b:=b4.extBut _ _ D.TOi2 o3
 refine aa (cD o4 rfl (aa (wpAny_updateSeq_pair o4 λg5 o5 b5=>aa (gH (af (af ?_))))))
 have o5:IsPair g5 TO x y:=o5
 refine aa (cD o5 rfl (aa (wpAny_newTuple ?_)))
 have sz:g5.objs.size=s.heap.objs.size:=by rw[b5.1,b4.1,b3.1,b2.1,b1.1]
 have z5:IsZip g5 z TI TO .ellipsis:=b5.extBut _ _ D.TOz.symm (b4.extBut _ _ D.i2z.symm (b3.extBut _ _ D.TOz.symm (b2.extBut _ _ D.i1z.symm z1)))
 have U9:∀c o,c≠z->c≠TO->c≠i1->c≠i2->s.heap.get? c=some o->g5.get? c=some o:=λc o c1 c2 c3 c4 e=>b5.extBut _ _ c2 (b4.extBut _ _ c4 (b3.extBut _ _ c2 (b2.extBut _ _ c3 (b1.extBut _ _ c1 e))))
 have UT:g5.IsTupleIter i1 l1 (k1+1):=((US.extBut b3.extBut D.TOi1.symm).extBut b4.extBut D.i12).extBut b5.extBut D.TOi1.symm
 have UW:g5.IsListIter i2 l2 (k2+1):=UU.extBut b5.extBut D.TOi2.symm
 have M5:z<g5.objs.size:=aF z5
 show wpAny _ _ (Builtin.SmallTypes.ownedTupleHandOut (.ref z) (.ref g5.objs.size) >>=_) _ _ _;refine aa ?_
 unfold Builtin.SmallTypes.ownedTupleHandOut
 have z6:IsZip (g5.push {cls:=.type "tuple",data:=.seq #[x,y]}) z TI TO .ellipsis:=ag _ z5
 refine aa (bU z6 (by simp) λg7 z7 b7=>?_)
 have z7:IsZip g7 z TI TO (rawInt g5.objs.size):=z7
 refine bU z7 (by simp) λg8 z8 b8=>?_
 have z8:IsZip g8 z TI TO (rawInt g5.objs.size):=z8
 have up:∀c o,c≠z->g5.get? c=some o->g8.get? c=some o:=λc o c1 e=>b8.extBut _ _ c1 (b7.extBut _ _ c1 (ag _ e))
 have t8:IsPair g8 g5.objs.size x y:=b8.extBut _ _ (cp M5) (b7.extBut _ _ (cp M5) (aC _ rfl))
 have s8:g8.objs.size=g5.objs.size+1:=by rw[b8.1,b7.1,bC]
 rw[sz]at z8 t8 s8
 refine af ⟨_,rfl,?_⟩
 show Q (.ref g5.objs.size) _
 rw[sz]
 exact hQ g8 z8 (up _ _ D.TOz o5) (UT.at λo e=>up _ o D.i1z e) (UW.at λo e=>up _ o D.i2z e) t8 s8 λc o c1 c2 c3 c4 e=>up c o c1 (U9 c o c1 c2 c3 c4 e)
theorem acB{z TI TO i1 i2 l1 l2:Addr}{k1:Nat}{xs:Array Value}{Q:Fin->Shared->Prop}(hh:A.handled=none)(D:ZipApart z TI TO i1 i2 l1 l2)
 (hz:IsZip s.heap z TI TO .none) (iX:IsPair s.heap TI (.ref i1) (.ref i2)) (j1:s.heap.IsTupleIter i1 l1 k1) (m1:s.heap.IsTuple l1 xs) (hx:xs[k1]? =none)
 (hE:∀h' e,(∀c o,c≠z->c≠TO->c≠i1->c≠i2->s.heap.get? c=some o->h'.get? c=some o)->(∃o,h'.get? e=some o/\o.cls= .type "StopIteration")->E (.ref e) {s with heap:=h'}):
 wpAny (model prog w) A (Builtin.«zip.__next__» ⟨[.ref z],[]⟩) Q E s:=by
 show wpAny _ _ (field (.ref z) 2 >>=_) _ _ _;refine aa (bI hz rfl (x:=.bool false) rfl ?_)
 show wpAny _ _ (field (.ref z) 3 >>=_) _ _ _;refine aa (bI hz rfl (x:=.ref TI) rfl (aa (cD iX rfl ?_)))
 show wpAny _ _ (Builtin.SmallTypes.ownedTupleIsFree (.ref z) >>=_) _ _ _;refine aa ?_
 unfold Builtin.SmallTypes.ownedTupleIsFree;refine aa (bI hz rfl (x:=.none) rfl (af ?_))
 simp only[dQ];refine aa (fo (aa (bI hz rfl (x:=.ref TO) rfl ?_)))
 refine aa (bU hz (by simp) λg1 z1 b1=>?_)
 have z1:IsZip g1 z TI TO .ellipsis:=z1
 refine aa ?_;simp only[List.zipIdx_cons,List.zipIdx_nil,eE,d8]
 refine aa (aa (wpAny_onRaise ?_));show wpAny _ _ (Builtin.SmallTypes.nextOf (.ref i1) >>=_) _ _ _
 refine aa (WG hh (j1.extBut b1.extBut D.i1z) (m1.extBut b1.extBut D.l1z) hx λg2 e b2 ⟨oe,he,ce⟩=>?_)
 have z2:IsZip g2 z TI TO .ellipsis:=b2 _ _ D.i1z.symm z1
 have ez:e≠z:=λq=>by subst q;rw[z2]at he;cases he;simp at ce
 exact bU z2 (by simp) λg3 _ b3=>hE g3 e (λc o c1 _ c3 _ q=>b3.extBut _ _ c1 (b2 _ _ c3 (b1.extBut _ _ c1 q))) ⟨oe,b3.extBut _ _ ez he,ce⟩
noncomputable abbrev xO(h:Heap)(l1:Addr):Heap:=h.push {cls:=.type "tuple_iterator",data:=.fields #[.ref l1,.int 0 0]}
noncomputable abbrev Aa(h:Heap)(l1 l2:Addr):Heap:=(xO h l1).push {cls:=.type "list_iterator",data:=.fields #[.ref l2,.int 0 0]}
noncomputable abbrev Ab(h:Heap)(l1 l2:Addr):Heap:=(Aa h l1 l2).push {cls:=.type "tuple",data:=.seq #[.ref h.objs.size,.ref (xO h l1).objs.size]}
noncomputable abbrev Ac(h:Heap)(l1 l2:Addr):Heap:=(Ab h l1 l2).push {cls:=.type "tuple",data:=.seq #[.none,.none]}
noncomputable abbrev tI(h:Heap)(l1 l2:Addr):Heap:=(Ac h l1 l2).push {cls:=.type "zip",data:=.fields #[.none,.bool false,.bool false,.ref (Aa h l1 l2).objs.size,.ref (Ab h l1 l2).objs.size]}
theorem acD(l1 l2:Addr)(xs ys:Array Value):
 Meets (Builtin.«zip.__new__» ⟨[.type "zip",.ref l1,.ref l2],[]⟩) (λ_ R s=>s.heap.IsTuple l1 xs/\s.heap.IsList l2 ys/\R (.ok (.ret (.ref (Ac s.heap l1 l2).objs.size))) {s with heap:=tI s.heap l1 l2}):=
 .of_wp λprog w A R ⟨hp,g,d,tk,os⟩ ⟨m1,m2,h⟩=>by
  have wG:=sub_zip
  have n1:Heap.IsTuple (Shared.heap ⟨hp,g,d,tk,os⟩) l1 xs:=m1
  have n2:Heap.IsList (Shared.heap ⟨xO hp l1,g,d,tk,os⟩) l2 ys:=Heap.IsList.push m2 _
  wp_walk using wpAny_pyIter_tuple n1,wpAny_pyIter_list n2
  exact⟨_,rfl,h⟩
theorem NX{l1 l2:Addr}{xs ys:Array Value}{Q:Value->Shared->Prop}(m1:s.heap.IsTuple l1 xs)(m2:s.heap.IsList l2 ys)
 (h:∀h',IsZip h' (s.heap.objs.size+4) (s.heap.objs.size+2) (s.heap.objs.size+3) .none->IsPair h' (s.heap.objs.size+2) (.ref s.heap.objs.size) (.ref (s.heap.objs.size+1))->
  IsPair h' (s.heap.objs.size+3) .none .none->h'.IsTupleIter s.heap.objs.size l1 0->h'.IsListIter (s.heap.objs.size+1) l2 0->h'.objs.size=s.heap.objs.size+5->
  (∀c o,s.heap.get? c=some o->h'.get? c=some o)->Q (.ref (s.heap.objs.size+4)) {s with heap:=h'}):
 wpAny (model prog w) A (call (.type "zip") [.ref l1,.ref l2]) Q E s:=by
 refine callType_new F.called_zip (by decide) (F.typeCall_zip_2 _ _) (F.newCall_zip_2 _ _) (λobj=>F.args_object_init_3 obj _ _) F.entry_zip_new (acD l1 l2 xs ys) ⟨m1,m2,?_⟩
 have e1:(xO s.heap l1).objs.size=s.heap.objs.size+1:=bC ..
 have e2:(Aa s.heap l1 l2).objs.size=s.heap.objs.size+2:=by rw[bC,e1]
 have e3:(Ab s.heap l1 l2).objs.size=s.heap.objs.size+3:=by rw[bC,e2]
 have e4:(Ac s.heap l1 l2).objs.size=s.heap.objs.size+4:=by rw[bC,e3]
 have e5:(tI s.heap l1 l2).objs.size=s.heap.objs.size+5:=by rw[bC,e4]
 have g5:(tI s.heap l1 l2).get? (Ac s.heap l1 l2).objs.size=some _:=aC _ rfl
 have g4:(tI s.heap l1 l2).get? (Ab s.heap l1 l2).objs.size=some _:=ag _ (aC _ rfl)
 have g3:(tI s.heap l1 l2).get? (Aa s.heap l1 l2).objs.size=some _:=ag _ (ag _ (aC _ rfl))
 have g2:(tI s.heap l1 l2).get? (xO s.heap l1).objs.size=some _:=ag _ (ag _ (ag _ (aC _ rfl)))
 have g1:(tI s.heap l1 l2).get? s.heap.objs.size=some _:=ag _ (ag _ (ag _ (ag _ (aC _ rfl))))
 show _/\_
 rw[e2,e3,e4]at g5
 rw[e1,e2]at g3
 rw[e3]at g4
 rw[e1]at g2
 rw[e4]
 exact⟨⟨_,g5,rfl⟩,h _ g5 g3 g4 ⟨_,g1,rfl,rfl⟩ ⟨_,g2,rfl,rfl⟩ e5 λc o q=>ag _ (ag _ (ag _ (ag _ (ag _ q))))⟩
end
noncomputable def vA(K:Fg)(a b:Addr):It:=
 ⟨λi H=>∃(xs ys:List V) (x y:V),iO K H a xs/\f_ K H b ys/\xs[i]? =some x/\ys[i]? =some y,
  λi H v U=>∃T x y,v= .ref T/\H T=none/\U=upd H T (.tup [x,y])/\(∀xs,iO K H a xs->xs[i]? =some x)/\∀ys,f_ K H b ys->ys[i]? =some y,
  λi H=>∃xs:List V,iO K H a xs/\xs.length<=i⟩
theorem ab5{P:Program}{w:World}{K:Fg}{elts:List Expr}{kk:Nat}{lF:Pos}{a b z TI TO i1 i2:Addr}(D:ZipApart z TI TO i1 i2 a b):
 Turn P w K (.Tuple elts kk lF) (vA K a b) [z,TI,TO,i1,i2] z (λi h=>IsZip h z TI TO .none/\IsPair h TI (.ref i1) (.ref i2)/\(∃x y,IsPair h TO x y)/\h.IsTupleIter i1 a i/\h.IsListIter i2 b i) where
 mem:=by simp
 obj:=λi h st c hc=>by
  obtain⟨hz,iX,⟨x,y,jw⟩,⟨o1,e1,_,d1⟩,⟨o2,e2,_,d2⟩⟩:=st
  have e':c=z\/c=TI\/c=TO\/c=i1\/c=i2:=by simpa using hc
  rcases e' with q | q | q | q | q
  ·rw[q];exact⟨_,hz,λv q=>nomatch q⟩
  ·rw[q];exact⟨_,iX,λv q=>nomatch q⟩
  ·rw[q];exact⟨_,jw,λv q=>nomatch q⟩
  ·rw[q];exact⟨o1,e1,λv q=>by rw[d1]at q;cases q⟩
  ·rw[q];exact⟨o2,e2,λv q=>by rw[d2]at q;cases q⟩
 keep:=λi h h' st k=>by
  obtain⟨hz,iX,⟨x,y,jw⟩,h1,h2⟩:=st
  exact⟨k z (by simp) _ hz,k TI (by simp) _ iX,⟨x,y,k TO (by simp) _ jw⟩,h1.at λo q=>k i1 (by simp) o q,h2.at λo q=>k i2 (by simp) o q⟩
 item:=by
  intro X hP hw hK hc i pins s σ H E I hf st hg
  subst hP hw hK
  obtain⟨hz,iX,⟨x0,y0,jw⟩,h1,h2⟩:=st
  obtain⟨xs,ys,x,y,mm,nt,hx,hy⟩:=hg
  obtain⟨g_,rv,p,_⟩:=I.tuple mm
  obtain⟨kE,pR,p2,_⟩:=I.list nt
  obtain⟨u,hu,ru⟩:=rv.get hx
  obtain⟨u2,sR,xG⟩:=pR.get hy
  have wN:z<s.heap.objs.size:=aF hz
  have hT:s.TypeIs (.ref z) "zip":=⟨_,hz,rfl⟩
  unfold pyNext
  refine aa (dh (bc (name:=Str.ofString "__next__") hT dC (bo dC hT fW
   (acC D hz iX jw h1 h2 p p2.isList (x:=u) (y:=u2) (by simpa using hu) (by simpa using sR) λh' z' An q_ A8 hT hsz hk=>af ?_) (fL _))))
  refine⟨_,rfl,wpAny_letOwnedTupleGo_zip (s:={s with heap:=h'}) z' λlq DF sb=>?_⟩
  have qm:lq.get? s.heap.objs.size=some {cls:=.type "tuple",data:=.seq #[u,u2]}:=(sb.2 _ (cp wN)).trans hT
  have new:jl X.prog X.w (upd H s.heap.objs.size (.tup [x,y])) lq s.heap.objs.size (.tup [x,y]):=
   ⟨by show 2<=sizeLine;decide,[u,u2],.cons ru (.cons xG .nil),⟨_,qm,rfl,_,rfl⟩⟩
  have I1:Inv X pins σ (upd H s.heap.objs.size (.tup [x,y])) {s with heap:=lq}:=
   I.xK (t':=s.toks) (ch:=[z,TI,TO,i1,i2]) (λc o hb q=>(sb.2 c (λq'=>hb (by simp[q']))).trans (hk c o (λq'=>hb (by simp[q'])) (λq'=>hb (by simp[q'])) (λq'=>hb (by simp[q'])) (λq'=>hb (by simp[q'])) q)) hf (ax _) new
  refine⟨.ref s.heap.objs.size,_,I1,rfl,⟨_,x,y,rfl,I.h_.fresh (ax _),rfl,λl hl=>by rw[I.MI hl mm];exact hx,λl hl=>by rw[I.w6 hl nt];exact hy⟩,⟨DF,?_,⟨u,u2,?_⟩,?_,?_⟩,λc oI=>?_⟩
  ·exact(sb.2 _ D.TIz).trans (hk _ _ D.TIz D.TITO D.TIi1 D.TIi2 iX)
  ·exact(sb.2 _ D.TOz).trans An
  ·exact q_.at λo q=>(sb.2 _ D.i1z).trans q
  ·exact A8.at λo q=>(sb.2 _ D.i2z).trans q
  ·have iP:c<s.heap.objs.size:=by
    have e':c=z\/c=TI\/c=TO\/c=i1\/c=i2:=by simpa using oI
    rcases e' with q | q | q | q | q
    ·rw[q];exact wN
    ·rw[q];exact aF iX
    ·rw[q];exact aF jw
    ·rw[q];obtain⟨_,e1,_⟩:=h1;exact aF e1
    ·rw[q];obtain⟨_,e2,_⟩:=h2;exact aF e2
   rw[ip (a9 iP)]
   exact(hf c oI).1
 done:=by
  intro X hP hw hK hc i pins s σ H E I hf st hg
  subst hP hw hK
  obtain⟨hz,iX,⟨x0,y0,jw⟩,h1,h2⟩:=st
  obtain⟨xs,mm,E6⟩:=hg
  obtain⟨g_,rv,p,_⟩:=I.tuple mm
  have l1:=rv.length
  have hT:s.TypeIs (.ref z) "zip":=⟨_,hz,rfl⟩
  unfold pyNext
  refine aa (dh (bc (name:=Str.ofString "__next__") hT dC (bo dC hT fW
   (acB (I.ok.hd hc) D hz iX h1 p (by simp;omega) λh' e hk he=>?_) (fL _))))
  obtain⟨o,ho,mh⟩:=he
  refine aa (dc (T:="StopIteration") (b:=true) ⟨o,ho,mh⟩ fI (af ⟨rfl,I.MK (t':=s.toks) (ch:=[z,TI,TO,i1,i2]) (λc o hb q=>
   hk c o (λq'=>hb (by simp[q'])) (λq'=>hb (by simp[q'])) (λq'=>hb (by simp[q'])) (λq'=>hb (by simp[q'])) q) hf⟩))
 self:=λA i s Q E st h=>fc st.1 h
noncomputable def UI(K:Fg)(ta:TA):TI:=λσ H R=>ta σ H λvs H1=>∃a b xs ys,vs=[.ref a,.ref b]/\iO K H1 a xs/\f_ K H1 b ys/\R (vA K a b) H1
theorem HU{X:Cx}{e e2:Expr}{ta:TA}{p pos lF:Pos}{elts:List Expr}{kk:Nat}(hg:Gl X "zip")(hm:X.mg "zip"=none)(ha:PA X [e,e2] ta)
 (hs:starEach [e,e2] X.env=(false,eval e X.env)::starEach [e2] X.env:=by rfl) (i9:(backTo pos (starEach [e2] X.env)).any (·.1)=false:=by rfl):
 PI X (.Tuple elts kk lF) (.Call (.Name "zip" p) [e,e2] [] pos) (UI X.K ta):=by
 intro pins s σ H R I h
 refine Call_ (qD I hg hm Ay (bK (ir (ha pos pins s σ H _ I h) λus s1 ⟨vs,H1,I1,r1,q1⟩=>?_) hs i9))
 obtain⟨a,b,xs,ys,ex,mm,nt,q⟩:=q1
 subst ex
 cases r1 with
 | cons r rr=>
  cases rr with
  | cons r' rr=>
   cases rr
   cases r
   cases r'
   obtain⟨g_,rv,p1,_⟩:=I1.tuple mm
   obtain⟨kE,pR,p2,_⟩:=I1.list nt
   have la:a<s1.heap.objs.size:=by obtain⟨_,e,_⟩:=p1;exact aF e
   have lb:b<s1.heap.objs.size:=p2.lt
   refine NX p1 p2.isList λh' hz iX jw h1 h2 hsz hk=>fc hz ?_
   have I2:Inv X pins σ H1 {s1 with heap:=h'}:=I1.kept (t':=s1.toks) hk
   refine⟨s1.heap.objs.size+4,[s1.heap.objs.size+4,s1.heap.objs.size+2,s1.heap.objs.size+3,s1.heap.objs.size,s1.heap.objs.size+1],_,_,H1,rfl,I2,ab5 (gG s1.heap.objs.size a b la lb),⟨hz,iX,⟨_,_,jw⟩,h1,h2⟩,λc oI=>?_,q⟩
   have e':c=s1.heap.objs.size+4\/c=s1.heap.objs.size+2\/c=s1.heap.objs.size+3\/c=s1.heap.objs.size\/c=s1.heap.objs.size+1:=by simpa using oI
   have hle:s1.heap.objs.size<=c:=by
    rcases e' with z | z | z | z | z
    ·rw[z];exact bZ _ _
    ·rw[z];exact bZ _ _
    ·rw[z];exact bZ _ _
    ·rw[z];exact ax _
    ·rw[z];exact bZ _ _
   exact I1.qj hle (I1.h_.fresh hle)
theorem Ey{K:Fg}{a b:Addr}{xs ys:List V}{g:TG}{tb:TS}{D:Ends}{σ:St}{H:Hp}(Uq:xs.length=ys.length)(Pv:Nat->St->Hp->Prop)(h0:Pv 0 σ H)(hl:∀i σ H,Pv i σ H->iO K H a xs/\f_ K H b ys)
 (hs:∀i x y σ H T,xs[i]? =some x->ys[i]? =some y->Pv i σ H->H T=none->g (.ref T) σ (upd H T (.tup [x,y])) λiA H2=>tb {D with nx:=Pv (i+1),ct:=Pv (i+1),bk:=D.nx} iA H2) (hd:∀σ H,Pv xs.length σ H->D.nx σ H):
 ∃
  W:Nat->Nat->St->Hp->Prop,(∃m,W 0 m σ H)/\∀i m σ H,W i m σ H->
  ((vA K a b).stop i H/\D.nx σ H)\/((vA K a b).go i H/\∃N:St->Hp->Prop,(∀ik U,N ik U->∃m',m'<m/\W (i+1) m' ik U)/\∀x U,(vA K a b).l9 i H x U->g x σ U λiA H2=>tb {D with nx:=N,ct:=N,bk:=D.nx} iA H2):=by
 refine⟨λi m σ H=>m=xs.length-i/\i<=xs.length/\Pv i σ H,⟨xs.length,by simp,aU _,h0⟩,?_⟩
 rintro i m σ H ⟨rfl,hi,p⟩
 obtain⟨q1,q2⟩:=hl i σ H p
 by_cases iP:i<xs.length
 ·refine .inr ⟨⟨xs,ys,xs[i],ys[i],q1,q2,ay iP,ay (by omega)⟩,Pv (i+1),λik U p'=>⟨xs.length-(i+1),by omega,rfl,iP,p'⟩,λx U y=>?_⟩
  obtain⟨T,u,v,rfl,hT,rfl,y1,y2⟩:=y
  exact hs i u v σ H T (y1 _ q1) (y2 _ q2) p hT
 ·have e:i=xs.length:=by omega
  subst e
  exact .inl ⟨⟨xs,q1,ax _⟩,hd σ H p⟩
theorem a_{α β:Type}{b:β}{f:α->β}{P:α->Prop}{a:α}(e:b=f a)(h:P a):∃x,b=f x/\P x:=⟨a,e,h⟩
theorem h9{α β γ δ:Type}{b:γ}{c:δ}{f:α->γ}{g:β->δ}{P:α->β->Prop}{x:α}{y:β}(e:b=f x)(e':c=g y)(h:P x y):∃x y,b=f x/\c=g y/\P x y:=⟨x,y,e,e',h⟩
theorem hX{K:Fg}{H:Hp}{x v:V}{a C dx:Addr}{fs:List (Str×V)}{f:Str}{Q:V->Prop}(e:x= .ref a)(h:H a=some (.ins C dx fs))(c:pY K C)(n:jh K C f)(l:fs.lookup f=some v)(q:Q v):
 ∃a C dx fs v,x= .ref a/\H a=some (.ins C dx fs)/\pY K C/\jh K C f/\fs.lookup f=some v/\Q v:=⟨a,C,dx,fs,v,e,h,c,n,l,q⟩
end L2
namespace MB
open PySem PySem.Spec PyProof.Rows L2
local macro_rules|`(tactic|k_units)=>`(tactic|exact ⟨rfl,rfl,rfl,by decide +kernel,rfl,by decide +kernel,by decide +kernel⟩)
noncomputable def top(i:Nat):Stmt:=PySem.Challenge.pw_measurebook_s01_answers.main.body.getD i (.Pass ⟨0,0,0,0⟩)
noncomputable abbrev JF:Stmt:=top 4
theorem aaQ:ie ["fraction"] ["fraction"] (ib JF):=by k_units
noncomputable abbrev Jn:Stmt:=top 5
theorem K2:ie ["a","b","rest"] ["a","b"] (ib Jn):=by k_units
noncomputable abbrev JP:Stmt:=top 6
theorem Le:ie ["top","bottom","divisor"] ["top","bottom"] (ib JP):=by k_units
noncomputable abbrev J_:Stmt:=top 7
theorem aa0:ie ["a","b"] ["a","b"] (ib J_):=by k_units
noncomputable abbrev Jp:Stmt:=top 8
theorem aaH:ie ["a","b"] ["a","b"] (ib Jp):=by k_units
noncomputable abbrev JC:Stmt:=top 9
theorem aaN:ie ["a","b"] ["a","b"] (ib JC):=by k_units
noncomputable abbrev IZ:Stmt:=top 10
theorem aaF:ie ["a","b"] ["a","b"] (ib IZ):=by k_units
noncomputable abbrev JU:Stmt:=top 11
theorem Li:ie ["a","b","turn","rest"] ["a","b"] (ib JU):=by k_units
noncomputable abbrev JV:Stmt:=top 12
theorem Lj:ie ["top","bottom","size","divisor","fraction"] ["top","bottom"] (ib JV):=by k_units
noncomputable abbrev Kq:Stmt:=top 13
theorem LM:ie ["number","power","product","turn"] ["number","power"] (ib Kq):=by k_units
noncomputable abbrev J8:Stmt:=top 14
theorem Lv:ie ["numbers","left","pairs","i"] ["numbers"] (ib J8):=by k_units
noncomputable abbrev Kr:Stmt:=top 15
theorem LN:ie ["fraction","power","top","bottom"] ["fraction","power"] (ib Kr):=by k_units
noncomputable abbrev I0:Stmt:=top 21
theorem KJ:ie ["book","name","entry"] ["book"] (ib I0):=by k_units
noncomputable abbrev JG:Stmt:=top 22
theorem aaR:ie ["book"] ["book"] (ib JG):=by k_units
noncomputable abbrev Jz:Stmt:=top 23
theorem aaK:ie ["book"] ["book"] (ib Jz):=by k_units
noncomputable abbrev JO:Stmt:=top 24
theorem Ld:ie ["book","factors","name","power"] ["book","factors"] (ib JO):=by k_units
noncomputable abbrev JT:Stmt:=top 25
theorem Lh:ie ["entry","name","factor"] ["entry","name"] (ib JT):=by k_units
noncomputable abbrev JM:Stmt:=top 26
theorem Lc:ie ["book","name","entry"] ["book","name"] (ib JM):=by k_units
noncomputable abbrev IQ:Stmt:=top 27
theorem aaC:ie ["book","name"] ["book","name"] (ib IQ):=by k_units
noncomputable abbrev IS:Stmt:=top 28
theorem KD:ie ["book","name","quantity","worth","powers"] ["book","name","quantity","worth"] (ib IS):=by k_units
noncomputable abbrev Jq:Stmt:=top 29
theorem aaI:ie ["book","name"] ["book","name"] (ib Jq):=by k_units
noncomputable abbrev JD:Stmt:=top 43
theorem aaO:ie ["sign"] ["sign"] (ib JD):=by k_units
noncomputable abbrev JL:Stmt:=top 44
theorem aaV:ie ["sign"] ["sign"] (ib JL):=by k_units
noncomputable abbrev JJ:Stmt:=top 45
theorem aaT:ie ["sign"] ["sign"] (ib JJ):=by k_units
noncomputable abbrev IX:Stmt:=top 46
theorem Dn:ie ["text","sign"] ["text"] (ib IX):=by k_units
noncomputable abbrev Kw:Stmt:=top 47
theorem LS:ie ["digits","whole","sign"] ["digits"] (ib Kw):=by k_units
noncomputable abbrev Kl:Stmt:=top 48
theorem LI:ie ["written","letter"] ["written"] (ib Kl):=by k_units
noncomputable abbrev JI:Stmt:=top 57
theorem Lb:ie ["text","sign"] ["text"] (ib JI):=by k_units
noncomputable abbrev JA:Stmt:=top 58
theorem aaL:ie ["text"] ["text"] (ib JA):=by k_units
noncomputable abbrev JZ:Stmt:=top 59
theorem Ll:ie ["text","number"] ["text"] (ib JZ):=by k_units
noncomputable abbrev Kv:Stmt:=top 60
theorem LR:ie ["text","place"] ["text"] (ib Kv):=by k_units
noncomputable abbrev Ka:Stmt:=top 61
theorem Lx:ie ["before","behind","bottom"] ["before","behind"] (ib Ka):=by k_units
noncomputable abbrev Jo:Stmt:=top 62
theorem K4:ie ["before","behind"] ["before","behind"] (ib Jo):=by k_units
noncomputable abbrev J6:Stmt:=top 63
theorem Ls:ie ["text","digits"] ["text"] (ib J6):=by k_units
noncomputable abbrev Jt:Stmt:=top 64
theorem K6:ie ["piece","name","power","place"] ["piece"] (ib Jt):=by k_units
noncomputable abbrev JE:Stmt:=top 65
theorem aaP:ie ["piece"] ["piece"] (ib JE):=by k_units
noncomputable abbrev JY:Stmt:=top 66
theorem aaZ:ie ["text"] ["text"] (ib JY):=by k_units
noncomputable abbrev JQ:Stmt:=top 67
theorem aaX:ie ["text"] ["text"] (ib JQ):=by k_units
noncomputable abbrev J3:Stmt:=top 68
theorem Lp:ie ["text","pieces","start","turned","place","sign"] ["text"] (ib J3):=by k_units
noncomputable abbrev Jw:Stmt:=top 69
theorem K9:ie ["pieces","before","piece"] ["pieces"] (ib Jw):=by k_units
noncomputable abbrev Kt:Stmt:=top 70
theorem LP:ie ["piece","factor"] ["piece"] (ib Kt):=by k_units
noncomputable abbrev Ju:Stmt:=top 71
theorem K7:ie ["pieces","piece"] ["pieces"] (ib Ju):=by k_units
noncomputable abbrev J9:Stmt:=top 72
theorem Lw:ie ["text","number","pieces"] ["text"] (ib J9):=by k_units
noncomputable abbrev J5:Stmt:=top 76
theorem Lr:ie ["book","base","factors","name","power"] ["book","base","factors"] (ib J5):=by k_units
noncomputable abbrev J7:Stmt:=top 77
theorem Lu:ie ["book","factors","base"] ["book","factors"] (ib J7):=by k_units
noncomputable abbrev Kc:Stmt:=top 78
theorem Lz:ie ["book","quantity","ratios","name","power","top","ratio","bottom"] ["book","quantity"] (ib Kc):=by k_units
noncomputable abbrev KA:Stmt:=top 79
theorem LW:ie ["book","quantity","powers","power","ratio"] ["book","quantity"] (ib KA):=by k_units
noncomputable abbrev Jr:Stmt:=top 80
theorem aaJ:ie ["book","name"] ["book","name"] (ib Jr):=by k_units
noncomputable abbrev IW:Stmt:=top 81
theorem aaD:ie ["a","b"] ["a","b"] (ib IW):=by k_units
noncomputable abbrev IY:Stmt:=top 82
theorem aaE:ie ["a","b"] ["a","b"] (ib IY):=by k_units
noncomputable abbrev Kb:Stmt:=top 83
theorem Ly:ie ["worth","power","each"] ["worth","power"] (ib Kb):=by k_units
noncomputable abbrev Ky:Stmt:=top 84
theorem LV:ie ["worth","part","powers","whole","taken"] ["worth","part"] (ib Ky):=by k_units
noncomputable abbrev JK:Stmt:=top 85
theorem aaU:ie ["worth"] ["worth"] (ib JK):=by k_units
noncomputable abbrev Jx:Stmt:=top 92
theorem K_:ie ["text","wrong"] ["text"] (ib Jx):=by k_units
noncomputable abbrev JH:Stmt:=top 93
theorem aaS:ie ["book","piece"] ["book","piece"] (ib JH):=by k_units
noncomputable abbrev JS:Stmt:=top 94
theorem Lg:ie ["book","text","piece"] ["book","text"] (ib JS):=by k_units
noncomputable abbrev Jv:Stmt:=top 95
theorem K8:ie ["book","text","place","quantity"] ["book","text"] (ib Jv):=by k_units
noncomputable abbrev Js:Stmt:=top 97
theorem K5:ie ["book","worth","name"] ["book","worth"] (ib Js):=by k_units
noncomputable abbrev J4:Stmt:=top 98
theorem Lq:ie ["book","names","name","ratio","place","other"] ["book","names","name"] (ib J4):=by k_units
noncomputable abbrev IT:Stmt:=top 99
theorem KE:ie ["book","worth","names","name"] ["book","worth"] (ib IT):=by k_units
noncomputable abbrev Kd:Stmt:=top 117
theorem LA:ie ["book","text","any_number","quantity","worth"] ["book","text","any_number"] (ib Kd):=by k_units
noncomputable abbrev J1:Stmt:=top 118
theorem Ln:ie ["book","a","b","any_number","first","second"] ["book","a","b","any_number"] (ib J1):=by k_units
noncomputable abbrev JR:Stmt:=top 121
theorem Lf:ie ["book","texts","worth","ratios","text","reading"] ["book","texts","worth"] (ib JR):=by k_units
noncomputable abbrev J2:Stmt:=top 122
theorem Lo:ie ["whole","ratios","parts","left","ratio","times","part","last"] ["whole","ratios"] (ib J2):=by k_units
noncomputable abbrev Kx:Stmt:=top 124
theorem LU:ie ["number","k","above","low","middle"] ["number","k"] (ib Kx):=by k_units
noncomputable abbrev Jy:Stmt:=top 125
theorem La:ie ["fraction","k","top","bottom"] ["fraction","k"] (ib Jy):=by k_units
noncomputable abbrev KC:Stmt:=top 126
theorem LX:ie ["worth","k","power","ratio"] ["worth","k"] (ib KC):=by k_units
noncomputable abbrev JN:Stmt:=top 130
theorem aaW:ie ["worth"] ["worth"] (ib JN):=by k_units
noncomputable abbrev Ks:Stmt:=top 131
theorem LO:ie ["book","name","single","worths","power","powers","worth"] ["book","name"] (ib Ks):=by k_units
noncomputable abbrev J0:Stmt:=top 132
theorem Lm:ie ["all_tried","worth","key","tried"] ["all_tried","worth"] (ib J0):=by k_units
noncomputable abbrev Ku:Stmt:=top 133
theorem LQ:ie ["all_tried","worth","place","first","rests","part","second","power","rest"] ["all_tried","worth"] (ib Ku):=by k_units
noncomputable abbrev Ke:Stmt:=top 134
theorem LB:ie ["book","worth","all_tried","name","single"] ["book","worth"] (ib Ke):=by k_units
noncomputable abbrev Kh:Stmt:=top 136
theorem LF:ie ["fraction","shown"] ["fraction"] (ib Kh):=by k_units
noncomputable abbrev Kf:Stmt:=top 137
theorem LC:ie ["name","power"] ["name","power"] (ib Kf):=by k_units
noncomputable abbrev Kg:Stmt:=top 138
theorem LD:ie ["factors","shown","name","power"] ["factors"] (ib Kg):=by k_units
noncomputable abbrev Ki:Stmt:=top 139
theorem LG:ie ["number","factors","measure"] ["number","factors"] (ib Ki):=by k_units
noncomputable abbrev Kk:Stmt:=top 140
theorem aa1:ie ["name","entry"] ["name","entry"] (ib Kk):=by k_units
noncomputable abbrev JW:Stmt:=top 141
theorem Lk:ie ["top","bottom","whole","twice_rest"] ["top","bottom"] (ib JW):=by k_units
noncomputable abbrev Kj:Stmt:=top 142
theorem LH:ie ["fraction","places","scaled","digits","before","written"] ["fraction","places"] (ib Kj):=by k_units
noncomputable abbrev JX:Stmt:=top 148
theorem aaY:ie ["book","text"] ["book","text"] (ib JX):=by k_units
noncomputable abbrev Kz:Stmt:=top 149
theorem aa2:ie ["worth"] ["worth"] (ib Kz):=by k_units
noncomputable abbrev I_:Stmt:=top 150
theorem KL:ie ["book","name","refusal"] ["book","name"] (ib I_):=by k_units
noncomputable abbrev Jm:Stmt:=top 151
theorem K1:ie ["book","name","quantity","refusal","reading"] ["book","name","quantity"] (ib Jm):=by k_units
noncomputable abbrev Jd:Stmt:=top 152
theorem KP:ie ["book","name","key"] ["book","name"] (ib Jd):=by k_units
noncomputable abbrev Jh:Stmt:=top 153
theorem KU:ie ["book","quantity","reading"] ["book","quantity"] (ib Jh):=by k_units
noncomputable abbrev Jl:Stmt:=top 154
theorem K0:ie ["book","quantity","reading","factors","base","power"] ["book","quantity"] (ib Jl):=by k_units
noncomputable abbrev Jg:Stmt:=top 155
theorem KS:ie ["book","a","b","pair","answer"] ["book","a","b"] (ib Jg):=by k_units
noncomputable abbrev Ja:Stmt:=top 156
theorem KN:ie ["book","places","a","b","pair"] ["book","places","a","b"] (ib Ja):=by k_units
noncomputable abbrev Ji:Stmt:=top 157
theorem KW:ie ["book","k","quantity","reading","root"] ["book","k","quantity"] (ib Ji):=by k_units
noncomputable abbrev Jf:Stmt:=top 158
theorem KR:ie ["book","quantity","reading","name"] ["book","quantity"] (ib Jf):=by k_units
noncomputable abbrev Je:Stmt:=top 159
theorem KQ:ie ["book","quantity","reading","names","answer","name"] ["book","quantity"] (ib Je):=by k_units
noncomputable abbrev Jj:Stmt:=top 160
theorem KY:ie ["book","quantity","reading","factors"] ["book","quantity"] (ib Jj):=by k_units
noncomputable abbrev Jk:Stmt:=top 161
theorem KZ:ie ["book","quantity","measures","reading","by"] ["book","quantity","measures"] (ib Jk):=by k_units
noncomputable abbrev Jc:Stmt:=top 162
theorem aaG:ie ["book","quantity"] ["book","quantity"] (ib Jc):=by k_units
noncomputable abbrev Jb:Stmt:=top 163
theorem KO:ie ["book","i","name","entry"] ["book","i"] (ib Jb):=by k_units
noncomputable abbrev JB:Stmt:=top 180
theorem aaM:ie ["tape"] ["tape"] (ib JB):=by k_units
noncomputable abbrev Km:Stmt:=top 181
theorem LJ:ie ["tape","number"] ["tape"] (ib Km):=by k_units
noncomputable abbrev Kn:Stmt:=top 182
theorem LK:ie ["tape","length","start"] ["tape"] (ib Kn):=by k_units
noncomputable abbrev Ko:Stmt:=top 183
theorem LL:ie ["tape","inner","texts"] ["tape"] (ib Ko):=by k_units
noncomputable abbrev IV:Stmt:=top 184
theorem KH:ie ["book","call","text"] ["book","call","text"] (ib IV):=by k_units
noncomputable abbrev IU:Stmt:=top 185
theorem KG:ie ["book","tape","call","k","places","a","first"] ["book","tape"] (ib IU):=by k_units
noncomputable abbrev Dm:Stmt:=top 186
theorem KI:ie ["calls","tape","book","answered","answer"] ["calls"] (ib Dm):=by k_units
noncomputable abbrev IF:Stmt:=top 3
theorem aat:ie ["self","top","bottom"] ["self","top","bottom"] (ib (inClass IF 0)):=by k_units
noncomputable abbrev IE:Stmt:=top 19
theorem aas:ie ["self","is_base","number","factors","ratio","powers"] ["self","is_base","number","factors","ratio","powers"] (ib (inClass IE 0)):=by k_units
noncomputable abbrev Dl:Stmt:=top 20
theorem aar:ie ["self"] ["self"] (ib (inClass Dl 0)):=by k_units
noncomputable abbrev IJ:Stmt:=top 55
theorem aax:ie ["self","number","factors"] ["self","number","factors"] (ib (inClass IJ 0)):=by k_units
noncomputable abbrev II:Stmt:=top 56
theorem aaw:ie ["self","start","signs","turned"] ["self","start","signs","turned"] (ib (inClass II 0)):=by k_units
noncomputable abbrev IP:Stmt:=top 75
theorem aaB:ie ["self","ratio","powers"] ["self","ratio","powers"] (ib (inClass IP 0)):=by k_units
noncomputable abbrev IK:Stmt:=top 115
theorem aay:ie ["self","refusal","quantity","worth"] ["self","refusal","quantity","worth"] (ib (inClass IK 0)):=by k_units
noncomputable abbrev IH:Stmt:=top 116
theorem aav:ie ["self","refusal","first","second"] ["self","refusal","first","second"] (ib (inClass IH 0)):=by k_units
noncomputable abbrev IG:Stmt:=top 120
theorem aau:ie ["self","refusal","ratios"] ["self","refusal","ratios"] (ib (inClass IG 0)):=by k_units
noncomputable abbrev IM:Stmt:=top 129
theorem aaA:ie ["self","name","worths","powers"] ["self","name","worths","powers"] (ib (inClass IM 0)):=by k_units
noncomputable abbrev IL:Stmt:=top 179
theorem aaz:ie ["self","numbers"] ["self","numbers"] (ib (inClass IL 0)):=by k_units
structure hC where
 ow:Addr
 ou:Addr
 k5:Addr
 tY:Addr
 o8:Addr
 ox:Addr
 qQ:Addr
 nR:Addr
 sv:Addr
 qR:Addr
 me:Addr
noncomputable def DI(K:Fg)(mg:Str->Option Value)(x:Str)(ns:List Int):Prop:=∃p,mg x=some (.ref p)/\∀H,iO K H p (ns.map V.int)
structure Txt(K:Fg)(mg:Str->Option Value)(a:hC):Prop where
 O0:Def K mg "is_far" ["fraction"] JF
 OE:Def K mg "common_divisor" ["a","b"] Jn
 O_:Def K mg "lowest" ["top","bottom"] JP
 PD:Def K mg "quotient" ["a","b"] J_
 OH:Def K mg "difference" ["a","b"] Jp
 OX:Def K mg "is_below" ["a","b"] JC
 Oj:Def K mg "are_same" ["a","b"] IZ
 Pf:Def K mg "near_divisor" ["a","b"] JU
 Pg:Def K mg "near_lowest" ["top","bottom"] JV
 P2:Def K mg "times_itself" ["number","power"] Kq
 Py:Def K mg "product_of" ["numbers"] J8
 P4:Def K mg "to_power" ["fraction","power"] Kr
 Ol:Def K mg "bases_of" ["book"] I0
 O1:Def K mg "is_full" ["book"] JG
 OT:Def K mg "has_all_bases" ["book"] Jz
 O9:Def K mg "knows_all" ["book","factors"] JO
 Pe:Def K mg "names_factor" ["entry","name"] JT
 O7:Def K mg "is_used" ["book","name"] JM
 Oa:Def K mg "add_base" ["book","name"] IQ
 Ob:Def K mg "add_unit" ["book","name","quantity","worth"] IS
 OI:Def K mg "drop" ["book","name"] Jq
 OY:Def K mg "is_digit" ["sign"] JD
 O6:Def K mg "is_small_letter" ["sign"] JL
 O4:Def K mg "is_name_sign" ["sign"] JJ
 Oh:Def K mg "are_digits" ["text"] IX
 P9:Def K mg "whole_of" ["digits"] Kw
 PY:Def K mg "signs_of" ["written"] Kl
 O3:Def K mg "is_name" ["text"] JI
 OU:Def K mg "has_minus" ["text"] JA
 Pn:Def K mg "number_of" ["text"] JZ
 P8:Def K mg "unsigned_number_of" ["text"] Kv
 PF:Def K mg "quotient_of" ["before","behind"] Ka
 OG:Def K mg "decimal_of" ["before","behind"] Jo
 Pw:Def K mg "power_of" ["text"] J6
 OL:Def K mg "factor_of" ["piece"] Jt
 OZ:Def K mg "is_factor" ["piece"] JE
 Pl:Def K mg "number_before" ["text"] JY
 Pa:Def K mg "measure_start" ["text"] JQ
 Pr:Def K mg "pieces_of" ["text"] J3
 OO:Def K mg "first_wrong" ["pieces"] Jw
 P6:Def K mg "turned_factor" ["piece"] Kt
 OM:Def K mg "factors_of" ["pieces"] Ju
 Pz:Def K mg "quantity_of" ["text"] J9
 Pu:Def K mg "power_at" ["book","base","factors"] J5
 Px:Def K mg "powers_of" ["book","factors"] J7
 PJ:Def K mg "ratio_of" ["book","quantity"] Kc
 Qc:Def K mg "worth_of" ["book","quantity"] KA
 OJ:Def K mg "entry_worth" ["book","name"] Jr
 Og:Def K mg "are_alike" ["a","b"] IW
 Oi:Def K mg "are_equal" ["a","b"] IY
 PH:Def K mg "raised" ["worth","power"] Kb
 Qa:Def K mg "without" ["worth","part"] Ky
 O5:Def K mg "is_plain_one" ["worth"] JK
 OP:Def K mg "form_fault" ["text"] Jx
 O2:Def K mg "is_known" ["book","piece"] JH
 Pd:Def K mg "name_fault" ["book","text"] JS
 ON:Def K mg "fault_of" ["book","text"] Jv
 OK:Def K mg "equal_name" ["book","worth"] Js
 Pt:Def K mg "place_by_ratio" ["book","names","name"] J4
 Oc:Def K mg "alike_names" ["book","worth"] IT
 PK:Def K mg "reading_of" ["book","text","any_number"] Kd
 Pp:Def K mg "pair_reading_of" ["book","a","b","any_number"] J1
 Pb:Def K mg "measures_reading_of" ["book","texts","worth"] JR
 Pq:Def K mg "parts_of" ["whole","ratios"] J2
 P_:Def K mg "whole_root" ["number","k"] Kx
 OQ:Def K mg "fraction_root" ["fraction","k"] Jy
 Qe:Def K mg "worth_root" ["worth","k"] KC
 O8:Def K mg "key_of" ["worth"] JN
 P5:Def K mg "tried_of" ["book","name"] Ks
 Po:Def K mg "one_factor" ["all_tried","worth"] J0
 P7:Def K mg "two_factors" ["all_tried","worth"] Ku
 PM:Def K mg "shortest_factors" ["book","worth"] Ke
 PR:Def K mg "shown_fraction" ["fraction"] Kh
 PN:Def K mg "shown_factor" ["name","power"] Kf
 PQ:Def K mg "shown_factors" ["factors"] Kg
 PU:Def K mg "shown_quantity" ["number","factors"] Ki
 PX:Def K mg "shown_unit" ["name","entry"] Kk
 Ph:Def K mg "nearest" ["top","bottom"] JW
 PV:Def K mg "shown_rounded" ["fraction","places"] Kj
 Pj:Def K mg "new_name_refusal" ["book","text"] JX
 Qb:Def K mg "worth_answer" ["worth"] Kz
 Om:Def K mg "call_base" ["book","name"] I_
 OD:Def K mg "call_unit" ["book","name","quantity"] Jm
 Ou:Def K mg "call_forget" ["book","name"] Jd
 Oy:Def K mg "call_read" ["book","quantity"] Jh
 OC:Def K mg "call_tell" ["book","quantity"] Jl
 Ox:Def K mg "call_ratio" ["book","a","b"] Jg
 Oo:Def K mg "call_convert" ["book","places","a","b"] Ja
 Oz:Def K mg "call_root" ["book","k","quantity"] Ji
 Ow:Def K mg "call_named" ["book","quantity"] Jf
 Ov:Def K mg "call_kin" ["book","quantity"] Je
 OA:Def K mg "call_short" ["book","quantity"] Jj
 OB:Def K mg "call_split" ["book","quantity","measures"] Jk
 Ot:Def K mg "call_fault" ["book","quantity"] Jc
 Oq:Def K mg "call_entry" ["book","i"] Jb
 OW:Def K mg "is_at_end" ["tape"] JB
 PZ:Def K mg "take_number" ["tape"] Km
 P0:Def K mg "take_row" ["tape"] Kn
 P1:Def K mg "take_texts" ["tape"] Ko
 Oe:Def K mg "answer_to_text" ["book","call","text"] IV
 Od:Def K mg "answer_next" ["book","tape"] IU
 Of:Def K mg "answers" ["calls"] Dm
 iQ:mI K mg "Exact" ["top","bottom"] IF a.ow
 jN:jh K a.ow "top"
 jM:jh K a.ow "bottom"
 lO:mI K mg "Entry" ["is_base","number","factors","ratio","powers"] IE a.ou
 zo:jh K a.ou "is_base"
 GK:jh K a.ou "number"
 Ci:jh K a.ou "factors"
 xc:jh K a.ou "ratio"
 GL:jh K a.ou "powers"
 j0:mI K mg "Book" [] Dl a.k5
 ki:jh K a.k5 "entries"
 n_:mI K mg "Quantity" ["number","factors"] IJ a.tY
 uL:jh K a.tY "number"
 xf:jh K a.tY "factors"
 n9:mI K mg "Piece" ["start","signs","turned"] II a.o8
 Cm:jh K a.o8 "start"
 uK:jh K a.o8 "signs"
 GO:jh K a.o8 "turned"
 jo:mI K mg "Worth" ["ratio","powers"] IP a.ox
 kM:jh K a.ox "ratio"
 nB:jh K a.ox "powers"
 iR:mI K mg "Reading" ["refusal","quantity","worth"] IK a.qQ
 jt:jh K a.qQ "refusal"
 GP:jh K a.qQ "quantity"
 k8:jh K a.qQ "worth"
 mT:mI K mg "PairReading" ["refusal","first","second"] IH a.nR
 sY:jh K a.nR "refusal"
 Cj:jh K a.nR "first"
 Ck:jh K a.nR "second"
 sS:mI K mg "MeasuresReading" ["refusal","ratios"] IG a.sv
 zr:jh K a.sv "refusal"
 GN:jh K a.sv "ratios"
 oa:mI K mg "Tried" ["name","worths","powers"] IM a.qR
 zu:jh K a.qR "name"
 GQ:jh K a.qR "worths"
 xg:jh K a.qR "powers"
 nz:mI K mg "Tape" ["numbers"] IL a.me
 zt:jh K a.me "numbers"
 rD:jh K a.me "place"
 yz:∃t,mg "FAR"=some (.int (10000000000000000000000000000000000000000) t)
 RE:∃t,mg "NEAR_DIVISIONS"=some (.int (201) t)
 Rt:∃t,mg "MOST_BASES"=some (.int (8) t)
 Ru:∃t,mg "MOST_ENTRIES"=some (.int (40) t)
 v_:∃t,mg "BLANK"=some (.int (32) t)
 Rr:∃t,mg "MINUS"=some (.int (45) t)
 yB:∃t,mg "POINT"=some (.int (46) t)
 wa:∃t,mg "SLASH"=some (.int (47) t)
 EI:∃t,mg "ZERO"=some (.int (48) t)
 yA:∃t,mg "ONE"=some (.int (49) t)
 RF:∃t,mg "NINE"=some (.int (57) t)
 Rj:∃t,mg "EQUALS"=some (.int (61) t)
 A5:∃t,mg "HAT"=some (.int (94) t)
 RX:∃t,mg "UNDERLINE"=some (.int (95) t)
 RR:∃t,mg "SMALL_A"=some (.int (97) t)
 RS:∃t,mg "SMALL_Z"=some (.int (122) t)
 Rp:∃t,mg "LONGEST_NAME"=some (.int (12) t)
 Rq:∃t,mg "LONGEST_NUMBER"=some (.int (90) t)
 A6:∃t,mg "LONGEST_QUANTITY"=some (.int (500) t)
 Rv:∃t,mg "MOST_FACTORS"=some (.int (20) t)
 Rz:∃t,mg "MOST_POWER_DIGITS"=some (.int (2) t)
 Ry:∃t,mg "MOST_POWER"=some (.int (99) t)
 RI:∃t,mg "NO_FAULT"=some (.int (0) t)
 Rm:∃t,mg "FORM_FAULT"=some (.int (1) t)
 RM:∃t,mg "NUMBER_FAULT"=some (.int (2) t)
 RC:∃t,mg "NAME_FAULT"=some (.int (3) t)
 R0:∃t,mg "WORTH_FAULT"=some (.int (4) t)
 RJ:∃t,mg "NO_NAME"=some (.int (-1) t)
 RD:∃t,mg "NAME_TAKEN"=some (.int (-2) t)
 ED:∃t,mg "BOOK_FULL"=some (.int (-3) t)
 RK:∃t,mg "NO_QUANTITY"=some (.int (-4) t)
 RZ:∃t,mg "UNKNOWN_NAME"=some (.int (-5) t)
 RG:∃t,mg "NOT_ABOVE_ZERO"=some (.int (-6) t)
 RW:∃t,mg "TOO_FAR"=some (.int (-7) t)
 EG:∃t,mg "NO_ENTRY"=some (.int (-8) t)
 RU:∃t,mg "STILL_USED"=some (.int (-9) t)
 EF:∃t,mg "NOT_ALIKE"=some (.int (-10) t)
 RL:∃t,mg "NO_ROOT"=some (.int (-11) t)
 EE:∃t,mg "NONE_FOUND"=some (.int (-12) t)
 A7:∃t,mg "OUT_OF_RANGE"=some (.int (-13) t)
 RH:∃t,mg "NOT_BELOW"=some (.int (-14) t)
 EH:DI K mg "POWERS" [(1),(-1),(2),(-2),(3),(-3)]
 Rx:∃t,mg "MOST_PLACES"=some (.int (20) t)
 Ro:∃t,mg "LEAST_ROOT"=some (.int (2) t)
 RA:∃t,mg "MOST_ROOT"=some (.int (9) t)
 Rw:∃t,mg "MOST_MEASURES"=some (.int (10) t)
 Rg:∃t,mg "BASE"=some (.int (0) t)
 RY:∃t,mg "UNIT"=some (.int (1) t)
 Rl:∃t,mg "FORGET"=some (.int (2) t)
 RO:∃t,mg "READ"=some (.int (3) t)
 RV:∃t,mg "TELL"=some (.int (4) t)
 RN:∃t,mg "RATIO"=some (.int (5) t)
 Rh:∃t,mg "CONVERT"=some (.int (6) t)
 RP:∃t,mg "ROOT"=some (.int (7) t)
 RB:∃t,mg "NAMED"=some (.int (8) t)
 Rn:∃t,mg "KIN"=some (.int (9) t)
 RQ:∃t,mg "SHORT"=some (.int (10) t)
 RT:∃t,mg "SPLIT"=some (.int (11) t)
 Rk:∃t,mg "FAULT"=some (.int (12) t)
 Ri:∃t,mg "ENTRY"=some (.int (13) t)
 acF:mg "ValueError"=none
 sk:mg "abs"=none
 As:mg "all"=none
 vL:mg "any"=none
 NF:mg "dict"=none
 Au:mg "enumerate"=none
 jO:mg "len"=none
 tT:mg "list"=none
 NG:mg "ord"=none
 x_:mg "range"=none
 ya:mg "str"=none
 NH:mg "sum"=none
 tU:mg "tuple"=none
 vM:mg "zip"=none
end MB
namespace MB
open PySem PySem.Spec PyProof.Rows L2
open Vaunia (Q)
open PySem.Builtin.Int (intBits)
variable {P:Program} {w:World} {K:Fg} {mg:Str->Option Value} {base:Heap} {a:hC}
noncomputable def bz(c:UInt8):Int:=(c.toNat:Int)
noncomputable def bv(t:List UInt8):List V:=t.map λc=>V.int (bz c)
section
variable{P:Program}{w:World}{K:Fg}{mg:Str->Option Value}{base:Heap}{a:hC}
noncomputable def t9(z:Int):Bool:=decide (48<=z)&&decide (z<=57)
noncomputable def u6(z:Int):Bool:=decide (97<=z)&&decide (z<=122)
noncomputable def rF(z:Int):Bool:=u6 z||t9 z||decide (z=95)
noncomputable def Dq(p:Int->Bool):Sp:=λvs H Q _=>∃z,vs=[.int z]/\Q (.bl (p z)) H
theorem Hi(T:Txt K mg a):Callee P w K mg base 1 "is_digit" ["sign"] (Dq t9):=by
 refine T.OY.ok aaO (λvs H Q E h=>?_) (λf h8 A outer s H vs Q E hr h=>?_)
 ·obtain⟨z,rfl,_⟩:=h
  rfl
 ·obtain⟨z,rfl,k⟩:=h
  refine⟨_,g9 (hJ (HM rN rN (iD T.EI) (pv 0) (iD T.RF))),?_⟩
  refine(a_ rfl (h9 rfl rfl (a_ rfl ?_)))
  unfold t9 at k
  by_cases c:48<=z
  ·rw[ah c]at k ⊢
   exact iu (h9 rfl rfl k)
  ·rw[az c]at k ⊢
   exact iz k
theorem Hk(T:Txt K mg a):Callee P w K mg base 1 "is_small_letter" ["sign"] (Dq u6):=by
 refine T.O6.ok aaV (λvs H Q E h=>?_) (λf h8 A outer s H vs Q E hr h=>?_)
 ·obtain⟨z,rfl,_⟩:=h
  rfl
 ·obtain⟨z,rfl,k⟩:=h
  refine⟨_,g9 (hJ (HM rN rN (iD T.RR) (pv 0) (iD T.RS))),?_⟩
  refine(a_ rfl (h9 rfl rfl (a_ rfl ?_)))
  unfold u6 at k
  by_cases c:97<=z
  ·rw[ah c]at k ⊢
   exact iu (h9 rfl rfl k)
  ·rw[az c]at k ⊢
   exact iz k
theorem Xr(T:Txt K mg a):Callee P w K mg base 2 "is_name_sign" ["sign"] (Dq rF):=by
 refine T.O4.ok aaT (λvs H Q E h=>?_) (λf h8 A outer s H vs Q E hr h=>?_)
 ·obtain⟨z,rfl,_⟩:=h
  rfl
 ·obtain⟨z,rfl,k⟩:=h
  refine⟨_,g9 (hJ (xx (hU (Hk T) hr (b_ (pv 0) d_)) (xx (hU (Hi T) hr (b_ (pv 0) d_)) (pO (kF je (pv 0) (iD T.RX) (ig _)))))),?_⟩
  refine(a_ rfl ⟨z,rfl,a_ rfl ?_⟩)
  unfold rF at k
  cases e1:u6 z with
  | true=>
   rw[e1]at k
   exact iu k
  | false=>
   rw[e1]at k
   refine iz (a_ rfl ⟨z,rfl,a_ rfl ?_⟩)
   cases e2:t9 z with
   | true=>
    rw[e2]at k
    exact iu k
   | false=>
    rw[e2]at k
    refine iz (a_ rfl ⟨rfl,?_⟩)
    have e:decide (V.int z=V.int 95)=decide (z=95):=by simp
    rw[e]
    exact k
noncomputable def abi(K:Fg)(p:List UInt8->Bool):Sp:=λvs H Q _=>∃l t,vs=[.ref l]/\f_ K H l (bv t)/\t.length<=20000/\∀U,c_ H U->Q (.bl (p t)) U
theorem i_(t:List UInt8):(bv t).length=t.length:=ab _
theorem D9(c:UInt8):t9 (bz c)=Vaunia.isDigit c:=by
 unfold t9 bz Vaunia.isDigit
 rw[aH];simp;omega
theorem L9(c:UInt8):u6 (bz c)=Vaunia.isSmall c:=by
 unfold u6 bz Vaunia.isSmall
 rw[aH];simp;omega
theorem iV{n:Nat}(h:n<=20000):n<sizeLine:=cC h (by decide)
theorem uS(T:Txt K mg a):Callee P w K mg base 2 "are_digits" ["text"] (abi K Vaunia.allDigits):=by
 refine T.Oh.ok Dn (λvs H Q E h=>?_) (λf h8 A outer s H vs Q E hr h=>?_)
 ·obtain⟨l,t,rfl,_⟩:=h
  rfl
 ·obtain⟨l,t,rfl,hl,hz,k⟩:=h
  refine⟨_,g9 (hJ (tq (kF ly (i7 ka (by rfl) T.jO aV (b_ (pv 0) d_)) ij (ig _))
   (pO (i7 (AH rfl) (by rfl) T.As (by decide +kernel) (b_ (lA (own:=[("sign",1)]) rfl Dn.nd (kj (pv 0)) (j_ rfl) (λ_ _ _ _ _=>iT (i:=1) Dn.nd rfl (Or.inl rfl)) (λ_ _ _ _ _=>kT)
    (λ_ _ _ _ _=>hU (Hi T) hr (b_ (pv 1) d_))) d_))))),?_⟩
  dsimp only[il]
  refine(a_ rfl ⟨l,a_ rfl ⟨.inl hl,h9 rfl rfl (a_ rfl ?_)⟩⟩)
  rw[i_]
  by_cases c:0<t.length
  ·rw[ah (show(0:Int)<(t.length:Nat) by omega)]
   refine iu (a_ rfl ⟨l,rfl,⟨_,hl⟩,λD hD=>mq (xs:=bv t) (λi U=>kY H D ((t.take i).map λc=>V.bl (Vaunia.isDigit c)) U) (lZ hD) (λi U _ p=>p.1.seq hl) (λi x U hx p=>?_) (λU p=>?_)⟩)
   ·obtain⟨c,hc,rfl⟩:=i8 hx
    have hi:=ja hc
    refine(⟨rfl,a_ rfl ⟨bz c,rfl,?_⟩⟩)
    refine lY hD p (c_.refl _) (by rw[ab,aB];exact iV (by omega)) ?_
    rw[take_snoc hc,au,D9];rfl
   ·refine⟨D,t.map Vaunia.isDigit,rfl,f_.of ?_,?_⟩
    ·have p2:=p.2
     rw[i_,aP]at p2
     rw[p2,bu];rfl
    ·have e:(List.map Vaunia.isDigit t).all id=Vaunia.allDigits t:=by
      unfold Vaunia.allDigits
      cases t with
      | nil=>simp at c
      | cons x r=>simp[gq]
     rw[e]
     exact k _ p.1
  ·have et:t=[]:=by cases t with | nil=>rfl | cons x r=>simp at c
   subst et
   exact iz (k H (c_.refl _))
end
end MB
namespace L2
open PySem PySem.Spec PyProof.Rows
theorem mI.maker{P:Program}{w:World}{K:Fg}{mg:Str->Option Value}{base:Heap}{x:Str}{ps N:List Str}{st:Stmt}{C:Addr}{n:Nat}{mk:List V->List (Str×V)}(D:mI K mg x ps st C)(S:ie N ("self"::ps) (ib (inClass st 0)))(hn:ps.length=n)
 (sH:∀(f:Addr) (h8:Value) (A:Around) (outer:List Env) (s:Shared) (H:Hp) (p:Addr) (us:List V) (dx:Addr) (Q:VK) (E:XK),jy 0 (A.deeper (envOfC (x++".__init__") (ib (inClass st 0)) s.heap.objs.size f h8))->us.length=n->H p=some (.ins C dx [])->Q .ia (upd H p (.ins C dx (mk us)))->
  ∃t,md (il oZ P w K mg base N (x++".__init__") (ib (inClass st 0)) f h8 A outer s H E).uQ (oA (inClass st 0)) t/\t {nx:=λ_ U=>Q .ia U,rt:=Q} (start N (.ref p::us)) H):Maker P w K mg base x C n mk:=by
 obtain⟨f,fd,h1,h2,h3⟩:=D.ini
 refine⟨f,fd,_,D.Gx,h1,h3,h2.ok S (λvs H Q E h=>?_) (λh8 A outer s H vs Q E hr h=>?_)⟩
 ·obtain⟨p,us,dx,rfl,e,_⟩:=h
  show us.length+1=ps.length+1
  omega
 ·obtain⟨p,us,dx,rfl,e,hp,q⟩:=h
  exact sH f h8 A outer s H p us dx Q E hr e hp q
end L2
namespace MB
open PySem PySem.Spec PyProof.Rows L2
open PySem.Builtin.Int (intBits)
open Vaunia (Q)
variable {P:Program} {w:World} {K:Fg} {mg:Str->Option Value} {base:Heap} {a:hC}
section
variable{P:Program}{w:World}{K:Fg}{mg:Str->Option Value}{base:Heap}{a:hC}
noncomputable def sX(us:List V):List (Str×V):=[("top",us.getD 0 .ia),("bottom",us.getD 1 .ia)]
theorem pJ(T:Txt K mg a):Maker P w K mg base "Exact" a.ow 2 sX:=by
 refine T.iQ.maker aat rfl λf h8 A outer s H p us dx Q E hr hl hp q=>?_
 match us,hl with
 | [u,v],_=>
  refine⟨_,gZ (jH (pv 0) (pv 1) rfl) (g9 (jH (pv 0) (pv 2) rfl)),?_⟩
  dsimp only[il]
  refine(a_ rfl (a_ rfl ⟨p,_,dx,a_ rfl ⟨hp,T.iQ.cl,T.jN,(by show 0<1000;decide),?_⟩⟩))
  refine(a_ rfl (a_ rfl ⟨p,_,dx,a_ rfl ⟨e_,T.iQ.cl,T.jM,(by show 1<1000;decide),?_⟩⟩))
  rw[kn]
  exact q
noncomputable def iN(a:hC)(H:Hp)(p:Addr)(q:Q):Prop:=∃dx,H p=some (.ins a.ow dx [("top",.int q.num),("bottom",.int (q.den:Int))])
theorem iN.same{H U:Hp}{p:Addr}{q:Q}(h:iN a H p q)(s:c_ H U):iN a U p q:=by
 obtain⟨dx,h⟩:=h
 exact⟨dx,s _ _ h⟩
noncomputable def Zf(a:hC):Sp:=λvs H Q _=>∃p q,vs=[.ref p]/\iN a H p q/\Q (.bl (!Vaunia.near q)) H
theorem Xo(T:Txt K mg a):Callee P w K mg base 1 "is_far" ["fraction"] (Zf a):=by
 refine T.O0.ok aaQ (λvs H Q E h=>?_) (λf h8 A outer s H vs Q E hr h=>?_)
 ·obtain⟨p,q,rfl,_⟩:=h
  rfl
 ·obtain⟨p,q,rfl,⟨dx,hp⟩,k⟩:=h
  refine⟨_,g9 (hJ (xx (kF pN (i7 sy (by rfl) T.sk (by decide +kernel) (b_ (hG (pv 0) rfl) d_)) (iD T.yz) (ig _)) (pO (kF pN (hG (pv 0) rfl) (iD T.yz) (ig _))))),?_⟩
  dsimp only[il]
  refine(a_ rfl (hX rfl hp T.iQ.cl T.jN rfl (a_ rfl (h9 rfl rfl (a_ rfl ?_)))))
  have e:Vaunia.near q=(decide (q.num.natAbs<10^40)&&decide (q.den<10^40)):=rfl
  refine iU (λc=>?_) (λc=>?_)
  ·have c':¬q.num.natAbs<10^40:=by
    have:=aL c
    split at this<;>omega
   rw[e,az c']at k
   exact k
  ·have c':q.num.natAbs<10^40:=by
    have:=eB (Bool.not_eq_true _▸c)
    split at this<;>omega
   refine(a_ rfl (hX rfl hp T.iQ.cl T.jM rfl (h9 rfl rfl ?_)))
   have e3:(!Vaunia.near q)=decide ((10000000000000000000000000000000000000000:Int)<=(q.den:Int)):=by
    rw[e,ah c',eI,aH]
    simp
    omega
   rw[e3]at k
   exact k
noncomputable def YZ:Sp:=λvs H Q _=>∃x y:Nat,vs=[.int x,.int y]/\Q (.int (Nat.gcd x y:Nat)) H
theorem Xd(T:Txt K mg a):Callee P w K mg base 1 "common_divisor" ["a","b"] (YZ):=by
 refine T.OE.ok K2 (λvs H Q E h=>?_) (λf h8 A outer s H vs Q E hr h=>?_)
 ·obtain⟨p,q,rfl,_⟩:=h
  rfl
 ·obtain⟨x,y,rfl,k⟩:=h
  have nd:=K2.nd
  refine⟨_,gZ (uY aX (iq CI (pv 1) ij (ig _)) (gZ (ic (i:=2) nd rfl (Or.inl rfl) (iH xt (pv 0) (pv 1))) (gZ (ic (i:=0) nd rfl (Or.inl rfl) (pv 1)) (g9 (ic (i:=1) nd rfl (Or.inl rfl) (pv 2)))))) (g9 (hJ (pv 0))),?_⟩
  refine⟨λm σ U=>∃(u:Nat) (r:Option V),σ=[some (.int u),some (.int m),r]/\U=H/\Nat.gcd u m=Nat.gcd x y,⟨y,x,none,rfl,rfl,rfl⟩,?_⟩
  rintro m σ U ⟨u,r,rfl,rfl,e⟩
  refine(a_ rfl ⟨rfl,a_ rfl ?_⟩)
  refine iU (λc=>?_) (λc=>?_)
  ·have hm:0<m:=by
    rcases cn m with z | z
    ·subst z;simp at c
    ·exact z
   refine⟨_,λik U n=>n,?_⟩
   refine(a_ rfl (a_ rfl (h9 rfl rfl ⟨(by show(0:Int)<(m:Int);omega),?_⟩)))
   refine(a_ rfl (a_ rfl ?_))
   refine(⟨u % m,gR _ hm,m,a_ rfl ⟨rfl,?_⟩⟩)
   rw[gQ,<-Nat.gcd_rec,gQ]
   exact e
  ·have hm:m=0:=by
    rcases cn m with z | z
    ·exact z
    ·exact absurd (by simp;omega) c
   subst hm
   rw[Nat.gcd_zero_right]at e
   subst e
   exact(a_ rfl k)
noncomputable def Zr:Sp:=λvs H Q _=>∃x y:Nat,vs=[.int x,.int y]/\Q (.int (jW 202 x y:Nat)) H
theorem XA(T:Txt K mg a):Callee P w K mg base 1 "near_divisor" ["a","b"] (Zr):=by
 refine T.Pf.ok Li (λvs H Q E h=>?_) (λf h8 A outer s H vs Q E hr h=>?_)
 ·obtain⟨p,q,rfl,_⟩:=h
  rfl
 ·obtain⟨x,y,rfl,k⟩:=h
  have nd:=Li.nd
  refine⟨_,gZ (lC aX rfl (CU rfl T.x_ (b_ (iH mV (iD T.RE) ij) d_)) (iT (i:=2) nd rfl (Or.inl rfl))
   (gZ (iw (iq je (pv 1) ij (ig _)) (g9 (hJ (pv 0))) iy)
   (gZ (ic (i:=3) nd rfl (Or.inl rfl) (iH xt (pv 0) (pv 1))) (gZ (ic (i:=0) nd rfl (Or.inl rfl) (pv 1)) (g9 (ic (i:=1) nd rfl (Or.inl rfl) (pv 3))))))) (g9 (hJ ij)),?_⟩
  refine(h9 rfl rfl ⟨202,rfl,by decide,by decide,AY (lo:=0) (n:=202) (λi σ U=>∃(u v:Nat) (r r':Option V),σ=[some (.int u),some (.int v),r,r']/\U=H/\i<=202/\jW (202-i) u v=jW 202 x y)
   ⟨x,y,none,none,rfl,rfl,by decide,rfl⟩ ?_ ?_⟩)
  ·rintro i σ U hi ⟨u,v,r,r',rfl,rfl,_,e⟩
   obtain⟨j,hj⟩:∃j,202-i=j+1:=⟨202-i-1,by omega⟩
   have SV:202-(i+1)=j:=by omega
   rw[hj]at e
   unfold jW at e
   refine(a_ rfl ⟨rfl,a_ rfl ?_⟩)
   refine iU (λc=>?_) (λc=>?_)
   ·have hv:v=0:=by simpa using c
    rw[aE hv]at e
    subst e
    exact(a_ rfl k)
   ·have hv:¬v=0:=by simpa using c
    rw[aq hv]at e
    refine(a_ rfl (a_ rfl (h9 rfl rfl ⟨(by show(0:Int)<(v:Int);omega),?_⟩)))
    refine(a_ rfl (a_ rfl ?_))
    refine⟨v,u % v,_,_,rfl,rfl,by omega,?_⟩
    rw[SV]
    exact e
  ·rintro σ U ⟨u,v,r,r',rfl,rfl,_,e⟩
   have e0:jW 202 x y=0:=e.symm
   rw[e0]at k
   exact k
noncomputable def ZX:Sp:=λvs H Q _=>∃(x:Int) (n:Nat),vs=[.int x,.int n]/\intBits x<=140/\n<=500/\Q (.int (x^n)) H
theorem tf(T:Txt K mg a):Callee P w K mg base 1 "times_itself" ["number","power"] (ZX):=by
 refine T.P2.ok LM (λvs H Q E h=>?_) (λf h8 A outer s H vs Q E hr h=>?_)
 ·obtain⟨p,q,rfl,_⟩:=h
  rfl
 ·obtain⟨x,n,rfl,hx,hn,k⟩:=h
  have nd:=LM.nd
  refine⟨_,gZ (ic (i:=2) nd rfl (Or.inl rfl) ij) (gZ (lC aX rfl (CU rfl T.x_ (b_ (pv 1) d_)) (iT (i:=3) nd rfl (Or.inl rfl))
   (g9 (ic (i:=2) nd rfl (Or.inl rfl) (iH mw (pv 2) (pv 0))))) (g9 (hJ (pv 2)))),?_⟩
  refine(a_ rfl ⟨n,rfl,by omega,by omega,AY (lo:=0) (n:=(n:Int).toNat) (λi σ U=>∃(r:Option V),σ=[some (.int x),some (.int n),some (.int (x^i)),r]/\U=H) ⟨none,by rw[Int.pow_zero];rfl,rfl⟩ ?_ ?_⟩)
  ·rintro i σ U hi ⟨r,rfl,rfl⟩
   refine(a_ rfl (a_ rfl (h9 rfl rfl ⟨dP (intBits_pow_le hx i) hx (by omega),?_⟩)))
   exact⟨some (.int (0+(i:Int))),by rw[Int.pow_succ];rfl,rfl⟩
  ·rintro σ U ⟨r,rfl,rfl⟩
   exact(a_ rfl k)
theorem tS(n:Int):(if n<0 then -n else n)=(n.natAbs:Int):=by split<;>omega
theorem Ej{x y:Nat}(c:decide ((x:Int)*10000000000000000000000000000000000000000<=(y:Int))=true):x*10^40<=y:=by
 have h:=aL c
 omega
theorem Ei{x y:Nat}(c:¬decide ((x:Int)*10000000000000000000000000000000000000000<=(y:Int))=true):¬x*10^40<=y:=by
 intro h
 refine c (ah ?_)
 omega
noncomputable def lH(a:hC)(H:Hp)(R:VK):Option Q->Prop
 | none=>∀U,c_ H U->R .ia U
 | some q=>∀p U,c_ H U->iN a U p q->R (.ref p) U
theorem VC{m n k:Nat}(h:m<=n)(hn:n.log2<k):m.log2<k:=by
 rcases cn m with z | z
 ·subst z;exact cC (aU _) hn
 ·refine(gI (cp z)).mpr (cC h ?_)
  exact(gI (by omega)).mp hn
noncomputable def Zm(a:hC):Sp:=λvs H R _=>∃(n:Int) (d:Nat),vs=[.int n,.int d]/\0<d/\d.log2<9000/\∀p U,c_ H U->iN a U p (Q.of n d)->R (.ref p) U
theorem Hl(T:Txt K mg a):Callee P w K mg base 3 "lowest" ["top","bottom"] (Zm a):=by
 refine T.O_.ok Le (λvs H Q E h=>?_) (λf h8 A outer s H vs Q E hr h=>?_)
 ·obtain⟨p,q,rfl,_⟩:=h
  rfl
 ·obtain⟨n,d,rfl,hd,hl,k⟩:=h
  have nd:=Le.nd
  refine⟨_,gZ (ic (i:=2) nd rfl (Or.inl rfl) (hU (Xd T) (hr.mono (by decide)) (b_ (i7 sy (by rfl) T.sk (by decide +kernel) (b_ (pv 0) d_)) (b_ (pv 1) d_))))
   (g9 (hJ (jk (pJ T) hr (b_ (iH zE (pv 0) (pv 2)) (b_ (iH zE (pv 1) (pv 2)) d_))))),?_⟩
  refine(a_ rfl (a_ rfl (a_ rfl ⟨n.natAbs,d,by rw[tS];rfl,?_⟩)))
  have hg:=EJ (n:=n) hd
  have yM:(Nat.gcd n.natAbs d).log2<9000:=VC (Nat.gcd_le_right _ hd) hl
  refine(a_ rfl (a_ rfl (h9 rfl rfl ⟨⟨by omega,yM⟩,a_ rfl (a_ rfl (h9 rfl rfl ⟨⟨by omega,yM⟩,rfl,λx dx hx nX iJ=>?_⟩))⟩)))
  refine k _ _ (c_.jc hx nX) ⟨dx,?_⟩
  rw[e_,s_ hd]
  rfl
noncomputable def Zs(a:hC):Sp:=λvs H R _=>∃(n:Int) (d:Nat),vs=[.int n,.int d]/\0<d/\intBits n<=1000000/\intBits d<=1000000/\lH a H R (if Vaunia.near (Q.of n d) then some (Q.of n d) else none)
theorem zA(T:Txt K mg a)(ht:P.given.tree=none):Callee P w K mg base 34 "near_lowest" ["top","bottom"] (Zs a):=by
 refine T.Pg.ok Lj (λvs H Q E h=>?_) (λf h8 A outer s H vs Q E hr h=>?_)
 ·obtain⟨p,q,rfl,_⟩:=h
  rfl
 ·obtain⟨n,d,rfl,hd,lU,qr,k⟩:=h
  have nd:=Lj.nd
  rw[<-Wd n hd]at k
  refine⟨_,gZ (ic (i:=2) nd rfl (Or.inl rfl) (i7 sy (by rfl) T.sk (by decide +kernel) (b_ (pv 0) d_)))
   (gZ (iw (iq je (pv 2) ij (ig _)) (g9 (hJ (jk (pJ T) (hr.mono (by decide)) (b_ ij (b_ ij d_))))) iy)
   (gZ (iw (mD (iq pN (pv 2) (iH mw (pv 1) (iD T.yz)) (ig _)) (mE (iq pN (pv 1) (iH mw (pv 2) (iD T.yz)) (ig _)))).pt (g9 (hJ iM)) iy)
   (gZ (ic (i:=3) nd rfl (Or.inl rfl) (hU (XA T) (hr.mono (by decide)) (b_ (pv 2) (b_ (pv 1) d_))))
   (gZ (iw (iq je (pv 3) ij (ig _)) (g9 (hJ iM)) iy)
   (gZ (ic (i:=4) nd rfl (Or.inl rfl) (jk (pJ T) (hr.mono (by decide)) (b_ (iH (HB ht rfl rfl rfl (Iw hr)) (pv 0) (pv 3)) (b_ (iH (HB ht rfl rfl rfl (Iw hr)) (pv 1) (pv 3)) d_))))
   (g9 (hJ (mB (ju (hU (Xo T) (hr.mono (by decide)) (b_ (pv 4) d_)) (λ_=>rfl)) iM (pv 4))))))))),?_⟩
  dsimp only[il]
  refine(a_ rfl (a_ rfl ?_))
  rw[tS]
  unfold Cp at k
  have yF:intBits (n.natAbs:Int)<=1000000:=intBits_natAbs_le lU
  have hF:intBits 10000000000000000000000000000000000000000<=140:=dt.mpr (by decide)
  refine(a_ rfl ⟨rfl,a_ rfl (iU (λc=>?_) (λc=>?_))⟩)
  ·have c':n.natAbs=0:=by simpa using c
   rw[aE c']at k
   refine⟨rfl,λx dx hx nX iJ=>k _ _ (c_.jc hx nX) ⟨dx,e_⟩⟩
  ·have c':¬n.natAbs=0:=by simpa using c
   rw[aq c']at k
   refine(a_ rfl (a_ rfl (h9 rfl rfl ⟨dP qr hF (by decide),h9 rfl rfl (a_ rfl ?_)⟩)))
   have FL:(d*10^40<=n.natAbs\/n.natAbs*10^40<=d)->Q .ia H:=λc=>by
    rw[aE c]at k
    exact k H (c_.refl _)
   refine iU (λc1=>?_) (λc1=>?_)
   ·exact iu (FL (.inl (Ej c1)))
   ·have c1:=Ei c1
    refine(a_ rfl (a_ rfl (h9 rfl rfl ⟨dP yF hF (by decide),h9 rfl rfl (a_ rfl ?_)⟩)))
    refine iU (λc2=>?_) (λc2=>?_)
    ·exact FL (.inr (Ej c2))
    ·have c2:=Ei c2
     rw[aq (λz=>z.elim c1 c2)]at k
     refine(a_ rfl (a_ rfl ⟨n.natAbs,d,rfl,?_⟩))
     generalize jW 202 n.natAbs d=g at k ⊢
     refine(a_ rfl ⟨rfl,a_ rfl (iU (λc3=>?_) (λc3=>?_))⟩)
     ·have c3:g=0:=by simpa using c3
      rw[aE c3]at k
      exact k H (c_.refl _)
     ·have c3:¬g=0:=by simpa using c3
      rw[aq c3]at k
      have hg:(0:Int)<(g:Nat):=by omega
      refine(a_ rfl (a_ rfl (h9 rfl rfl ⟨hg,a_ rfl (a_ rfl (h9 rfl rfl ⟨hg,rfl,λx dx hx nX iJ=>?_⟩))⟩)))
      have hE:iN a (upd (upd H dx (.own x)) x (.ins a.ow dx (sX [.int (n/(g:Nat)),.int ((d:Int)/(g:Nat))]))) x ⟨n/(g:Nat),d/g⟩:=⟨dx,by rw[e_];rfl⟩
      refine⟨_,rfl,x,_,rfl,hE,_,rfl,?_⟩
      refine iU (λc4=>?_) (λc4=>?_)
      ·rw[aE]at k
       ·exact k _ (c_.jc hx nX)
       ·have c4:Vaunia.near ⟨n/(g:Nat),d/g⟩=false:=by simpa using c4
        have:¬(_/\_):=λz=>absurd (k9.mpr z) (by rw[c4];exact ao)
        omega
      ·rw[aq]at k
       ·exact(a_ rfl (k _ _ (c_.jc hx nX) hE))
       ·have c4:Vaunia.near ⟨n/(g:Nat),d/g⟩=true:=by simpa using c4
        have:=k9.mp c4
        omega
end
theorem vP(s t:List UInt8):bv (s++t)=bv s++bv t:=au
theorem vR(t:List UInt8)(i:Nat):bv (t.take i)=(bv t).take i:=fg
theorem vQ(t:List UInt8)(i:Nat):bv (t.drop i)=(bv t).drop i:=d5
theorem o7(t:List UInt8):(bv t).all ng=true:=by
 unfold bv
 rw[gq]
 exact cx.mpr λx _=>rfl
theorem tX{c d:UInt8}(h:bz c=bz d):c=d:=by
 unfold bz at h
 exact UInt8.toNat_inj.mp (by omega)
theorem wR(c:UInt8)(t:List UInt8):k7 (.int (bz c)) (bv t)=decide (c∈t):=by
 rw[aH]
 unfold k7 bv
 rw[fE,cZ,ak]
 constructor
 ·rintro⟨x,hx,e⟩
  have e':(bz x == bz c)=true:=e
  rw[<-tX (gN e')];exact hx
 ·intro h
  exact⟨c,h,by show(bz c == bz c)=true;exact bY _⟩
theorem yc{t:List UInt8}{j:Nat}{c:UInt8}(h:t[j]? =some c):(bv t)[j]? =some (.int (bz c)):=by
 unfold bv;rw[bN,h];rfl
theorem AA{t:List UInt8}{j:Nat}{v:V}(h:(bv t)[j]? =some v):∃c,t[j]? =some c/\v= .int (bz c):=i8 h
theorem t6{xs:List V}{j:Nat}(h:j<=xs.length):i5 xs none (some (j:Int))=xs.take j:=by
 unfold i5
 rw[HT.u0,HT.tw,fN,cT h];rfl
theorem qd{xs:List V}{j:Nat}(h:j<=xs.length):i5 xs (some (j:Int)) none=xs.drop j:=by
 unfold i5
 rw[HT.u0,HT.tw,cT h,cu (by rw[aR];omega)]
theorem D1{xs:List V}{i j:Nat}(h1:i<=j)(h:j<=xs.length):i5 xs (some (i:Int)) (some (j:Int))=(xs.drop i).take (j-i):=by
 unfold i5
 rw[HT.tw,HT.tw,cT h,cT (by omega)]
theorem nH{k n m:Nat}(h:k<=10^n)(hm:4*n+1<=m):intBits (k:Int)<=m:=by
 refine dt.mpr ?_
 show k<2^m
 have h1:(10:Nat)^n<=16^n:=dF (by decide) n
 have h2:(16:Nat)^n=2^(4*n):=by rw[show(16:Nat)=2^4 from rfl,<-gC]
 have h3:(2:Nat)^(4*n)<2^m:=e9 (by decide) (by omega)
 omega
section
variable{P:Program}{w:World}{K:Fg}{mg:Str->Option Value}{base:Heap}{a:hC}
noncomputable def Zb(K:Fg):Sp:=λvs H R _=>∃l t,vs=[.ref l]/\f_ K H l (bv t)/\R (.bl (decide (t.head? =some 45))) H
theorem CB(T:Txt K mg a):Callee P w K mg base 1 "has_minus" ["text"] (Zb K):=by
 refine T.OU.ok aaL (λvs H Q E h=>?_) (λf h8 A outer s H vs Q E hr h=>?_)
 ·obtain⟨p,q,rfl,_⟩:=h
  rfl
 ·obtain⟨l,t,rfl,hl,k⟩:=h
  refine⟨_,g9 (hJ (tq (kF ly (i7 ka (by rfl) T.jO aV (b_ (pv 0) d_)) ij (ig _)) (pO (kF je (mW pE (pv 0) ij (λ_ _=>rfl)) (iD T.Rr) (ig _))))),?_⟩
  dsimp only[il]
  refine(a_ rfl ⟨l,a_ rfl ⟨.inl hl,h9 rfl rfl (a_ rfl ?_)⟩⟩)
  rw[i_]
  cases t with
  | nil=>exact iz k
  | cons c r=>
   rw[ah (show(0:Int)<((c::r).length:Nat) by rw[ai];omega)]
   refine iu ⟨_,rfl,l,_,_,_,rfl,rfl,hl,at_of (j:=0) rfl (yc (t:=c::r) (c:=c) rfl),rfl,?_⟩
   have e:decide (V.int (bz c)=V.int 45)=decide ((c::r).head? =some 45):=by
    rw[aH,ak,ak]
    constructor
    ·intro h
     have h':bz c=bz 45:=V.int.inj h
     rw[tX h'];rfl
    ·intro h
     have h':c=45:=ae h
     rw[h'];rfl
   rw[e]
   exact k
noncomputable def Z1(K:Fg):Sp:=λvs H R _=>∃l t,vs=[.ref l]/\f_ K H l (bv t)/\t.all Vaunia.isDigit=true/\R (.int (Vaunia.digitsVal t:Nat)) H
theorem uT(T:Txt K mg a):Callee P w K mg base 1 "whole_of" ["digits"] (Z1 K):=by
 refine T.P9.ok LS (λvs H Q E h=>?_) (λf h8 A outer s H vs Q E hr h=>?_)
 ·obtain⟨p,q,rfl,_⟩:=h
  rfl
 ·obtain⟨l,t,rfl,hl,hd,k⟩:=h
  have nd:=LS.nd
  refine⟨_,gZ (ic (i:=1) nd rfl (Or.inl rfl) ij) (gZ (lC aX rfl (kj (pv 0)) (iT (i:=2) nd rfl (Or.inl rfl))
   (g9 (ic (i:=1) nd rfl (Or.inl rfl) (iH mV (iH rO (pv 1) ij) (iH xu (pv 2) (iD T.EI)))))) (g9 (hJ (pv 1)))),?_⟩
  dsimp only[il]
  refine(a_ rfl ⟨l,rfl,⟨_,hl⟩,qY (K:=K) (a:=l) (xs:=bv t) (λi σ U=>∃r:Option V,σ=[some (.ref l),some (.int (Vaunia.digitsVal (t.take i):Nat)),r]/\U=H) ⟨none,rfl,rfl⟩ (λi σ U _ ⟨_,_,e⟩=>e▸hl) ?_ ?_⟩)
  ·rintro i x σ U hx ⟨r,rfl,rfl⟩
   obtain⟨c,hc,rfl⟩:=AA hx
   refine(a_ rfl (h9 rfl rfl ⟨.inr ⟨by decide,by decide⟩,a_ rfl (h9 rfl rfl (h9 rfl rfl ?_))⟩))
   refine⟨some (.int (bz c)),?_,rfl⟩
   have hg:=Ea (cx.mp hd c (aG hc))
   have e:((Vaunia.digitsVal (t.take i):Nat):Int)*10+(bz c-48)=(Vaunia.digitsVal (t.take (i+1)):Nat):=by
    rw[take_snoc hc,digitsVal_snoc]
    unfold bz
    omega
   show[some (V.ref l),some (V.int (((Vaunia.digitsVal (t.take i):Nat):Int)*10+(bz c-48))),some (V.int (bz c))]=_
   rw[e]
  ·rintro σ U ⟨r,rfl,rfl⟩
   rw[i_,aP]
   exact(a_ rfl k)
theorem lH.same{H U:Hp}{R:VK}{o:Option Q}(k:lH a H R o)(s:c_ H U):lH a U R o:=by
 cases o with
 | none=>exact λH2 s2=>k H2 (s.trans s2)
 | some q=>exact λp H2 s2=>k p H2 (s.trans s2)
noncomputable def ZJ(K:Fg)(a:hC):Sp:=λvs H R _=>∃l m s t,vs=[.ref l,.ref m]/\f_ K H l (bv s)/\f_ K H m (bv t)/\s.length<=500/\t.length<=500/\
 lH a H R (if Vaunia.allDigits s&&Vaunia.allDigits t&&Vaunia.digitsVal t != 0 then pK (Q.of (Vaunia.digitsVal s) (Vaunia.digitsVal t)) else none)
theorem XI(T:Txt K mg a)(ht:P.given.tree=none):Callee P w K mg base 35 "quotient_of" ["before","behind"] (ZJ K a):=by
 refine T.PF.ok Lx (λvs H Q E h=>?_) (λf h8 A outer s H vs Q E hr h=>?_)
 ·obtain⟨_,_,_,_,rfl,_⟩:=h
  rfl
 ·obtain⟨l,m,t1,t2,rfl,hl,hm,z1,z2,k⟩:=h
  have nd:=Lx.nd
  refine⟨_,gZ (iw (mD (lD (ju (hU (uS T) (hr.mono (by decide)) (b_ (pv 0) d_)) (λ_=>rfl))) (mE (lD (ju (hU (uS T) (hr.mono (by decide)) (b_ (pv 1) d_)) (λ_=>rfl))))).pt (g9 (hJ iM)) iy)
   (gZ (ic (i:=2) nd rfl (Or.inl rfl) (hU (uT T) (hr.mono (by decide)) (b_ (pv 1) d_)))
   (gZ (iw (iq je (pv 2) ij (ig _)) (g9 (hJ iM)) iy)
   (g9 (hJ (hU (zA T ht) hr (b_ (hU (uT T) (hr.mono (by decide)) (b_ (pv 0) d_)) (b_ (pv 2) d_))))))),?_⟩
  dsimp only[il]
  refine⟨_,rfl,l,t1,rfl,hl,by omega,λH1 s1=>⟨_,rfl,?_⟩⟩
  cases d1:Vaunia.allDigits t1 with
  | false=>
   rw[d1]at k
   exact iu (iu (k _ s1))
  | true=>
   rw[d1]at k
   refine iz ⟨_,rfl,m,t2,rfl,s1.seq hm,by omega,λH2 s2=>⟨_,rfl,?_⟩⟩
   have s2:=s1.trans s2
   cases d2:Vaunia.allDigits t2 with
   | false=>
    rw[d2]at k
    exact iu (k _ s2)
   | true=>
    rw[d2]at k
    refine iz (a_ rfl ⟨m,t2,rfl,s2.seq hm,oq d2,?_⟩)
    refine(a_ rfl ⟨rfl,a_ rfl (iU (λc=>?_) (λc=>?_))⟩)
    ·have c:Vaunia.digitsVal t2=0:=by simpa using c
     rw[c]at k
     exact k _ s2
    ·have c:¬Vaunia.digitsVal t2=0:=by simpa using c
     have ck:(Vaunia.digitsVal t2 != 0)=true:=by simpa using c
     rw[ck]at k
     refine(a_ rfl ⟨l,t1,rfl,s2.seq hl,oq d1,a_ rfl ⟨(Vaunia.digitsVal t1:Nat),Vaunia.digitsVal t2,rfl,by omega,?_,?_,?_⟩⟩)
     ·exact nH (aI (vZ t1 (oq d1))) (by omega)
     ·exact nH (aI (vZ t2 (oq d2))) (by omega)
     ·exact k.same s2
end
section
variable{P:Program}{w:World}{K:Fg}{mg:Str->Option Value}{base:Heap}{a:hC}
noncomputable def Y0(a:hC):Sp:=λvs H R _=>∃l m s t,vs=[.ref l,.ref m]/\H l=some (.lst (bv s))/\H m=some (.lst (bv t))/\s.length<=500/\t.length<=500/\
 lH a H R (if Vaunia.allDigits s&&Vaunia.allDigits t then pK (Q.of (Vaunia.digitsVal (s++t)) (10^t.length)) else none)
theorem Xe(T:Txt K mg a)(ht:P.given.tree=none):Callee P w K mg base 35 "decimal_of" ["before","behind"] (Y0 a):=by
 refine T.OG.ok K4 (λvs H Q E h=>?_) (λf h8 A outer s H vs Q E hr h=>?_)
 ·obtain⟨_,_,_,_,rfl,_⟩:=h
  rfl
 ·obtain⟨l,m,t1,t2,rfl,hl,hm,z1,z2,k⟩:=h
  have nd:=K4.nd
  refine⟨_,gZ (iw (mD (lD (ju (hU (uS T) (hr.mono (by decide)) (b_ (pv 0) d_)) (λ_=>rfl))) (mE (lD (ju (hU (uS T) (hr.mono (by decide)) (b_ (pv 1) d_)) (λ_=>rfl))))).pt (g9 (hJ iM)) iy)
   (g9 (hJ (hU (zA T ht) hr (b_ (hU (uT T) (hr.mono (by decide)) (b_ (iH kS (pv 0) (pv 1)) d_)) (b_ (hU (tf T) (hr.mono (by decide)) (b_ ij (b_ (i7 ka (by rfl) T.jO aV (b_ (pv 1) d_)) d_))) d_))))),?_⟩
  dsimp only[il]
  refine⟨_,rfl,l,t1,rfl,f_.of hl,by omega,λH1 s1=>⟨_,rfl,?_⟩⟩
  cases d1:Vaunia.allDigits t1 with
  | false=>
   rw[d1]at k
   exact iu (iu (k _ s1))
  | true=>
   rw[d1]at k
   refine iz ⟨_,rfl,m,t2,rfl,f_.of (s1 _ _ hm),by omega,λH2 s2=>⟨_,rfl,?_⟩⟩
   have s2:=s1.trans s2
   cases d2:Vaunia.allDigits t2 with
   | false=>
    rw[d2]at k
    exact iu (k _ s2)
   | true=>
    rw[d2]at k
    have hd:=Nr d1 d2
    refine iz (a_ rfl (a_ rfl ⟨l,m,h9 rfl rfl ⟨s2 _ _ hl,s2 _ _ hm,by rw[i_,i_];exact aI (iV (by omega)),λp hp=>?_⟩⟩))
    have s3:c_ H (upd H2 p (.lst (bv t1++bv t2))):=s2.trans (c_.new hp)
    refine(⟨p,t1++t2,rfl,f_.of (by rw[e_,vP]),oq hd,a_ rfl ⟨m,a_ rfl ⟨.inl (f_.of (s3 _ _ hm)),10,t2.length,by rw[i_];rfl,by decide,z2,?_⟩⟩⟩)
    refine⟨(Vaunia.digitsVal (t1++t2):Nat),10^t2.length,by rw[bH];rfl,eR (by decide),?_,?_,k.same s3⟩
    ·exact nH (aI (vZ (t1++t2) (oq hd))) (by rw[aj];omega)
    ·exact nH (ax _) (by omega)
theorem wU{c:UInt8}{t:List UInt8}{j:Nat}(h1:t[j]? =some c)(h2:∀(m:Nat) (z:UInt8),m<j->t[m]? =some z->z≠c):
 (bv t)[j]? =some (.int (bz c))/\nU (.int (bz c)) (.int (bz c))=true/\∀(m:Nat) (z':V),m<j->(bv t)[m]? =some z'->nU z' (.int (bz c))=false:=by
 refine⟨yc h1,bY _,λm z' hm hz=>?_⟩
 obtain⟨d,hd,rfl⟩:=AA hz
 show(bz d == bz c)=false
 exact bX.mpr λe=>h2 m d hm hd (tX e)
noncomputable def Z0(K:Fg)(a:hC):Sp:=λvs H R _=>∃l t,vs=[.ref l]/\f_ K H l (bv t)/\t.length<=500/\lH a H R (oh t)
theorem Hw(T:Txt K mg a)(ht:P.given.tree=none):Callee P w K mg base 36 "unsigned_number_of" ["text"] (Z0 K a):=by
 refine T.P8.ok LR (λvs H Q E h=>?_) (λf h8 A outer s H vs Q E hr h=>?_)
 ·obtain⟨_,_,rfl,_⟩:=h
  rfl
 ·obtain⟨l,t,rfl,hl,hz,k⟩:=h
  have nd:=LR.nd
  refine⟨_,gZ (iw (iq zF (iD T.wa) (pv 0) (by with_unfolding_all rfl))
   (gZ (ic (i:=1) nd rfl (Or.inl rfl) (lP aT cV dA w_ (pv 0) (b_ (iD T.wa) d_)))
   (g9 (hJ (hU (XI T ht) hr (b_ (lQ mF (pv 0) mC (k_ (pv 1))) (b_ (lQ mF (pv 0) (k_ (iH mV (pv 1) ij)) mC) d_)))))) iy)
   (gZ (iw (iq zF (iD T.yB) (pv 0) (by with_unfolding_all rfl))
    (gZ (ic (i:=1) nd rfl (Or.inl rfl) (lP aT cV dA w_ (pv 0) (b_ (iD T.yB) d_)))
    (g9 (hJ (hU (Xe T ht) hr (b_ (lQ mF (pv 0) mC (k_ (pv 1))) (b_ (lQ mF (pv 0) (k_ (iH mV (pv 1) ij)) mC) d_)))))) iy)
   (gZ (iw (lD (ju (hU (uS T) (hr.mono (by decide)) (b_ (pv 0) d_)) (λ_=>rfl))) (g9 (hJ iM)) iy)
   (g9 (hJ (hU (zA T ht) (hr.mono (by decide)) (b_ (hU (uT T) (hr.mono (by decide)) (b_ (pv 0) d_)) (b_ ij d_))))))),?_⟩
  dsimp only[il]
  refine(a_ rfl ⟨l,a_ rfl ⟨.inl hl,rfl,o7 t,a_ rfl ?_⟩⟩)
  have AM:k7 (.int 47) (bv t)=decide ((47:UInt8)∈t):=wR 47 t
  have QA:k7 (.int 46) (bv t)=decide ((46:UInt8)∈t):=wR 46 t
  show if (if false=true then !k7 (V.int 47) (bv t) else k7 (V.int 47) (bv t))=true then _ else _
  rw[aq ao,AM]
  refine iU (λc=>?_) (λc=>?_)
  ·obtain⟨j,h1,h2⟩:=qg (aL c)
   rw[ab_ h1 h2]at k
   have hj:=ja h1
   obtain⟨i1,i2,i3⟩:=wU h1 h2
   refine(a_ rfl ⟨.inl ⟨rfl,_,hl⟩,l,bv t,_,j,a_ rfl ⟨rfl,hl,rfl,o7 t,i1,i2,i3,?_⟩⟩)
   refine(a_ rfl (a_ rfl (a_ rfl ⟨l,a_ rfl ⟨hl,λp hp=>(a_ rfl (a_ rfl (h9 rfl rfl (a_ rfl ⟨l,a_ rfl ⟨(c_.new hp).seq hl,λp2 jA=>?_⟩⟩))))⟩⟩)))
   have s1:c_ H (upd H p (.lst (i5 (bv t) none (some (j:Int))))):=c_.new hp
   have s2:c_ (upd H p (.lst (i5 (bv t) none (some (j:Int))))) (upd (upd H p (.lst (i5 (bv t) none (some (j:Int))))) p2 (.lst (i5 (bv t) (some ((j:Int)+1)) none))):=c_.new jA
   have c1:i5 (bv t) none (some (j:Int))=bv (t.take j):=by rw[t6 (by rw[i_];omega),vR]
   have c2:i5 (bv t) (some ((j:Int)+1)) none=bv (t.drop (j+1)):=by
    rw[show((j:Int)+1)=((j+1:Nat):Int) by omega,qd (by rw[i_];omega),vQ]
   refine⟨p,p2,t.take j,t.drop (j+1),rfl,f_.of (s2 _ _ (by rw[e_,c1])),f_.of (by rw[e_,c2]),by rw[aB];omega,by rw[aR];omega,k.same (s1.trans s2)⟩
  ·have GJ:(47:UInt8)∉t:=λh=>c (ah h)
   refine(a_ rfl ⟨l,a_ rfl ⟨.inl hl,rfl,o7 t,a_ rfl ?_⟩⟩)
   show if (if false=true then !k7 (V.int 46) (bv t) else k7 (V.int 46) (bv t))=true then _ else _
   rw[aq ao,QA]
   refine iU (λc=>?_) (λc=>?_)
   ·obtain⟨j,h1,h2⟩:=qg (aL c)
    rw[ab9 GJ h1 h2]at k
    have hj:=ja h1
    obtain⟨i1,i2,i3⟩:=wU h1 h2
    refine(a_ rfl ⟨.inl ⟨rfl,_,hl⟩,l,bv t,_,j,a_ rfl ⟨rfl,hl,rfl,o7 t,i1,i2,i3,?_⟩⟩)
    refine(a_ rfl (a_ rfl (a_ rfl ⟨l,a_ rfl ⟨hl,λp hp=>(a_ rfl (a_ rfl (h9 rfl rfl (a_ rfl ⟨l,a_ rfl ⟨(c_.new hp).seq hl,λp2 jA=>?_⟩⟩))))⟩⟩)))
    have s1:c_ H (upd H p (.lst (i5 (bv t) none (some (j:Int))))):=c_.new hp
    have s2:c_ (upd H p (.lst (i5 (bv t) none (some (j:Int))))) (upd (upd H p (.lst (i5 (bv t) none (some (j:Int))))) p2 (.lst (i5 (bv t) (some ((j:Int)+1)) none))):=c_.new jA
    have c1:i5 (bv t) none (some (j:Int))=bv (t.take j):=by rw[t6 (by rw[i_];omega),vR]
    have c2:i5 (bv t) (some ((j:Int)+1)) none=bv (t.drop (j+1)):=by
     rw[show((j:Int)+1)=((j+1:Nat):Int) by omega,qd (by rw[i_];omega),vQ]
    refine⟨p,p2,t.take j,t.drop (j+1),rfl,s2 _ _ (by rw[e_,c1]),by rw[e_,c2],by rw[aB];omega,by rw[aR];omega,k.same (s1.trans s2)⟩
   ·have V6:(46:UInt8)∉t:=λh=>c (ah h)
    rw[ab8 GJ V6]at k
    refine⟨_,rfl,l,t,rfl,hl,by omega,λH1 s1=>⟨_,rfl,?_⟩⟩
    cases d1:Vaunia.allDigits t with
    | false=>
     rw[d1]at k
     exact iu (k _ s1)
    | true=>
     rw[d1]at k
     refine iz (a_ rfl ⟨l,t,rfl,s1.seq hl,oq d1,(Vaunia.digitsVal t:Nat),1,rfl,by decide,?_,by decide,?_⟩)
     ·exact nH (aI (vZ t (oq d1))) (by omega)
     ·rw[Hb]
      exact k.same s1
noncomputable def Zw(K:Fg)(a:hC):Sp:=λvs H R _=>∃l t,vs=[.ref l]/\f_ K H l (bv t)/\lH a H R (Vaunia.numberOf t)
theorem XC(T:Txt K mg a)(ht:P.given.tree=none):Callee P w K mg base 37 "number_of" ["text"] (Zw K a):=by
 refine T.Pn.ok Ll (λvs H Q E h=>?_) (λf h8 A outer s H vs Q E hr h=>?_)
 ·obtain⟨_,_,rfl,_⟩:=h
  rfl
 ·obtain⟨l,t,rfl,hl,k⟩:=h
  have nd:=Ll.nd
  refine⟨_,gZ (iw (iq ly (i7 ka (by rfl) T.jO aV (b_ (pv 0) d_)) (iD T.Rq) (ig _)) (g9 (hJ iM)) iy)
   (gZ (iw (lD (ju (hU (CB T) (hr.mono (by decide)) (b_ (pv 0) d_)) (λ_=>rfl))) (g9 (hJ (hU (Hw T ht) hr (b_ (pv 0) d_)))) iy)
   (gZ (ic (i:=1) nd rfl (Or.inl rfl) (hU (Hw T ht) hr (b_ (lQ mF (pv 0) (k_ ij) mC) d_)))
   (g9 (hJ (mB (iq l0 (pv 1) iM (ig _)) iM (jk (pJ T) (hr.mono (by decide)) (b_ (uV vc (hG (pv 1) rfl)) (b_ (hG (pv 1) rfl) d_)))))))),?_⟩
  dsimp only[il]
  refine(a_ rfl ⟨l,a_ rfl ⟨.inl hl,h9 rfl rfl (a_ rfl ?_)⟩⟩)
  rw[i_]
  by_cases hz:90<t.length
  ·have e:Vaunia.numberOf t=none:=by unfold Vaunia.numberOf;rw[aE hz]
   rw[e]at k
   rw[ah (show(90:Int)<(t.length:Nat) by omega)]
   exact iu (k _ (c_.refl _))
  ·rw[az (show ¬(90:Int)<(t.length:Nat) by omega)]
   refine iz ⟨_,rfl,l,t,rfl,hl,_,rfl,?_⟩
   by_cases hm:t.head? =some 45
   ·obtain⟨r,rfl⟩:∃r,t=45::r:=by
     cases t with
     | nil=>cases hm
     | cons c r=>exact⟨r,by rw[ae hm]⟩
    rw[ah hm]
    rw[WA,aq (show ¬90<r.length+1 from hz)]at k
    refine iz (a_ rfl (a_ rfl ⟨l,a_ rfl ⟨hl,λp hp=>?_⟩⟩))
    have c1:i5 (bv (45::r)) (some 1) none=bv r:=by
     rw[show(1:Int)=((1:Nat):Int) from rfl,qd (by rw[i_,ai];omega)];rfl
    have s1:c_ H (upd H p (.lst (i5 (bv (45::r)) (some 1) none))):=c_.new hp
    refine⟨p,r,rfl,f_.of (by rw[e_,c1]),by rw[ai]at hz;omega,?_⟩
    cases hu:oh r with
    | none=>
     rw[hu]at k
     refine λH2 s2=>⟨_,rfl,rfl,_,rfl,iu (k _ (s1.trans s2))⟩
    | some q=>
     rw[hu]at k
     rintro p2 H2 s2 ⟨dx,jA⟩
     refine(a_ rfl ⟨rfl,a_ rfl (iz (a_ rfl (hX rfl jA T.iQ.cl T.jN rfl (a_ rfl (a_ rfl (hX rfl jA T.iQ.cl T.jM rfl ⟨rfl,λx dy hx iY iJ=>?_⟩))))))⟩)
     exact k _ _ ((s1.trans s2).trans (c_.jc hx iY)) ⟨dy,e_⟩
   ·rw[az hm]
    rw[WB (λr e=>hm (by rw[e];rfl)),aq hz]at k
    exact iu (a_ rfl ⟨l,t,rfl,hl,by omega,k⟩)
end
noncomputable def Zip{α β:Type}(R:α->β->Prop)(xs:List α)(ys:List β):Prop:=xs.length=ys.length/\∀(i:Nat) (x:α) (y:β),xs[i]? =some x->ys[i]? =some y->R x y
section
variable{α β:Type}{R R':α->β->Prop}{xs:List α}{ys:List β}
theorem Zip.nil:Zip R [] []:=⟨rfl,λi x y h=>by simp at h⟩
theorem Zip.mono(h:Zip R xs ys)(m:∀x y,R x y->R' x y):Zip R' xs ys:=⟨h.1,λi x y h1 h2=>m x y (h.2 i x y h1 h2)⟩
theorem Zip.snoc{x:α}{y:β}(h:Zip R xs ys)(r:R x y):Zip R (xs++[x]) (ys++[y]):=by
 refine⟨by rw[aj,aj,h.1];rfl,λi u v h1 h2=>?_⟩
 by_cases hi:i<xs.length
 ·rw[cg hi]at h1
  rw[cg (by rw[<-h.1];exact hi)]at h2
  exact h.2 i u v h1 h2
 ·have l1:=ja h1
  rw[aj,aA]at l1
  have e:i=xs.length:=by omega
  subst e
  rw[bD (ax _),eC]at h1
  rw[bD (by rw[h.1];exact ax _),h.1,eC]at h2
  have e1:x=u:=ae h1
  have e2:y=v:=ae h2
  rw[<-e1,<-e2];exact r
theorem Zip.right(h:Zip R xs ys){i:Nat}{x:α}(hx:xs[i]? =some x):∃y,ys[i]? =some y/\R x y:=by
 have hi:i<ys.length:=by rw[<-h.1];exact ja hx
 exact⟨_,ay hi,h.2 i x _ hx (ay hi)⟩
theorem Zip.left(h:Zip R xs ys){i:Nat}{y:β}(hy:ys[i]? =some y):∃x,xs[i]? =some x/\R x y:=by
 have hi:i<xs.length:=by rw[h.1];exact ja hy
 exact⟨_,ay hi,h.2 i _ y (ay hi) hy⟩
end
noncomputable def jC(H:Hp)(p:Addr)(t:List UInt8):Prop:=H p=some (.tup (bv t))
noncomputable def nQ(H:Hp)(p:Addr)(f:Vaunia.Factor):Prop:=∃n,H p=some (.tup [.ref n,.int f.2])/\jC H n f.1
noncomputable def j9(H:Hp)(l:Addr)(fs:List Vaunia.Factor):Prop:=∃ps:List Addr,H l=some (.lst (ps.map V.ref))/\Zip (nQ H) ps fs
theorem nQ.same{H U:Hp}{p:Addr}{f:Vaunia.Factor}(h:nQ H p f)(s:c_ H U):nQ U p f:=by
 obtain⟨n,h1,h2⟩:=h
 exact⟨n,s _ _ h1,s _ _ h2⟩
theorem j9.same{H U:Hp}{l:Addr}{fs:List Vaunia.Factor}(h:j9 H l fs)(s:c_ H U):j9 U l fs:=by
 obtain⟨ps,h1,h2⟩:=h
 exact⟨ps,s _ _ h1,h2.mono λx y r=>r.same s⟩
noncomputable def om(H:Hp)(R:VK):Option Int->Prop
 | none=>∀U,c_ H U->R .ia U
 | some k=>∀U,c_ H U->R (.int k) U
theorem om.same{H U:Hp}{R:VK}{o:Option Int}(k:om H R o)(s:c_ H U):om U R o:=by
 cases o with
 | none=>exact λH2 s2=>k H2 (s.trans s2)
 | some q=>exact λH2 s2=>k H2 (s.trans s2)
noncomputable def vG(H:Hp)(R:VK):Option Vaunia.Factor->Prop
 | none=>∀U,c_ H U->R .ia U
 | some f=>∀p U,c_ H U->nQ U p f->R (.ref p) U
theorem vG.same{H U:Hp}{R:VK}{o:Option Vaunia.Factor}(k:vG H R o)(s:c_ H U):vG U R o:=by
 cases o with
 | none=>exact λH2 s2=>k H2 (s.trans s2)
 | some q=>exact λp H2 s2=>k p H2 (s.trans s2)
noncomputable def k6(t:List UInt8):Option Vaunia.Factor:=match Vaunia.cut 94 t with
 | some (n,k)=>if Vaunia.isName n then (Vaunia.powerOf k).map λk=>(n,k) else none
 | none=>if Vaunia.isName t then some (t,1) else none
theorem Yt{t:List UInt8}(h:∀r,t≠45::r):Vaunia.powerOf t=Vaunia.smallNat t:=by
 unfold Vaunia.powerOf
 split
 ·rename_i r;exact absurd rfl (h r)
 ·rfl
section
variable{P:Program}{w:World}{K:Fg}{mg:Str->Option Value}{base:Heap}{a:hC}
theorem V7(c:UInt8):rF (bz c)=(Vaunia.isSmall c||Vaunia.isDigit c||c == 95):=by
 unfold rF
 rw[L9,D9]
 have e:decide (bz c=95)=(c == 95):=by
  rw[aH,ak,dM]
  exact⟨λh=>tX (d:=95) h,λh=>by rw[h];rfl⟩
 rw[e]
noncomputable def Zi(K:Fg):Sp:=λvs H R _=>∃l t,vs=[.ref l]/\f_ K H l (bv t)/\∀U,c_ H U->R (.bl (Vaunia.isName t)) U
theorem Hj(T:Txt K mg a):Callee P w K mg base 3 "is_name" ["text"] (Zi K):=by
 refine T.O3.ok Lb (λvs H Q E h=>?_) (λf h8 A outer s H vs Q E hr h=>?_)
 ·obtain⟨_,_,rfl,_⟩:=h
  rfl
 ·obtain⟨l,t,rfl,hl,k⟩:=h
  have nd:=Lb.nd
  refine⟨_,gZ (iw (mD (iq je (i7 ka (by rfl) T.jO aV (b_ (pv 0) d_)) ij (ig _)) (mE (iq ly (i7 ka (by rfl) T.jO aV (b_ (pv 0) d_)) (iD T.Rp) (ig _)))).pt (g9 (hJ l6)) iy)
   (g9 (hJ (tq (hU (Hk T) (hr.mono (by decide)) (b_ (mW pE (pv 0) ij (λ_ _=>rfl)) d_))
    (pO (i7 (AH rfl) (by rfl) T.As (by decide +kernel) (b_ (lA (own:=[("sign",1)]) rfl nd (kj (pv 0)) (j_ rfl) (λ_ _ _ _ _=>iT (i:=1) nd rfl (Or.inl rfl)) (λ_ _ _ _ _=>kT)
     (λ_ _ _ _ _=>hU (Xr T) hr (b_ (pv 1) d_))) d_)))))),?_⟩
  dsimp only[il]
  refine(a_ rfl ⟨l,a_ rfl ⟨.inl hl,rfl,a_ rfl ?_⟩⟩)
  rw[i_]
  cases t with
  | nil=>exact iu (iu (k _ (c_.refl _)))
  | cons c r=>
   have e1:decide (V.int (((c::r).length:Nat):Int)=V.int 0)=false:=by
    rw[ai]
    exact az λh=>by have:=V.int.inj h;omega
   rw[e1]
   refine iz (a_ rfl ⟨l,a_ rfl ⟨.inl hl,h9 rfl rfl (a_ rfl ?_)⟩⟩)
   rw[i_]
   by_cases hz:12<(c::r).length
   ·rw[ah (show(12:Int)<((c::r).length:Nat) by omega)]
    have e:Vaunia.isName (c::r)=false:=by
     unfold Vaunia.isName
     simp only
     rw[az (by omega),Bool.and_false]
    rw[e]at k
    exact iu (k _ (c_.refl _))
   ·rw[az (show ¬(12:Int)<((c::r).length:Nat) by omega)]
    have e:Vaunia.isName (c::r)=(Vaunia.isSmall c&&((c::r).map λd=>rF (bz d)).all id):=by
     unfold Vaunia.isName
     simp only
     rw[ah (by omega),Bool.and_true,gq,ff]
     cases hs:Vaunia.isSmall c with
     | false=>rfl
     | true=>
      have:(id∘λd=>rF (bz d))=λd=>Vaunia.isSmall d||Vaunia.isDigit d||d == 95:=by
       funext d;exact V7 d
      rw[this]
      simp[hs]
    rw[e]at k
    refine iz ⟨_,rfl,l,_,_,_,rfl,rfl,hl,at_of (j:=0) rfl (yc (t:=c::r) (c:=c) rfl),bz c,rfl,_,rfl,?_⟩
    rw[L9]
    cases hs:Vaunia.isSmall c with
    | false=>
     rw[hs]at k
     exact iz (k _ (c_.refl _))
    | true=>
     rw[hs]at k
     refine iu (a_ rfl ⟨l,rfl,⟨_,hl⟩,λD hD=>mq (xs:=bv (c::r)) (λi U=>kY H D (((c::r).take i).map λc=>V.bl (rF (bz c))) U) (lZ hD) (λi U _ p=>p.1.seq hl) (λi x U hx p=>?_) (λU p=>?_)⟩)
     ·obtain⟨d,hd,rfl⟩:=AA hx
      have hi:=ja hd
      refine(⟨rfl,a_ rfl ⟨bz d,rfl,?_⟩⟩)
      refine lY hD p (c_.refl _) (by rw[ab,aB];exact iV (by omega)) ?_
      rw[take_snoc hd,au];rfl
     ·refine⟨D,(c::r).map λd=>rF (bz d),rfl,f_.of ?_,k _ p.1⟩
      have p2:=p.2
      rw[i_,aP]at p2
      rw[p2,bu];rfl
noncomputable def ZE(K:Fg):Sp:=λvs H R _=>∃l t,vs=[.ref l]/\f_ K H l (bv t)/\t.length<=500/\om H R (Vaunia.powerOf t)
theorem XH(T:Txt K mg a):Callee P w K mg base 4 "power_of" ["text"] (ZE K):=by
 refine T.Pw.ok Ls (λvs H Q E h=>?_) (λf h8 A outer s H vs Q E hr h=>?_)
 ·obtain⟨_,_,rfl,_⟩:=h
  rfl
 ·obtain⟨l,t,rfl,hl,hz,k⟩:=h
  have nd:=Ls.nd
  refine⟨_,gZ (ic (i:=1) nd rfl (Or.inl rfl) (mB (ju (hU (CB T) (hr.mono (by decide)) (b_ (pv 0) d_)) (λ_=>rfl)) (lQ mF (pv 0) (k_ ij) mC) (pv 0)))
   (gZ (iw (mD (lD (ju (hU (uS T) (hr.mono (by decide)) (b_ (pv 1) d_)) (λ_=>rfl))) (mE (iq ly (i7 ka (by rfl) T.jO aV (b_ (pv 1) d_)) (iD T.Rz) (ig _)))).pt (g9 (hJ iM)) iy)
   (g9 (hJ (mB (ju (hU (CB T) (hr.mono (by decide)) (b_ (pv 0) d_)) (λ_=>rfl)) (uV vc (hU (uT T) (hr.mono (by decide)) (b_ (pv 1) d_))) (hU (uT T) (hr.mono (by decide)) (b_ (pv 1) d_)))))),?_⟩
  dsimp only[il]
  refine⟨_,rfl,l,t,rfl,hl,_,rfl,?_⟩
  refine UP (λv H0=>∃m d,v= .ref m/\c_ H H0/\f_ K H0 m (bv d)/\d.length<=500/\om H Q ((Vaunia.smallNat d).map λk=>if decide (t.head? =some 45) then -k else k)) (λc R hR=>?_) (λc R hR=>?_) ?_
  ·obtain⟨r,rfl⟩:∃r,t=45::r:=by
    cases t with
    | nil=>cases aL c
    | cons x r=>exact⟨r,by rw[ae (aL c)]⟩
   refine(a_ rfl (a_ rfl ⟨l,a_ rfl ⟨hl,λp hp=>hR _ _ ⟨p,r,rfl,c_.new hp,f_.of ?_,by rw[ai]at hz;omega,?_⟩⟩⟩))
   ·rw[e_,show(1:Int)=((1:Nat):Int) from rfl,qd (by rw[i_,ai];omega)];rfl
   ·rw[c]
    exact k
  ·refine(a_ rfl (hR _ _ ⟨l,t,rfl,c_.refl _,hl,hz,?_⟩))
   rw[c]
   rw[Yt (λr e=>absurd (eB c) (by rw[e];simp))]at k
   have e:(Vaunia.smallNat t).map (λk=>if false=true then -k else k)=Vaunia.smallNat t:=by
    cases Vaunia.smallNat t<;>rfl
   rw[e];exact k
  ·rintro v H0 ⟨m,d,rfl,s0,hm,hd,k⟩
   unfold Vaunia.smallNat at k
   refine⟨_,rfl,m,d,rfl,hm,by omega,λH1 s1=>⟨_,rfl,?_⟩⟩
   have wy:=s1.seq hm
   have s1:=s0.trans s1
   cases d1:Vaunia.allDigits d with
   | false=>
    rw[d1]at k
    exact iu (iu (k _ s1))
   | true=>
    rw[d1]at k
    refine iz (a_ rfl ⟨m,a_ rfl ⟨.inl wy,h9 rfl rfl (a_ rfl ?_)⟩⟩)
    rw[i_]
    by_cases jd:d.length<=2
    ·rw[ah jd]at k
     rw[az (show ¬(2:Int)<(d.length:Nat) by omega)]
     refine iz ⟨_,rfl,l,t,rfl,s1.seq hl,_,rfl,?_⟩
     refine iU (λc=>?_) (λc=>?_)
     ·rw[aE (by decide)]at k
      refine(a_ rfl ⟨m,d,rfl,wy,oq d1,a_ rfl ?_⟩)
      have k:=k _ s1
      rw[c]at k
      exact k
     ·rw[aE (by decide)]at k
      refine(a_ rfl ⟨m,d,rfl,wy,oq d1,?_⟩)
      have k:=k _ s1
      rw[bj.mpr c]at k
      exact k
    ·rw[az jd]at k
     rw[ah (show(2:Int)<(d.length:Nat) by omega)]
     exact iu (k _ s1)
end
section
variable{P:Program}{w:World}{K:Fg}{mg:Str->Option Value}{base:Heap}{a:hC}
noncomputable def oV:Option Int->V
 | none=>.ia
 | some k=>.int k
noncomputable def Y5(K:Fg):Sp:=λvs H R _=>∃l t,vs=[.ref l]/\f_ K H l (bv t)/\t.length<=500/\vG H R (k6 t)
theorem CA(T:Txt K mg a):Callee P w K mg base 5 "factor_of" ["piece"] (Y5 K):=by
 refine T.OL.ok K6 (λvs H Q E h=>?_) (λf h8 A outer s H vs Q E hr h=>?_)
 ·obtain⟨_,_,rfl,_⟩:=h
  rfl
 ·obtain⟨l,t,rfl,hl,hz,k⟩:=h
  have nd:=K6.nd
  refine⟨_,gZ (ic (i:=1) nd rfl (Or.inl rfl) (pv 0)) (gZ (ic (i:=2) nd rfl (Or.inl rfl) ij)
   (gZ (iw (iq zF (iD T.A5) (pv 0) (by with_unfolding_all rfl))
    (gZ (ic (i:=3) nd rfl (Or.inl rfl) (lP aT cV dA w_ (pv 0) (b_ (iD T.A5) d_)))
    (gZ (ic (i:=1) nd rfl (Or.inl rfl) (lQ mF (pv 0) mC (k_ (pv 3))))
    (g9 (ic (i:=2) nd rfl (Or.inl rfl) (hU (XH T) hr (b_ (lQ mF (pv 0) (k_ (iH mV (pv 3) ij)) mC) d_)))))) iy)
   (gZ (iw (mD (iq l0 (pv 2) iM (ig _)) (mE (lD (ju (hU (Hj T) (hr.mono (by decide)) (b_ (pv 1) d_)) (λ_=>rfl))))).pt (g9 (hJ iM)) iy)
   (g9 (hJ (rQ (b_ (l7 t5 (by rfl) T.tU (by decide +kernel) (b_ (pv 1) d_)) (b_ (pv 2) d_)))))))),?_⟩
  dsimp only[il]
  refine(a_ rfl (a_ rfl ⟨l,a_ rfl ⟨.inl hl,rfl,o7 t,a_ rfl ?_⟩⟩))
  have QB:k7 (.int 94) (bv t)=decide ((94:UInt8)∈t):=wR 94 t
  show if (if false=true then !k7 (V.int 94) (bv t) else k7 (V.int 94) (bv t))=true then _ else _
  rw[aq ao,QB]
  refine BV (λik U=>∃(m:Addr) (n:List UInt8) (pl:Option V) (o:Option Int),ik=[some (.ref l),some (.ref m),some (oV o),pl]/\c_ H U/\f_ K U m (bv n)/\k6 t=if Vaunia.isName n then o.map (λk=>(n,k)) else none) (λc nx hR=>?_) (λc nx hR=>?_) ?_
  ·obtain⟨j,h1,h2⟩:=qg (aL c)
   have hj:=ja h1
   obtain⟨i1,i2,i3⟩:=wU h1 h2
   refine(a_ rfl ⟨.inl ⟨rfl,_,hl⟩,l,bv t,_,j,a_ rfl ⟨rfl,hl,rfl,o7 t,i1,i2,i3,?_⟩⟩)
   refine(a_ rfl (a_ rfl (a_ rfl ⟨l,a_ rfl ⟨hl,λp hp=>?_⟩⟩)))
   refine(a_ rfl (a_ rfl (h9 rfl rfl (a_ rfl ⟨l,a_ rfl ⟨(c_.new hp).seq hl,λp2 jA=>?_⟩⟩))))
   have s1:c_ H (upd H p (.lst (i5 (bv t) none (some (j:Int))))):=c_.new hp
   have s2:c_ (upd H p (.lst (i5 (bv t) none (some (j:Int))))) (upd (upd H p (.lst (i5 (bv t) none (some (j:Int))))) p2 (.lst (i5 (bv t) (some ((j:Int)+1)) none))):=c_.new jA
   have c1:i5 (bv t) none (some (j:Int))=bv (t.take j):=by rw[t6 (by rw[i_];omega),vR]
   have c2:i5 (bv t) (some ((j:Int)+1)) none=bv (t.drop (j+1)):=by
    rw[show((j:Int)+1)=((j+1:Nat):Int) by omega,qd (by rw[i_];omega),vQ]
   have hn:f_ K (upd (upd H p (.lst (i5 (bv t) none (some (j:Int))))) p2 (.lst (i5 (bv t) (some ((j:Int)+1)) none))) p (bv (t.take j)):=f_.of (s2 _ _ (by rw[e_,c1]))
   have ef:k6 t=if Vaunia.isName (t.take j) then (Vaunia.powerOf (t.drop (j+1))).map (λk=>(t.take j,k)) else none:=by
    unfold k6
    rw[m_ h1 h2]
   refine⟨p2,t.drop (j+1),rfl,f_.of (by rw[e_,c2]),by rw[aR];omega,?_⟩
   generalize Vaunia.powerOf (t.drop (j+1))=o at ef
   cases o with
   | none=>exact λU s3=>hR _ _ ⟨p,t.take j,_,none,rfl,(s1.trans s2).trans s3,s3.seq hn,ef⟩
   | some z=>exact λU s3=>hR _ _ ⟨p,t.take j,_,some z,rfl,(s1.trans s2).trans s3,s3.seq hn,ef⟩
  ·refine hR _ _ ⟨l,t,_,some 1,rfl,c_.refl _,hl,?_⟩
   unfold k6
   rw[mM (eB c)]
   rfl
  ·rintro ik U ⟨m,n,pl,o,rfl,s1,hn,ef⟩
   rw[ef]at k
   cases o with
   | none=>
    have k:vG H Q none:=by
     cases hh:Vaunia.isName n with
     | true=>rw[hh]at k;exact k
     | false=>rw[hh]at k;exact k
    exact⟨_,rfl,rfl,_,rfl,iu (iu (k _ s1))⟩
   | some z=>
    refine⟨_,rfl,rfl,_,rfl,iz ⟨_,rfl,m,n,rfl,hn,λH2 s2=>⟨_,rfl,?_⟩⟩⟩
    cases hh:Vaunia.isName n with
    | false=>
     rw[hh]at k
     exact iu (k _ (s1.trans s2))
    | true=>
     rw[hh]at k
     refine iz (a_ rfl ⟨m,a_ rfl (.inl ⟨s2.seq hn,λq hq=>?_⟩)⟩)
     refine(a_ rfl ⟨by show 2<=sizeLine;decide,λq2 kK=>?_⟩)
     exact k q2 _ (((s1.trans s2).trans (c_.new hq)).trans (c_.new kK)) ⟨q,e_,(c_.new kK) _ _ e_⟩
end
theorem Yq{tr:Bool}{got r:List UInt8}{c:UInt8}(h:(c == 46||c == 47)=true):Vaunia.pieces tr got (c::r)=(tr,got.reverse)::Vaunia.pieces (c == 47) [] r:=by
 conv=>lhs;unfold Vaunia.pieces
 rw[aE h]
theorem Yp{tr:Bool}{got r:List UInt8}{c:UInt8}(h:(c == 46||c == 47)=false):Vaunia.pieces tr got (c::r)=Vaunia.pieces tr (c::got) r:=by
 conv=>lhs;unfold Vaunia.pieces
 rw[aq (by rw[h];exact ao)]
theorem o9{α:Type}{t:List α}{i:Nat}{c:α}(h:t[i]? =some c):t.drop i=c::t.drop (i+1):=by
 have hi:=ja h
 rw[cI hi]
 rw[ay hi]at h
 rw[ae h]
theorem abf{α:Type}{t:List α}{s i:Nat}{c:α}(hs:s<=i)(h:t[i]? =some c):(t.drop s).take (i+1-s)=(t.drop s).take (i-s)++[c]:=by
 have e:i+1-s=(i-s)+1:=by omega
 rw[e]
 refine take_snoc ?_
 rw[fq,show s+(i-s)=i by omega];exact h
theorem vb{t u:TT}{σ:L2.St}{H:Hp}{Q:Bool->Hp->Prop}{b1 b2:Bool}(h1:∀R:Bool->Hp->Prop,R b1 H->t σ H R)(h2:∀R:Bool->Hp->Prop,R b2 H->u σ H R)(h:Q (b1||b2) H):Mz t u σ H Q:=by
 refine h1 _ ?_
 cases b1 with
 | true=>exact iu h
 | false=>exact iz (h2 _ h)
noncomputable def placed:Nat->List (Bool×List UInt8)->List (Nat×Bool×List UInt8)
 | _,[]=>[]
 | i,p::r=>(i,p)::placed (i+p.2.length+1) r
noncomputable def mstart(t:List UInt8):Nat:=match Vaunia.cut 32 t with
 | some (x,_)=>x.length+1
 | none=>0
noncomputable def ji(t:List UInt8):List (Nat×Bool×List UInt8):=placed (mstart t) (Vaunia.pieces false [] (t.drop (mstart t)))
noncomputable def r9(a:hC)(H:Hp)(p:Addr)(x:Nat×Bool×List UInt8):Prop:=∃dx q,H p=some (.ins a.o8 dx [("start",.int x.1),("signs",.ref q),("turned",.bl x.2.1)])/\H q=some (.lst (bv x.2.2))
theorem r9.same{a:hC}{H U:Hp}{p:Addr}{x:Nat×Bool×List UInt8}(h:r9 a H p x)(s:c_ H U):r9 a U p x:=by
 obtain⟨dx,q,h1,h2⟩:=h
 exact⟨dx,q,s _ _ h1,s _ _ h2⟩
noncomputable def tM(a:hC)(H:Hp)(l:Addr)(xs:List (Nat×Bool×List UInt8)):Prop:=∃ps:List Addr,H l=some (.lst (ps.map V.ref))/\Zip (r9 a H) ps xs
theorem tM.same{a:hC}{H U:Hp}{p:Addr}{x:List (Nat×Bool×List UInt8)}(h:tM a H p x)(s:c_ H U):tM a U p x:=by
 obtain⟨ps,h1,h2⟩:=h
 exact⟨ps,s _ _ h1,h2.mono λx y r=>r.same s⟩
noncomputable def vn(a:hC)(l:Addr)(H:Hp)(p:Addr)(x:Nat×Bool×List UInt8):Prop:=∃dx q,q≠l/\H p=some (.ins a.o8 dx [("start",.int x.1),("signs",.ref q),("turned",.bl x.2.1)])/\H q=some (.lst (bv x.2.2))
theorem vn.kp{a:hC}{l p:Addr}{H U:Hp}{xs:List V}{x:Nat×Bool×List UInt8}(h:vn a l H p x)(hl:H l=some (.lst xs))(k:Kp l H U):vn a l U p x:=by
 obtain⟨dx,q,n2,h1,h2⟩:=h
 exact⟨dx,q,n2,k _ _ (iC h1 hl (by intro z;cases z)) h1,k _ _ n2 h2⟩
theorem eqB(c d:UInt8):decide (V.int (bz c)=V.int (bz d))=(c == d):=by
 rw[aH,ak,dM]
 exact⟨λh=>tX (V.int.inj h),λh=>by rw[h]⟩
theorem QV{c:UInt8}{R:Bool->Hp->Prop}{H:Hp}(h:R (c == 46) H):R (decide (V.int (bz c)=V.int 46)) H:=by
 have e:=eqB c 46
 rw[<-e]at h;exact h
theorem QW{c:UInt8}{R:Bool->Hp->Prop}{H:Hp}(h:R (c == 47) H):R (decide (V.int (bz c)=V.int 47)) H:=by
 have e:=eqB c 47
 rw[<-e]at h;exact h
section
variable{P:Program}{w:World}{K:Fg}{mg:Str->Option Value}{base:Heap}{a:hC}
noncomputable def zg(us:List V):List (Str×V):=[("start",us.getD 0 .ia),("signs",us.getD 1 .ia),("turned",us.getD 2 .ia)]
theorem GF(T:Txt K mg a):Maker P w K mg base "Piece" a.o8 3 zg:=by
 refine T.n9.maker aaw rfl λf h8 A outer s H p us dx Q E hr hl hp q=>?_
 match us,hl with
 | [u,v,x],_=>
  refine⟨_,gZ (jH (pv 0) (pv 1) rfl) (gZ (jH (pv 0) (pv 2) rfl) (g9 (jH (pv 0) (pv 3) rfl))),?_⟩
  dsimp only[il]
  refine(a_ rfl (a_ rfl ⟨p,_,dx,a_ rfl ⟨hp,T.n9.cl,T.Cm,(by show 0<1000;decide),?_⟩⟩))
  refine(a_ rfl (a_ rfl ⟨p,_,dx,a_ rfl ⟨e_,T.n9.cl,T.uK,(by show 1<1000;decide),?_⟩⟩))
  refine(a_ rfl (a_ rfl ⟨p,_,dx,a_ rfl ⟨e_,T.n9.cl,T.GO,(by show 2<1000;decide),?_⟩⟩))
  rw[kn,kn]
  exact q
theorem V1(t:List UInt8):mstart t<=t.length:=by
 unfold mstart
 by_cases c:(32:UInt8)∈t
 ·obtain⟨j,h1,h2⟩:=qg c
  have:=ja h1
  rw[m_ h1 h2]
  simp only[aB]
  omega
 ·rw[mM c];exact aU _
noncomputable def Zn(K:Fg):Sp:=λvs H R _=>∃l t,vs=[.ref l]/\f_ K H l (bv t)/\R (.int (mstart t:Nat)) H
theorem Xw(T:Txt K mg a):Callee P w K mg base 1 "measure_start" ["text"] (Zn K):=by
 refine T.Pa.ok aaX (λvs H Q E h=>?_) (λf h8 A outer s H vs Q E hr h=>?_)
 ·obtain⟨_,_,rfl,_⟩:=h
  rfl
 ·obtain⟨l,t,rfl,hl,k⟩:=h
  refine⟨_,g9 (hJ (mB (iq zF (iD T.v_) (pv 0) (by with_unfolding_all rfl)) (iH mV (lP aT cV dA w_ (pv 0) (b_ (iD T.v_) d_)) ij) ij)),?_⟩
  dsimp only[il]
  refine(a_ rfl ⟨l,a_ rfl ⟨.inl hl,rfl,o7 t,a_ rfl ?_⟩⟩)
  have AL:k7 (.int 32) (bv t)=decide ((32:UInt8)∈t):=wR 32 t
  show if (if false=true then !k7 (V.int 32) (bv t) else k7 (V.int 32) (bv t))=true then _ else _
  rw[aq ao,AL]
  unfold mstart at k
  refine iU (λc=>?_) (λc=>?_)
  ·obtain⟨j,h1,h2⟩:=qg (aL c)
   have hj:=ja h1
   obtain⟨i1,i2,i3⟩:=wU h1 h2
   rw[m_ h1 h2]at k
   simp only[aB,cT (aI hj)]at k
   exact(a_ rfl ⟨.inl ⟨rfl,_,hl⟩,l,bv t,_,j,a_ rfl ⟨rfl,hl,rfl,o7 t,i1,i2,i3,h9 rfl rfl k⟩⟩)
  ·rw[mM (λh=>c (ah h))]at k
   exact k
noncomputable def ZA(K:Fg)(a:hC):Sp:=λvs H R _=>∃l t,vs=[.ref l]/\f_ K H l (bv t)/\t.length<=500/\∀p U,c_ H U->tM a U p (ji t)->R (.ref p) U
theorem CD(T:Txt K mg a):Callee P w K mg base 3 "pieces_of" ["text"] (ZA K a):=by
 refine T.Pr.ok Lp (λvs H Q E h=>?_) (λf h8 A outer s H vs Q E hr h=>?_)
 ·obtain⟨_,_,rfl,_⟩:=h
  rfl
 ·obtain⟨l,t,rfl,hl,hz,k⟩:=h
  have nd:=Lp.nd
  refine⟨_,gZ (ic (i:=1) nd rfl (Or.inl rfl) (iL d_)) (gZ (ic (i:=2) nd rfl (Or.inl rfl) (hU (Xw T) (hr.mono (by decide)) (b_ (pv 0) d_))) (gZ (ic (i:=3) nd rfl (Or.inl rfl) l6)
   (gZ (lC aX rfl (Yl rfl T.x_ (b_ (pv 2) (b_ (i7 ka (by rfl) T.jO aV (b_ (pv 0) d_)) d_))) (iT (i:=4) nd rfl (Or.inl rfl))
    (gZ (ic (i:=5) nd rfl (Or.inl rfl) (mW pE (pv 0) (pv 4) (λ_ _=>rfl)))
    (g9 (iw (mD (iq je (pv 5) (iD T.yB) (ig _)) (mE (iq je (pv 5) (iD T.wa) (ig _)))).pt
     (gZ (lR (lP aT bV bW rC (pv 1) (b_ (jk (GF T) hr (b_ (pv 2) (b_ (lQ mF (pv 0) (k_ (pv 2)) (k_ (pv 4))) (b_ (pv 3) d_)))) d_)))
     (gZ (ic (i:=2) nd rfl (Or.inl rfl) (iH mV (pv 4) ij)) (g9 (ic (i:=3) nd rfl (Or.inl rfl) (kF je (pv 5) (iD T.wa) (ig _)))))) iy))))
   (gZ (lR (lP aT bV bW rC (pv 1) (b_ (jk (GF T) hr (b_ (pv 2) (b_ (lQ mF (pv 0) (k_ (pv 2)) mC) (b_ (pv 3) d_)))) d_)))
   (g9 (hJ (pv 1))))))),?_⟩
  dsimp only[il]
  refine⟨aU _,λpl i9=>?_⟩
  have s0:c_ H (upd H pl (.lst [])):=c_.new i9
  have qx:=V1 t
  refine(a_ rfl ⟨l,t,rfl,s0.seq hl,a_ rfl (a_ rfl ⟨l,a_ rfl ⟨.inl (s0.seq hl),?_⟩⟩)⟩)
  generalize hm:mstart t=m at k qx
  refine⟨(m:Int),(t.length:Int),by rw[i_],⟨by omega,by omega,by omega,by omega⟩,AY (lo:=(m:Int)) (n:=((t.length:Int)-(m:Int)).toNat) (λi σ U=>∃(ps:List Addr) (dn:List (Nat×Bool×List UInt8)) (st:Nat) (tr:Bool) (r4 r5:Option V),σ=[some (.ref l),some (.ref pl),some (.int st),some (.bl tr),r4,r5]/\c_ H U/\
   U pl=some (.lst (ps.map V.ref))/\Zip (vn a pl U) ps dn/\st<=m+i/\dn.length<=i/\ji t=dn++placed st (Vaunia.pieces tr ((t.drop st).take (m+i-st)).reverse (t.drop (m+i))))
   ⟨[],[],m,false,none,none,rfl,s0,e_,Zip.nil,ax _,ax _,by unfold ji;rw[hm,Nat.add_zero,eC];rfl⟩ ?_ ?_⟩
  ·rintro i σ U hi ⟨ps,dn,st,tr,r4,r5,rfl,s1,hp,zp,h1,h2,e⟩
   have wo:m+i<t.length:=by omega
   obtain⟨c,hc⟩:∃c,t[m+i]? =some c:=⟨_,ay wo⟩
   have QM:(m:Int)+(i:Int)=((m+i:Nat):Int):=by omega
   rw[QM]
   refine⟨_,rfl,_,rfl,l,_,_,_,rfl,rfl,s1.seq hl,at_of (j:=m+i) rfl (yc hc),?_⟩
   rw[o9 hc]at e
   dsimp only[jL,pW,pU]
   refine vb (b1:=c == 46) (b2:=c == 47) (λR hR=>(a_ rfl ⟨rfl,a_ rfl (QV hR)⟩)) (λR hR=>(a_ rfl ⟨rfl,a_ rfl (QW hR)⟩)) ?_
   refine iU (λhs=>?_) (λhs=>?_)
   ·rw[Yq hs]at e
    refine(a_ rfl ⟨.inl ⟨rfl,_,f_.of hp⟩,a_ rfl (a_ rfl (a_ rfl (a_ rfl (a_ rfl (a_ rfl ⟨l,a_ rfl ⟨s1.seq hl,λq hq=>(a_ rfl ⟨rfl,λp2 dp jA nj iJ=>?_⟩)⟩⟩)))))⟩)
    have sq:=c_.new (o:=.lst (i5 (bv t) (some (st:Int)) (some ((m+i:Nat):Int)))) hq
    have tD:=c_.jc (o:=.ins a.o8 dp (zg [.int st,.ref q,.bl tr])) (o':=.own p2) jA nj
    have rg:=tD _ _ (sq _ _ hp)
    have n2:q≠pl:=cJ (jB hp hq)
    have es:i5 (bv t) (some (st:Int)) (some ((m+i:Nat):Int))=bv ((t.drop st).take (m+i-st)):=by
     rw[D1 h1 (by rw[i_];omega),vR,vQ]
    have hlen:ps.length=dn.length:=zp.1
    refine(⟨pl,h9 rfl rfl ⟨rg,by rw[ab];exact iV (by omega),?_⟩⟩)
    have kp:=(sq.trans tD).kp.trans (Kp.upd (l:=pl) (o:=.lst (ps.map V.ref++[V.ref p2])))
    refine(a_ rfl (h9 rfl rfl (a_ rfl ⟨rfl,?_⟩)))
    refine⟨ps++[p2],dn++[(st,tr,(t.drop st).take (m+i-st))],m+i+1,c == 47,some (.int ((m+i:Nat):Int)),some (.int (bz c)),?_,Kp.same s1 i9 kp,?_,?_,ax _,by rw[aj,aA];omega,?_⟩
    ·have AM:=eqB c 47
     rw[<-AM];rfl
    ·rw[e_,au];rfl
    ·refine(zp.mono λx y r=>r.kp hp kp).snoc ⟨dp,q,n2,?_,?_⟩
     ·rw[ip (iC e_ rg (by intro z;cases z)),e_];rfl
     ·rw[ip n2]
      refine(tD _ _ ?_)
      rw[e_,es]
    ·rw[e,bR,<-Nat.add_assoc,eC,List.take_zero,List.reverse_reverse]
     show _=dn++((st,tr,(t.drop st).take (m+i-st))::placed _ _)
     congr 1
     show(st,tr,(t.drop st).take (m+i-st))::placed (st+((t.drop st).take (m+i-st)).length+1) _=_
     rw[aB,aR,cT (by omega),show st+(m+i-st)+1=m+i+1 by omega]
     rfl
   ·have hs:(c == 46||c == 47)=false:=bj.mpr hs
    rw[Yp hs]at e
    refine(⟨ps,dn,st,tr,_,a_ rfl ⟨s1,hp,zp,by omega,by omega,?_⟩⟩)
    rw[e,<-Nat.add_assoc,abf h1 hc,List.reverse_append];rfl
  ·rintro σ U ⟨ps,dn,st,tr,r4,r5,rfl,s1,hp,zp,h1,h2,e⟩
   have en:m+((t.length:Int)-(m:Int)).toNat=t.length:=by omega
   rw[en]at h1 e
   refine(a_ rfl ⟨.inl ⟨rfl,_,f_.of hp⟩,a_ rfl (a_ rfl (a_ rfl (a_ rfl ⟨l,a_ rfl ⟨s1.seq hl,λq hq=>(a_ rfl ⟨rfl,λp2 dp jA nj iJ=>?_⟩)⟩⟩)))⟩)
   have sq:=c_.new (o:=.lst (i5 (bv t) (some (st:Int)) none)) hq
   have tD:=c_.jc (o:=.ins a.o8 dp (zg [.int st,.ref q,.bl tr])) (o':=.own p2) jA nj
   have rg:=tD _ _ (sq _ _ hp)
   have n2:q≠pl:=cJ (jB hp hq)
   have hlen:ps.length=dn.length:=zp.1
   refine(⟨pl,h9 rfl rfl ⟨rg,by rw[ab];exact iV (by omega),?_⟩⟩)
   have kp:=(sq.trans tD).kp.trans (Kp.upd (l:=pl) (o:=.lst (ps.map V.ref++[V.ref p2])))
   refine(a_ rfl (k pl _ (Kp.same s1 i9 kp) ⟨ps++[p2],by rw[e_,au];rfl,?_⟩))
   have e2:ji t=dn++[(st,tr,t.drop st)]:=by
    rw[e,b0]
    unfold Vaunia.pieces
    rw[List.reverse_reverse,cu (by rw[aR];omega)]
    rfl
   rw[e2]
   have z2:Zip (vn a pl (upd (upd (upd (upd U q (.lst (i5 (bv t) (some (st:Int)) none))) dp (.own p2)) p2 (.ins a.o8 dp (zg [.int st,.ref q,.bl tr]))) pl (.lst (ps.map V.ref++[V.ref p2])))) (ps++[p2]) (dn++[(st,tr,t.drop st)]):=by
    refine(zp.mono λx y r=>r.kp hp kp).snoc ⟨dp,q,n2,?_,?_⟩
    ·rw[ip (iC e_ rg (by intro z;cases z)),e_];rfl
    ·rw[ip n2]
     refine(tD _ _ ?_)
     rw[e_,qd (by rw[i_];exact h1),vQ]
   exact z2.mono λx y ⟨dx,q,_,h1,h2⟩=>⟨dx,q,h1,h2⟩
end
theorem shaped_ints(ns:List Int):SeqAt.shaped (.list (ns.map .int))=true:=by
 simp[SeqAt.shaped,PyData.canLay0,PyData.canLayAll0,PyData.depth,PyData.depthAll,PySem.W.ke_canLayAll0,PySem.W.ke_depthAll]
theorem yt(ns ms:List Int):PyData.eqv (.list (ns.map .int)) (.list (ms.map .int))=decide (ns=ms):=by
 simp only[PyData.eqv,PySem.W.ked_eqvAll]
theorem oB{K:Fg}{H:Hp}:∀ns:List Int,rX K H (ns.map V.int) (ns.map PyData.int)
 | []=>.nil
 | n::r=>.cons (.int n) (oB r)
theorem qP(t:List UInt8):bv t=(t.map bz).map V.int:=by unfold bv;rw[bu];rfl
theorem AB{s t:List UInt8}(h:s.map bz=t.map bz):s=t:=by
 induction s generalizing t with
 | nil=>cases t with
  | nil=>rfl
  | cons _ _=>simp at h
 | cons c r ih=>cases t with
  | nil=>simp at h
  | cons d u=>
   simp only[aO,fk]at h
   rw[tX h.1,ih h.2]
theorem nQ.kp{l p:Addr}{H U:Hp}{f:Vaunia.Factor}{xs:List V}(h:nQ H p f)(hl:H l=some (.lst xs))(k:Kp l H U):nQ U p f:=by
 obtain⟨n,h1,h2⟩:=h
 exact⟨n,k _ _ (iC h1 hl (by intro z;cases z)) h1,k _ _ (iC h2 hl (by intro z;cases z)) h2⟩
theorem AR(b:Bool)(t:List UInt8):Vaunia.factorOf (b,t)=if t=[49] then some none else (k6 t).map λf=>some (f.1,if b then -f.2 else f.2):=by
 unfold Vaunia.factorOf k6
 dsimp only
 by_cases c:t=[49]
 ·rw[aE c,aE c]
 ·rw[aq c,aq c]
  cases hc:Vaunia.cut 94 t with
  | none=>
   dsimp only
   cases Vaunia.isName t<;>rfl
  | some x=>
   dsimp only
   cases Vaunia.isName x.1 with
   | false=>rfl
   | true=>
    cases Vaunia.powerOf x.2<;>rfl
theorem CW:∀(t:List UInt8) (b:Bool) (got:List UInt8) (x:Bool×List UInt8),x∈Vaunia.pieces b got t->x.2.length<=got.length+t.length
 | [],b,got,x,h=>by
  unfold Vaunia.pieces at h
  have e:x=(b,got.reverse):=by simpa using h
  rw[e];simp
 | c::r,b,got,x,h=>by
  unfold Vaunia.pieces at h
  split at h
  ·rcases aM.mp h with e | h
   ·rw[e];simp<;>omega
   ·have:=CW r _ [] x h
    rw[bQ]at this
    rw[ai];omega
  ·have:=CW r _ _ x h
   rw[ai]at this ⊢;omega
theorem CV:∀(t:List UInt8) (b:Bool) (got:List UInt8),(Vaunia.pieces b got t).length<=t.length+1
 | [],b,got=>by unfold Vaunia.pieces;simp
 | c::r,b,got=>by
  unfold Vaunia.pieces
  split
  ·have:=CV r (c == 47) []
   rw[ai,ai];omega
  ·have:=CV r b (c::got)
   rw[ai];omega
noncomputable def kD(t:List UInt8):Bool:=decide (t=[49])||(k6 t).isSome
theorem BX(b:Bool)(t:List UInt8):(Vaunia.factorOf (b,t)).isSome=kD t:=by
 rw[AR]
 unfold kD
 by_cases c:t=[49]
 ·rw[aE c,ah c];rfl
 ·rw[aq c,az c,dZ]
  cases k6 t<;>rfl
noncomputable abbrev Pc:=Nat×Bool×List UInt8
noncomputable def jS:Nat->List Pc->Option Pc
 | _,[]=>none
 | i,p::r=>if decide (20<=i)||!kD p.2.2 then some p else jS (i+1) r
theorem Ep(i:Nat)(p:Pc)(r:List Pc):jS i (p::r)=if (decide (20<=i)||!kD p.2.2)=true then some p else jS (i+1) r:=rfl
noncomputable def qf(x:Pc):Option Vaunia.Factor:=if x.2.2=[49] then none else (k6 x.2.2).map λf=>(f.1,if x.2.1 then -f.2 else f.2)
noncomputable def lL(xs:List Pc):List Vaunia.Factor:=xs.filterMap qf
theorem xA:∀(i:Nat) (ps:List (Bool×List UInt8)),(placed i ps).length=ps.length
 | _,[]=>rfl
 | i,p::r=>by show(placed _ r).length+1=_;rw[xA,ai]
theorem CY:∀(i:Nat) (ps:List (Bool×List UInt8)) (x:Pc),x∈placed i ps->x.2∈ps
 | _,[],x,h=>by cases h
 | i,p::r,x,h=>by
  rcases aM.mp h with e | h
  ·rw[e];exact aD
  ·exact aw _ (CY _ r x h)
theorem v7:∀(i:Nat) (xs:List Pc),jS i xs=none->(∀x∈xs,kD x.2.2=true)/\(xs=[]\/i+xs.length<=20)
 | i,[],_=>⟨λx h=>(by cases h),.inl rfl⟩
 | i,p::r,h=>by
  unfold jS at h
  split at h
  ·cases h
  ·rename_i c
   have c1:¬20<=i/\kD p.2.2=true:=by simpa using c
   obtain⟨h1,h2⟩:=v7 (i+1) r h
   refine⟨λx hx=>?_,.inr ?_⟩
   ·rcases aM.mp hx with e | hx
    ·rw[e];exact c1.2
    ·exact h1 x hx
   ·rw[ai]
    rcases h2 with h2 | h2
    ·rw[h2,bQ];omega
    ·omega
theorem Er:∀(i:Nat) (xs:List Pc),(jS i xs).isSome=true->(∃x∈xs,kD x.2.2=false)\/20<i+xs.length
 | i,[],h=>by cases h
 | i,p::r,h=>by
  unfold jS at h
  split at h
  ·rename_i c
   rcases (gX _ _).mp c with c | c
   ·right;have:=aL c;rw[ai];omega
   ·left;exact⟨p,aD,by simpa using c⟩
  ·rcases Er (i+1) r h with⟨x,hx,e⟩ | h2
   ·exact .inl ⟨x,aw _ hx,e⟩
   ·right;rw[ai];omega
theorem Gp:∀(i:Nat) (ps:List (Bool×List UInt8)),(∀x∈ps,kD x.2=true)->∃os,ps.mapM Vaunia.factorOf=some os/\os.filterMap id=lL (placed i ps)
 | _,[],_=>⟨[],rfl,rfl⟩
 | i,p::r,h=>by
  obtain⟨os,e1,e2⟩:=Gp (i+p.2.length+1) r λx hx=>h x (aw _ hx)
  have hp:=h p aD
  have ef:=AR p.1 p.2
  have hs:(Vaunia.factorOf p).isSome=true:=by rw[show p=(p.1,p.2) from rfl,BX];exact hp
  obtain⟨o,ho⟩:=cP.mp hs
  refine⟨o::os,by rw[List.mapM_cons,ho,e1];rfl,?_⟩
  have eo:qf (i,p)=o:=by
   have sD:Vaunia.factorOf p=_:=ef
   rw[ho]at sD
   unfold qf
   dsimp only
   split at sD
   ·rename_i c;rw[aE c];exact(ae sD).symm
   ·rename_i c;rw[aq c]
    cases hf:k6 p.2 with
    | none=>rw[hf]at sD;cases sD
    | some f=>rw[hf]at sD;exact(ae sD).symm
  show(o::os).filterMap id=((i,p)::placed (i+p.2.length+1) r).filterMap qf
  rw[d7,d7,eo,e2]
  cases o<;>rfl
theorem Gr:∀(ps:List (Bool×List UInt8)),(∃x∈ps,kD x.2=false)->ps.mapM Vaunia.factorOf=none
 | [],⟨x,h,_⟩=>by cases h
 | p::r,⟨x,h,e⟩=>by
  rw[List.mapM_cons]
  rcases aM.mp h with q | h
  ·have:Vaunia.factorOf p=none:=by
    have:=BX p.1 p.2
    rw[<-q,e]at this
    rw[<-q]
    exact Option.not_isSome_iff_eq_none.mp (by rw[show x=(x.1,x.2) from rfl,this];exact ao)
   rw[this];rfl
  ·rw[Gr r ⟨x,h,e⟩]
   cases Vaunia.factorOf p<;>rfl
theorem Gv(i:Nat)(t:List UInt8):Vaunia.measureOf t=if (jS 0 (placed i (Vaunia.pieces false [] t))).isSome then none else some (lL (placed i (Vaunia.pieces false [] t))):=by
 unfold Vaunia.measureOf
 generalize Vaunia.pieces false [] t=ps
 dsimp only
 have hl:=xA i ps
 cases hw:jS 0 (placed i ps) with
 | none=>
  obtain⟨h1,h2⟩:=v7 _ _ hw
  have jq:∀x∈ps,kD x.2=true:=λx hx=>by
   have:x∈(placed i ps).map (·.2):=by
    have em:∀(j:Nat) (qs:List (Bool×List UInt8)),(placed j qs).map (·.2)=qs:=by
     intro j qs
     induction qs generalizing j with
     | nil=>rfl
     | cons q r ih=>show q::(placed _ r).map (·.2)=_;rw[ih]
    rw[em];exact hx
   obtain⟨y,hy,e⟩:=aQ.mp this
   rw[<-e];exact h1 y hy
  obtain⟨os,e1,e2⟩:=Gp i ps jq
  have hle:¬Vaunia.MOST_FACTORS<ps.length:=by
   show ¬20<ps.length
   rcases h2 with h2 | h2
   ·rw[h2,bQ]at hl;omega
   ·omega
  rw[aq hle,e1,aq (by simp),<-e2];rfl
 | some x=>
  rw[aE (show(some x).isSome=true from rfl)]
  rcases Er 0 _ (by rw[hw];rfl) with⟨y,hy,e⟩ | h2
  ·split
   ·rfl
   ·rw[Gr ps ⟨y.2,CY _ _ _ hy,e⟩];rfl
  ·rw[aE (by show 20<ps.length;omega)]
noncomputable def lx(t:List UInt8):Option Q:=match Vaunia.cut 32 t with
 | some (x,_)=>Vaunia.numberOf x
 | none=>some Vaunia.Q.one
theorem C2{t:List UInt8}(hz:¬500<t.length):Vaunia.quantityOf t=match lx t with
 | none=>none
 | some q=>if (jS 0 (ji t)).isSome then none else some (q,lL (ji t)):=by
 unfold Vaunia.quantityOf Vaunia.MOST_TEXT ji
 rw[aq hz]
 by_cases c:(32:UInt8)∈t
 ·obtain⟨j,h1,h2⟩:=qg c
  have hj:=ja h1
  have em:mstart t=j+1:=by unfold mstart;rw[m_ h1 h2];simp only[aB];omega
  have en:lx t=Vaunia.numberOf (t.take j):=by unfold lx;rw[m_ h1 h2]
  rw[m_ h1 h2,em,en]
  dsimp only
  have:=Gv (j+1) (t.drop (j+1))
  rw[this]
  cases Vaunia.numberOf (t.take j) with
  | none=>rfl
  | some q=>dsimp only;generalize (jS 0 (placed (j+1) (Vaunia.pieces false [] (t.drop (j+1))))).isSome=bb;cases bb<;>rfl
 ·have em:mstart t=0:=by unfold mstart;rw[mM c]
  have en:lx t=some Vaunia.Q.one:=by unfold lx;rw[mM c]
  rw[mM c,em,en]
  dsimp only
  rw[Gv 0 t,fN]
  generalize (jS 0 (placed 0 (Vaunia.pieces false [] t))).isSome=bb
  cases bb<;>rfl
theorem CO{t:List UInt8}(h:t.length<=500):(ji t).length<=501/\∀x∈ji t,x.2.2.length<=500:=by
 unfold ji
 refine⟨?_,λx hx=>?_⟩
 ·rw[xA]
  have:=CV (t.drop (mstart t)) false []
  rw[aR]at this;omega
 ·have:=CW _ _ _ _ (CY _ _ _ hx)
  rw[aR,bQ]at this;omega
section
variable{P:Program}{w:World}{K:Fg}{mg:Str->Option Value}{base:Heap}{a:hC}
theorem AI(t2:List UInt8):decide (t2.map bz=[49])=decide (t2=[49]):=by
 rw[aH,ak,ak]
 exact⟨λh=>AB (t:=[49]) h,λh=>by rw[h];rfl⟩
noncomputable def Ze(K:Fg):Sp:=λvs H R _=>∃l t,vs=[.ref l]/\f_ K H l (bv t)/\t.length<=500/\∀U,c_ H U->R (.bl (kD t)) U
theorem Xn(T:Txt K mg a):Callee P w K mg base 6 "is_factor" ["piece"] (Ze K):=by
 refine T.OZ.ok aaP (λvs H Q E h=>?_) (λf h8 A outer s H vs Q E hr h=>?_)
 ·obtain⟨_,_,rfl,_⟩:=h
  rfl
 ·obtain⟨l,t,rfl,hl,hz,k⟩:=h
  refine⟨_,g9 (hJ (xx (kF (zD hr.units) (pv 0) (iL (b_ (iD T.yA) d_)) (ig _)) (pO (kF zG (hU (CA T) hr (b_ (pv 0) d_)) iM (ig _))))),?_⟩
  dsimp only[il]
  refine(a_ rfl ⟨by show 1<=sizeLine;decide,λo1 wB=>?_⟩)
  have s4:c_ H (upd H o1 (.lst [.int 49])):=c_.new wB
  refine(⟨.list ((t.map bz).map .int),.list (([49]:List Int).map .int),.lst (s4.seq hl) (by rw[qP];exact oB _),.lst (f_.of e_) (oB [49]),shaped_ints _,shaped_ints _,a_ rfl ?_⟩)
  rw[yt,AI]
  unfold kD at k
  refine iU (λc=>?_) (λc=>?_)
  ·rw[c,gU]at k
   exact k _ s4
  ·have c:=bj.mpr c
   rw[c,dZ]at k
   refine(a_ rfl ⟨l,t,rfl,s4.seq hl,hz,?_⟩)
   cases hf:k6 t with
   | none=>
    rw[hf]at k
    exact λH2 s2=>⟨rfl,k _ (s4.trans s2)⟩
   | some f=>
    rw[hf]at k
    exact λp H2 s2 _=>⟨rfl,k _ (s4.trans s2)⟩
noncomputable def Y8(a:hC):Sp:=λvs H R _=>∃l xs,vs=[.ref l]/\tM a H l xs/\(∀x∈xs,x.2.2.length<=500)/\∀v U,c_ H U->(match jS 0 xs with | none=>v= .ia | some x=>∃p,v= .ref p/\r9 a U p x)->R v U
theorem He(T:Txt K mg a):Callee P w K mg base 7 "first_wrong" ["pieces"] (Y8 a):=by
 refine T.OO.ok K9 (λvs H Q E h=>?_) (λf h8 A outer s H vs Q E hr h=>?_)
 ·obtain⟨_,_,rfl,_⟩:=h
  rfl
 ·obtain⟨l,xs,rfl,⟨ps,hl,zp⟩,hz,k⟩:=h
  have nd:=K9.nd
  refine⟨_,gZ (lC aX rfl (CS rfl T.Au (b_ (pv 0) d_)) (nF rfl (jX (iT (i:=1) nd rfl (Or.inl rfl)) (jX (iT (i:=2) nd rfl (Or.inl rfl)) nG)))
   (g9 (iw (mD (iq pN (pv 1) (iD T.Rv) (ig _)) (mE (lD (ju (hU (Xn T) hr (b_ (hG (pv 2) rfl) d_)) (λ_=>rfl))))).pt (g9 (hJ (pv 2))) iy)))
   (g9 (hJ iM)),?_⟩
  dsimp only[il]
  have hlen:=zp.1
  refine(a_ rfl ⟨l,a_ rfl ⟨f_.of hl,AX (K:=K) (a:=l) (xs:=ps.map V.ref) (λi σ U=>∃r1 r2:Option V,σ=[some (.ref l),r1,r2]/\c_ H U/\jS 0 xs=jS i (xs.drop i))
   ⟨none,none,rfl,c_.refl _,rfl⟩ (λi σ U _ ⟨_,_,_,s1,_⟩=>f_.of (s1 _ _ hl)) ?_ ?_⟩⟩)
  ·rintro i x σ U Tt hx ⟨r1,r2,rfl,s1,e⟩ hT
   obtain⟨p,hp,rfl⟩:=i8 hx
   obtain⟨y,hy,oK⟩:=zp.right hp
   have sT:c_ U (upd U Tt (.tup [.int (i:Nat),.ref p])):=c_.new hT
   rw[o9 hy,Ep]at e
   have Fx:=(oK.same s1).same sT
   have Fw:=Fx
   obtain⟨dx,q,TY,kK⟩:=Fx
   refine⟨Tt,_,rfl,iO.of e_,rfl,_,_,rfl,_,_,rfl,rfl,?_⟩
   refine⟨_,rfl,_,_,rfl,rfl,_,rfl,?_⟩
   have ed:decide ((20:Int)<=(i:Nat))=decide (20<=i):=by rw[aH,ak,ak];omega
   rw[ed]
   refine iU (λc=>?_) (λc=>?_)
   ·rw[c,gU,aE rfl]at e
    refine iu (a_ rfl (k _ _ (s1.trans sT) ?_))
    rw[e];exact⟨p,rfl,Fw⟩
   ·have c:=bj.mpr c
    rw[c,dZ]at e
    refine⟨_,rfl,p,_,dx,_,_,rfl,TY,T.n9.cl,T.uK,rfl,q,y.2.2,rfl,f_.of kK,hz _ (aG hy),λH2 s2=>⟨_,rfl,?_⟩⟩
    refine iU (λc2=>?_) (λc2=>?_)
    ·rw[aE c2]at e
     refine(a_ rfl (k _ _ ((s1.trans sT).trans s2) ?_))
     rw[e];exact⟨p,rfl,Fw.same s2⟩
    ·rw[aq c2]at e
     exact(⟨_,a_ rfl ⟨(s1.trans sT).trans s2,e⟩⟩)
  ·rintro σ U ⟨r1,r2,rfl,s1,e⟩
   rw[ab,hlen,b0]at e
   refine k _ _ s1 ?_
   rw[e];rfl
noncomputable def ZY(a:hC):Sp:=λvs H R _=>∃p x f,vs=[.ref p]/\r9 a H p x/\x.2.2.length<=500/\k6 x.2.2=some f/\∀q U,c_ H U->nQ U q (f.1,if x.2.1 then -f.2 else f.2)->R (.ref q) U
theorem XW(T:Txt K mg a):Callee P w K mg base 6 "turned_factor" ["piece"] (ZY a):=by
 refine T.P6.ok LP (λvs H Q E h=>?_) (λf h8 A outer s H vs Q E hr h=>?_)
 ·obtain⟨_,_,_,rfl,_⟩:=h
  rfl
 ·obtain⟨p,x,fa,rfl,⟨dx,q,h1,h2⟩,hz,hf,k⟩:=h
  have nd:=LP.nd
  refine⟨_,gZ (ic (i:=1) nd rfl (Or.inl rfl) (hU (CA T) hr (b_ (hG (pv 0) rfl) d_)))
   (g9 (hJ (mB (ju (hG (pv 0) rfl) (λ_=>rfl)) (rQ (b_ (mW y_ (pv 1) ij (λ_ _=>rfl)) (b_ (uV vc (mW y_ (pv 1) ij (λ_ _=>rfl))) d_))) (pv 1)))),?_⟩
  dsimp only[il]
  refine(a_ rfl (hX rfl h1 T.n9.cl T.uK rfl ⟨q,x.2.2,rfl,f_.of h2,hz,?_⟩))
  rw[hf]
  rintro p5 H5 s5 ⟨n5,h5,h6⟩
  refine⟨_,rfl,p,_,dx,_,_,rfl,s5 _ _ h1,T.n9.cl,T.GO,rfl,_,rfl,?_⟩
  refine iU (λc=>?_) (λc=>?_)
  ·have c:x.2.1=true:=c
   refine⟨_,rfl,p5,_,_,_,rfl,rfl,iO.of h5,at_of (j:=0) rfl rfl,_,rfl,p5,_,_,_,rfl,rfl,iO.of h5,at_of (j:=1) rfl rfl,_,rfl,by show 2<=sizeLine;decide,λp7 h7=>k _ _ (s5.trans (c_.new h7)) ⟨n5,?_,(c_.new h7) _ _ h6⟩⟩
   rw[e_,c];rfl
  ·have c:x.2.1=false:=bj.mpr c
   refine(a_ rfl (k _ _ s5 ⟨n5,?_,h6⟩))
   rw[h5,c];rfl
noncomputable def Y6(a:hC):Sp:=λvs H R _=>∃l xs,vs=[.ref l]/\tM a H l xs/\(∀x∈xs,x.2.2.length<=500/\kD x.2.2=true)/\xs.length<=20/\∀p U,c_ H U->j9 U p (lL xs)->R (.ref p) U
theorem Xi(T:Txt K mg a):Callee P w K mg base 7 "factors_of" ["pieces"] (Y6 a):=by
 refine T.OM.ok K7 (λvs H Q E h=>?_) (λf h8 A outer s H vs Q E hr h=>?_)
 ·obtain⟨_,_,rfl,_⟩:=h
  rfl
 ·obtain⟨l,xs,rfl,⟨ps,hl,zp⟩,hz,ra,k⟩:=h
  have nd:=K7.nd
  refine⟨_,g9 (hJ (lA (own:=[("piece",1)]) (g:=jL 1) (tt:=Dy (mH (Im K) (lE K (jb 1) "signs") (Mx (mG (tC (.int 49)) pV)))) rfl nd (kj (pv 0)) (j_ rfl) (λ_ _ _ _ _=>iT (i:=1) nd rfl (Or.inl rfl))
   (λ_ _ _ _ _=>zL (iq (X1 hr.units) (hG (pv 1) rfl) (iL (b_ (iD T.yA) d_)) (ig _))) (λ_ _ _ _ _=>hU (XW T) hr (b_ (pv 1) d_)))),?_⟩
  dsimp only[il]
  have hlen:=zp.1
  refine(a_ rfl ⟨l,rfl,⟨_,f_.of hl⟩,λD hD=>mq (xs:=ps.map V.ref) (λi U=>c_ H U/\∃qs:List Addr,U D=some (.lst (qs.map V.ref))/\Zip (nQ U) qs (lL (xs.take i))/\qs.length<=i) ⟨c_.new hD,[],e_,Zip.nil,ax _⟩ (λi U _ p=>f_.of (p.1 _ _ hl)) (λi x U hx p=>?_) (λU p=>?_)⟩)
  ·obtain⟨s1,qs,jn,jv,hle⟩:=p
   obtain⟨pc,oK,rfl⟩:=i8 hx
   obtain⟨y,hy,mj⟩:=zp.right oK
   have hi:=ja hy
   have ke:=hz _ (aG hy)
   have FD:=mj.same s1
   have TQ:=FD
   obtain⟨dx,q,g1,g2⟩:=FD
   refine(⟨rfl,a_ rfl (hX rfl g1 T.n9.cl T.uK rfl ⟨by show 1<=sizeLine;decide,λo1 wB=>?_⟩)⟩)
   have s4:c_ U (upd U o1 (.lst [.int 49])):=c_.new wB
   refine(⟨.list ((y.2.2.map bz).map .int),.list (([49]:List Int).map .int),.lst (f_.of (s4 _ _ g2)) (by rw[qP];exact oB _),.lst (f_.of e_) (oB [49]),shaped_ints _,shaped_ints _,a_ rfl ?_⟩)
   rw[yt,AI]
   have ex:lL (xs.take (i+1))=lL (xs.take i)++(qf y).toList:=by
    rw[take_snoc hy];unfold lL;rw[List.filterMap_append]
    cases h:qf y<;>simp[h]
   rw[ex]
   unfold qf
   refine iU (λc=>?_) (λc=>?_)
   ·have c:¬y.2.2=[49]:=by simpa using c
    rw[aq c]
    have SJ:(k6 y.2.2).isSome=true:=by
     have:=ke.2
     unfold kD at this
     rw[az c,dZ]at this;exact this
    obtain⟨fa,yJ⟩:=cP.mp SJ
    refine(a_ rfl ⟨pc,y,fa,rfl,TQ.same s4,ke.1,yJ,λp6 H6 s6 f6=>?_⟩)
    have EN:=s6 _ _ (s4 _ _ jn)
    refine⟨_,EN,by rw[ab];exact iV (by omega),?_⟩
    have kp:=(s4.trans s6).kp.trans (Kp.upd (l:=D) (o:=.lst (qs.map V.ref++[V.ref p6])))
    refine⟨Kp.same s1 hD kp,qs++[p6],by rw[e_,au];rfl,?_,by rw[aj,aA];omega⟩
    rw[yJ]
    exact(jv.mono λx y r=>r.kp jn kp).snoc (f6.kp EN Kp.upd)
   ·have c:y.2.2=[49]:=by simpa using c
    rw[aE c]
    refine⟨s1.trans s4,qs,s4 _ _ jn,?_,by omega⟩
    show Zip _ _ (_++[])
    rw[cv]
    exact jv.mono λx y r=>r.same s4
  ·obtain⟨s1,qs,jn,jv,hle⟩:=p
   rw[ab,hlen,aP]at jv
   exact k D _ s1 ⟨qs,jn,jv⟩
end
noncomputable def x5(a:hC)(H:Hp)(v:V):Option Q->Prop
 | none=>v= .ia
 | some q=>∃p,v= .ref p/\iN a H p q
theorem x5.same{a:hC}{H U:Hp}{v:V}{o:Option Q}(h:x5 a H v o)(s:c_ H U):x5 a U v o:=by
 cases o with
 | none=>exact h
 | some q=>obtain⟨p,e,h⟩:=h;exact⟨p,e,h.same s⟩
theorem lH.of{a:hC}{H:Hp}{R:VK}{o:Option Q}(h:∀v U,c_ H U->x5 a U v o->R v U):lH a H R o:=by
 cases o with
 | none=>exact λU s=>h _ _ s rfl
 | some q=>exact λp U s e=>h _ _ s ⟨p,rfl,e⟩
noncomputable def p8(a:hC)(H:Hp)(p:Addr)(x:Q×List Vaunia.Factor):Prop:=∃dx n l,H p=some (.ins a.tY dx [("number",.ref n),("factors",.ref l)])/\iN a H n x.1/\j9 H l x.2
theorem p8.same{a:hC}{H U:Hp}{p:Addr}{x:Q×List Vaunia.Factor}(h:p8 a H p x)(s:c_ H U):p8 a U p x:=by
 obtain⟨dx,n,l,h1,h2,h3⟩:=h
 exact⟨dx,n,l,s _ _ h1,h2.same s,h3.same s⟩
noncomputable def xY(a:hC)(H:Hp)(R:VK):Option (Q×List Vaunia.Factor)->Prop
 | none=>∀U,c_ H U->R .ia U
 | some x=>∀p U,c_ H U->p8 a U p x->R (.ref p) U
section
variable{P:Program}{w:World}{K:Fg}{mg:Str->Option Value}{base:Heap}{a:hC}
noncomputable def GA(us:List V):List (Str×V):=[("number",us.getD 0 .ia),("factors",us.getD 1 .ia)]
theorem VZ(T:Txt K mg a):Maker P w K mg base "Quantity" a.tY 2 GA:=by
 refine T.n_.maker aax rfl λf h8 A outer s H p us dx Q E hr hl hp q=>?_
 match us,hl with
 | [u,v],_=>
  refine⟨_,gZ (jH (pv 0) (pv 1) rfl) (g9 (jH (pv 0) (pv 2) rfl)),?_⟩
  dsimp only[il]
  refine(a_ rfl (a_ rfl ⟨p,_,dx,a_ rfl ⟨hp,T.n_.cl,T.uL,(by show 0<1000;decide),?_⟩⟩))
  refine(a_ rfl (a_ rfl ⟨p,_,dx,a_ rfl ⟨e_,T.n_.cl,T.xf,(by show 1<1000;decide),?_⟩⟩))
  rw[kn]
  exact q
noncomputable def Zv(K:Fg)(a:hC):Sp:=λvs H R _=>∃l t,vs=[.ref l]/\f_ K H l (bv t)/\lH a H R (lx t)
theorem Hn(T:Txt K mg a)(ht:P.given.tree=none):Callee P w K mg base 38 "number_before" ["text"] (Zv K a):=by
 refine T.Pl.ok aaZ (λvs H Q E h=>?_) (λf h8 A outer s H vs Q E hr h=>?_)
 ·obtain⟨_,_,rfl,_⟩:=h
  rfl
 ·obtain⟨l,t,rfl,hl,k⟩:=h
  refine⟨_,gZ (iw (iq X2 (iD T.v_) (pv 0) (by with_unfolding_all rfl)) (g9 (hJ (jk (pJ T) (hr.mono (by decide)) (b_ ij (b_ ij d_))))) iy)
   (g9 (hJ (hU (XC T ht) hr (b_ (lQ mF (pv 0) mC (k_ (lP aT cV dA w_ (pv 0) (b_ (iD T.v_) d_)))) d_)))),?_⟩
  dsimp only[il]
  refine(a_ rfl ⟨l,a_ rfl ⟨.inl hl,rfl,o7 t,a_ rfl ?_⟩⟩)
  have AL:k7 (.int 32) (bv t)=decide ((32:UInt8)∈t):=wR 32 t
  show if (if true=true then !k7 (V.int 32) (bv t) else k7 (V.int 32) (bv t))=true then _ else _
  rw[aE rfl,AL]
  unfold lx at k
  refine iU (λc=>?_) (λc=>?_)
  ·have c:¬(32:UInt8)∈t:=by simpa using c
   rw[mM c]at k
   refine⟨rfl,λx dx hx nX iJ=>k x _ (c_.jc hx nX) ⟨dx,e_⟩⟩
  ·have c:(32:UInt8)∈t:=by simpa using c
   obtain⟨j,h1,h2⟩:=qg c
   have hj:=ja h1
   obtain⟨i1,i2,i3⟩:=wU h1 h2
   rw[m_ h1 h2]at k
   have c1:i5 (bv t) none (some (j:Int))=bv (t.take j):=by rw[t6 (by rw[i_];omega),vR]
   refine(a_ rfl (a_ rfl ⟨.inl ⟨rfl,_,hl⟩,l,bv t,_,j,a_ rfl ⟨rfl,hl,rfl,o7 t,i1,i2,i3,a_ rfl ⟨l,a_ rfl ⟨hl,λp hp=>?_⟩⟩⟩⟩))
   exact⟨p,t.take j,rfl,f_.of (by rw[e_,c1]),k.same (c_.new hp)⟩
noncomputable def ZH(K:Fg)(a:hC):Sp:=λvs H R _=>∃l t,vs=[.ref l]/\f_ K H l (bv t)/\xY a H R (Vaunia.quantityOf t)
theorem Hs(T:Txt K mg a)(ht:P.given.tree=none):Callee P w K mg base 39 "quantity_of" ["text"] (ZH K a):=by
 refine T.Pz.ok Lw (λvs H Q E h=>?_) (λf h8 A outer s H vs Q E hr h=>?_)
 ·obtain⟨_,_,rfl,_⟩:=h
  rfl
 ·obtain⟨l,t,rfl,hl,k⟩:=h
  have nd:=Lw.nd
  refine⟨_,gZ (iw (iq ly (i7 ka (by rfl) T.jO aV (b_ (pv 0) d_)) (iD T.A6) (ig _)) (g9 (hJ iM)) iy)
   (gZ (ic (i:=1) nd rfl (Or.inl rfl) (hU (Hn T ht) hr (b_ (pv 0) d_)))
   (gZ (ic (i:=2) nd rfl (Or.inl rfl) (hU (CD T) (hr.mono (by decide)) (b_ (pv 0) d_)))
   (gZ (iw (mD (iq l0 (pv 1) iM (ig _)) (mE (iq zG (hU (He T) (hr.mono (by decide)) (b_ (pv 2) d_)) iM (ig _)))).pt (g9 (hJ iM)) iy)
   (g9 (hJ (jk (VZ T) (hr.mono (by decide)) (b_ (pv 1) (b_ (hU (Xi T) (hr.mono (by decide)) (b_ (pv 2) d_)) d_)))))))),?_⟩
  dsimp only[il]
  refine(a_ rfl ⟨l,a_ rfl ⟨.inl hl,h9 rfl rfl (a_ rfl ?_)⟩⟩)
  rw[i_]
  by_cases hz:500<t.length
  ·have e:Vaunia.quantityOf t=none:=by unfold Vaunia.quantityOf Vaunia.MOST_TEXT;rw[aE hz]
   rw[e]at k
   rw[ah (show(500:Int)<(t.length:Nat) by omega)]
   exact iu (k _ (c_.refl _))
  ·rw[az (show ¬(500:Int)<(t.length:Nat) by omega)]
   rw[C2 hz]at k
   obtain⟨pl1,HY⟩:=CO (t:=t) (by omega)
   refine iz (a_ rfl ⟨l,t,rfl,hl,lH.of λv H1 s1 hv=>?_⟩)
   refine(a_ rfl ⟨l,t,rfl,s1.seq hl,by omega,λpp H2 s2 mj=>?_⟩)
   have iI:=s1.trans s2
   cases hn:lx t with
   | none=>
    rw[hn]at k hv
    have hv:v= .ia:=hv
    subst hv
    exact⟨_,rfl,rfl,_,rfl,iu (iu (k _ iI))⟩
   | some q=>
    rw[hn]at k hv
    simp only at k
    obtain⟨p,rfl,hp⟩:=hv
    refine(a_ rfl ⟨rfl,a_ rfl (iz (a_ rfl ⟨pp,a_ rfl ⟨mj,HY,λv3 H3 s3 nu=>(⟨rfl,a_ rfl ?_⟩)⟩⟩))⟩)
    have jY:=iI.trans s3
    cases hw:jS 0 (ji t) with
    | some x=>
     rw[hw]at k nu
     obtain⟨p3,rfl,_⟩:=nu
     exact iu (k _ jY)
    | none=>
     rw[hw]at k nu
     have nu:v3= .ia:=nu
     subst nu
     obtain⟨Rb,A1⟩:=v7 _ _ hw
     refine iz (a_ rfl (a_ rfl ⟨pp,ji t,rfl,mj.same s3,λx hx=>⟨HY x hx,Rb x hx⟩,?_,λlf H4 s4 Bl=>⟨rfl,λx dx hx nX iJ=>?_⟩⟩))
     ·rcases A1 with h | h
      ·rw[h];decide
      ·omega
     ·have s5:=c_.jc (o:=.ins a.tY dx (GA [.ref p,.ref lf])) (o':=.own x) hx nX
      exact k x _ ((jY.trans s4).trans s5) ⟨dx,p,lf,e_,((hp.same (s2.trans s3)).same s4).same s5,Bl.same s5⟩
end
noncomputable def ku(x:Str)(t:List UInt8):Prop:=TL.tl x=t.map UInt8.toNat
theorem zW(z:Int):ku (Str.ofString (toString z)) (Vaunia.shownInt z):=by
 unfold ku Vaunia.shownInt
 cases z with
 | ofNat n=>
  rw[aq (by simp)]
  have e:=TL.Dz n
  show TL.tl (Str.ofString (toString (Int.ofNat n)))=_
  rw[show((n:Nat):Int)=Int.ofNat n from rfl]at e
  rw[e]
  unfold TL.nD
  exact(vY n).symm
 | negSucc n=>
  rw[aE (Int.negSucc_lt_zero n)]
  have e:toString (Int.negSucc n)="-"++toString ((n+1:Nat):Int):=rfl
  rw[e,TL.zX,String.toList_append,au]
  have e2:=TL.Dz (n+1)
  rw[TL.zX]at e2
  rw[e2,aO]
  show 45::TL.nD (n+1)=45::List.map UInt8.toNat (Vaunia.decimal (n+1))
  unfold TL.nD
  rw[vY]
theorem ku.len{x:Str}{t:List UInt8}(h:ku x t):x.length=t.length:=by
 rw[TL.Gi,h,ab]
theorem t7{n k:Nat}(hk:0<k)(h:n<10^k):(Vaunia.decimal n).length<=k:=by
 have e:=cB List.length (vY n)
 rw[ab]at e
 rw[e]
 exact TL.Wy hk h
theorem Qj(n:Nat):Vaunia.decimal n≠[]:=by
 intro h
 have e:=vY n
 rw[h]at e
 exact TL.Wz n e.symm
theorem tz{z:Int}(h:z.natAbs<10^130):(Vaunia.shownInt z).length<=131:=by
 have:=t7 (by decide) h
 unfold Vaunia.shownInt
 split
 ·rw[ai];omega
 ·omega
theorem zc{n:Nat}(h:n<10^130):n.log2<1920:=by
 rcases cn n with z | z
 ·subst z;decide
 ·refine(gI (cp z)).mpr (fG h ?_)
  have:(10:Nat)^130<2^1920:=by decide
  exact this
theorem Eh{n:Nat}(h:n<10^40):n<10^130:=aS h (a0 (by decide) (by decide))
section
variable{P:Program}{w:World}{K:Fg}{mg:Str->Option Value}{base:Heap}{a:hC}
noncomputable def oo(H:Hp)(R:VK)(t:List UInt8):Prop:=∀p U,c_ H U->U p=some (.lst (bv t))->R (.ref p) U
theorem oo.same{H U:Hp}{R:VK}{t:List UInt8}(k:oo H R t)(s:c_ H U):oo U R t:=λp H2 s2 h=>k p H2 (s.trans s2) h
noncomputable def ZT:Sp:=λvs H R _=>∃x t,vs=[.str x]/\ku x t/\t.length<=20000/\oo H R t
theorem zB(T:Txt K mg a):Callee P w K mg base 1 "signs_of" ["written"] (ZT):=by
 refine T.PY.ok LI (λvs H Q E h=>?_) (λf h8 A outer s H vs Q E hr h=>?_)
 ·obtain⟨_,_,rfl,_⟩:=h
  rfl
 ·obtain⟨x,t,rfl,hx,hz,k⟩:=h
  have nd:=LI.nd
  refine⟨_,g9 (hJ (lA (own:=[("letter",1)]) rfl nd (Ym (pv 0)) (j_ rfl) (λ_ _ _ _ _=>iT (i:=1) nd rfl (Or.inl rfl)) (λ_ _ _ _ _=>kT)
   (λ_ _ _ _ _=>i7 NW (by rfl) T.NG (by decide +kernel) (b_ (pv 1) d_)))),?_⟩
  refine(a_ rfl ⟨x,rfl,λD hD=>Vv (λi U=>kY H D (bv (t.take i)) U) (lZ hD) (λi c U hc p=>?_) (λU p=>?_)⟩)
  ·have we:(t.map UInt8.toNat)[i]? =some c:=by
    have e:x.cps.toList=t.map UInt8.toNat:=hx
    rw[<-e];exact hc
   obtain⟨b,hb,rfl⟩:=i8 we
   have hi:=ja hb
   refine(⟨rfl,a_ rfl (a_ rfl ⟨rfl,?_⟩)⟩)
   refine lY hD p (c_.refl _) (by rw[i_,aB];exact iV (by omega)) ?_
   rw[take_snoc hb,vP];rfl
  ·have e:x.cps.toList.length=t.length:=by
    have e:x.cps.toList=t.map UInt8.toNat:=hx
    rw[e,ab]
   have p2:=p.2
   rw[e,aP]at p2
   exact k D _ p.1 p2
theorem qS{H:Hp}{l b:Addr}{s t:List UInt8}{R:VK}(hl:H l=some (.lst (bv s)))(hb:H b=some (.lst (bv t)))(hz:s.length+t.length<=20000)(k:oo H R (s++t)):Ii (.ref l) (.ref b) H R:=
 (⟨l,b,h9 rfl rfl ⟨hl,hb,by rw[i_,i_];exact aI (iV hz),λp hp=>k p _ (c_.new hp) (by rw[e_,vP])⟩⟩)
noncomputable def ZP(a:hC):Sp:=λvs H R _=>∃p q,vs=[.ref p]/\iN a H p q/\q.num.natAbs<10^130/\q.den<10^130/\oo H R (Vaunia.shownQ q)
theorem XQ(T:Txt K mg a):Callee P w K mg base 2 "shown_fraction" ["fraction"] (ZP a):=by
 refine T.PR.ok LF (λvs H Q E h=>?_) (λf h8 A outer s H vs Q E hr h=>?_)
 ·obtain⟨_,_,rfl,_⟩:=h
  rfl
 ·obtain⟨p,q,rfl,⟨dx,hp⟩,hn,hd,k⟩:=h
  have nd:=LF.nd
  refine⟨_,gZ (ic (i:=1) nd rfl (Or.inl rfl) (hU (zB T) hr (b_ (l7 yg (by rfl) T.ya (by decide +kernel) (b_ (hG (pv 0) rfl) d_)) d_)))
   (gZ (iw (iq je (hG (pv 0) rfl) ij (ig _)) (g9 (hJ (pv 1))) iy)
   (g9 (hJ (iH kS (iH kS (pv 1) (iL (b_ (iD T.wa) d_))) (hU (zB T) hr (b_ (l7 yg (by rfl) T.ya (by decide +kernel) (b_ (hG (pv 0) rfl) d_)) d_)))))),?_⟩
  dsimp only[il]
  have l1:=tz hn
  have yH:((q.den:Int)).natAbs<10^130:=hd
  have l2:=tz yH
  refine(a_ rfl (hX rfl hp T.iQ.cl T.jN rfl (a_ rfl ⟨zc hn,_,a_ rfl ⟨zW q.num,by omega,λl H1 s1 h1=>?_⟩⟩)))
  refine(a_ rfl (hX rfl (s1 _ _ hp) T.iQ.cl T.jM rfl ⟨rfl,a_ rfl ?_⟩))
  unfold Vaunia.shownQ at k
  by_cases c:q.den=1
  ·rw[aE c]at k
   rw[c]
   exact iu (a_ rfl (k l _ s1 h1))
  ·rw[aq c]at k
   have e:decide (V.int (q.den:Int)=V.int 1)=false:=az λz=>c (by have:=V.int.inj z;omega)
   rw[e]
   refine iz (a_ rfl ⟨by show 1<=sizeLine;decide,λo ho=>?_⟩)
   have s2:=c_.new (o:=.lst [V.int 47]) ho
   refine qS (t:=[47]) (s2 _ _ h1) e_ (by rw[aA];omega) λm H3 s3 h3=>?_
   refine(a_ rfl (hX rfl (s3 _ _ (s2 _ _ (s1 _ _ hp))) T.iQ.cl T.jM rfl (a_ rfl ⟨zc yH,_,a_ rfl ⟨zW (q.den:Int),by omega,λn H4 s4 h4=>?_⟩⟩)))
   refine qS (s4 _ _ h3) h4 (by rw[aj,aA];omega) ?_
   have e2:Vaunia.shownInt (q.den:Int)=Vaunia.decimal q.den:=by
    unfold Vaunia.shownInt
    rw[aq (by omega)];rfl
   rw[e2,bR]
   exact k.same (((s1.trans s2).trans s3).trans s4)
noncomputable def ZN:Sp:=λvs H R _=>∃n t k,vs=[.ref n,.int k]/\jC H n t/\t.length<=500/\k.natAbs<10^130/\oo H R (Vaunia.shownFactor (t,k))
theorem XO(T:Txt K mg a):Callee P w K mg base 2 "shown_factor" ["name","power"] (ZN):=by
 refine T.PN.ok LC (λvs H Q E h=>?_) (λf h8 A outer s H vs Q E hr h=>?_)
 ·obtain⟨_,_,_,rfl,_⟩:=h
  rfl
 ·obtain⟨n,t,z,rfl,hn,hl,hz,k⟩:=h
  have nd:=LC.nd
  refine⟨_,gZ (iw (iq je (pv 1) ij (ig _)) (g9 (hJ (l7 vT (by rfl) T.tT (by decide +kernel) (b_ (pv 0) d_)))) iy)
   (g9 (hJ (iH kS (iH kS (l7 vT (by rfl) T.tT (by decide +kernel) (b_ (pv 0) d_)) (iL (b_ (iD T.A5) d_))) (hU (zB T) hr (b_ (l7 yg (by rfl) T.ya (by decide +kernel) (b_ (pv 1) d_)) d_))))),?_⟩
  dsimp only[il]
  unfold Vaunia.shownFactor at k
  refine(a_ rfl ⟨rfl,a_ rfl ?_⟩)
  have l1:=tz hz
  by_cases c:z=1
  ·subst c
   exact iu (a_ rfl ⟨n,a_ rfl ⟨.inr (iO.of hn),λl hl=>k l _ (c_.new hl) e_⟩⟩)
  ·rw[aq c]at k
   rw[az (λe=>c (V.int.inj e))]
   refine iz (a_ rfl ⟨n,a_ rfl ⟨.inr (iO.of hn),λl jd=>?_⟩⟩)
   have s1:=c_.new (o:=.lst (bv t)) jd
   refine⟨by show 1<=sizeLine;decide,λo ho=>?_⟩
   have s2:=c_.new (o:=.lst [V.int 94]) ho
   refine qS (t:=[94]) (s2 _ _ e_) e_ (by rw[aA];omega) λm H3 s3 h3=>?_
   refine(a_ rfl (a_ rfl ⟨zc hz,_,a_ rfl ⟨zW z,by omega,λn4 H4 s4 h4=>?_⟩⟩))
   refine qS (s4 _ _ h3) h4 (by rw[aj,aA];omega) ?_
   rw[bR]
   exact k.same (((s1.trans s2).trans s3).trans s4)
end
noncomputable def pF(fs:List Vaunia.Factor):List UInt8:=Vaunia.joined 46 (fs.map Vaunia.shownFactor)
theorem F9(sep:UInt8):∀(xs:List (List UInt8)) (x:List UInt8),Vaunia.joined sep (xs++[x])=(if xs=[] then [] else Vaunia.joined sep xs++[sep])++x
 | [],x=>rfl
 | [y],x=>by simp[Vaunia.joined]
 | y::z::r,x=>by
  have ih:=F9 sep (z::r) x
  rw[aq (by simp)]at ih ⊢
  show y++sep::Vaunia.joined sep ((z::r)++[x])=_
  rw[ih]
  simp[Vaunia.joined]
theorem B8(fs:List Vaunia.Factor)(f:Vaunia.Factor):pF (fs++[f])=(if fs=[] then [] else pF fs++[46])++Vaunia.shownFactor f:=by
 unfold pF
 rw[au]
 show Vaunia.joined 46 (fs.map Vaunia.shownFactor++[Vaunia.shownFactor f])=_
 rw[F9]
 cases fs<;>rfl
noncomputable def nP(f:Vaunia.Factor):Prop:=f.1≠[]/\f.1.length<=12/\f.2.natAbs<10^130
theorem L1{f:Vaunia.Factor}(h:nP f):(Vaunia.shownFactor f).length<=150:=by
 have:=tz h.2.2
 have:=h.2.1
 unfold Vaunia.shownFactor
 split
 ·omega
 ·rw[aj,ai];omega
theorem aa_{f:Vaunia.Factor}(h:nP f):Vaunia.shownFactor f≠[]:=by
 unfold Vaunia.shownFactor
 split
 ·exact h.1
 ·simp
theorem wX:∀(fs:List Vaunia.Factor) (i:Nat),(∀f∈fs,nP f)->i<=fs.length->(pF (fs.take i)).length<=i*151
 | fs,0,_,_=>by rw[List.take_zero];exact aU _
 | fs,i+1,h,hi=>by
  have hf:fs[i]? =some fs[i]:=ay (by omega)
  have ih:=wX fs i h (by omega)
  have l:=L1 (h _ (aG hf))
  rw[take_snoc hf,B8,aj]
  split
  ·rw[bQ];omega
  ·rw[aj,aA];omega
theorem UX{fs:List Vaunia.Factor}(h:∀f∈fs,nP f){i:Nat}(hi:i<=fs.length):0<(pF (fs.take i)).length↔0<i:=by
 cases i with
 | zero=>rw[List.take_zero];exact⟨λh=>absurd h (by decide),λh=>absurd h (by decide)⟩
 | succ i=>
  have hf:fs[i]? =some fs[i]:=ay (by omega)
  have l:=aa_ (h _ (aG hf))
  rw[take_snoc hf,B8,aj]
  have:=List.length_pos_iff.mpr l
  omega
theorem zV{t u:TT}{σ:L2.St}{H:Hp}{Q:Bool->Hp->Prop}{b1 b2:Bool}(h1:∀R:Bool->Hp->Prop,R b1 H->t σ H R)(h2:∀R:Bool->Hp->Prop,R b2 H->u σ H R)(h:Q (b1&&b2) H):Ms t u σ H Q:=by
 refine h1 _ ?_
 cases b1 with
 | true=>exact iu (h2 _ h)
 | false=>exact iz h
theorem yk{i j:Int}{R:Bool->Hp->Prop}{H:Hp}(h:R (decide (i=j)) H):R (decide (V.int i=V.int j)) H:=by
 have e:decide (V.int i=V.int j)=decide (i=j):=by
  rw[aH,ak,ak]
  exact⟨λh=>V.int.inj h,λh=>by rw[h]⟩
 rw[e];exact h
theorem Qh{d:Nat}:decide ((d:Int)=1)=decide (d=1):=by
 rw[aH,ak,ak];omega
section
variable{P:Program}{w:World}{K:Fg}{mg:Str->Option Value}{base:Heap}{a:hC}
noncomputable def ZO:Sp:=λvs H R _=>∃l fs,vs=[.ref l]/\j9 H l fs/\fs.length<=50/\(∀f∈fs,nP f)/\oo H R (Vaunia.shownFactors fs)
theorem Ht(T:Txt K mg a):Callee P w K mg base 3 "shown_factors" ["factors"] (ZO):=by
 refine T.PQ.ok LD (λvs H Q E h=>?_) (λf h8 A outer s H vs Q E hr h=>?_)
 ·obtain⟨_,_,rfl,_⟩:=h
  rfl
 ·obtain⟨l,fs,rfl,⟨ps,hl,zp⟩,hz,h_,k⟩:=h
  have nd:=LD.nd
  refine⟨_,gZ (iw (iq je (i7 ka (by rfl) T.jO aV (b_ (pv 0) d_)) ij (ig _)) (g9 (hJ (iL (b_ (iD T.yA) d_)))) iy)
   (gZ (ic (i:=1) nd rfl (Or.inl rfl) (iL d_))
   (gZ (lC aX rfl (kj (pv 0)) (nF rfl (jX (iT (i:=2) nd rfl (Or.inl rfl)) (jX (iT (i:=3) nd rfl (Or.inl rfl)) nG)))
    (gZ (iw (iq ly (i7 ka (by rfl) T.jO aV (b_ (pv 1) d_)) ij (ig _)) (g9 (lR (lP aT bV bW rC (pv 1) (b_ (iD T.yB) d_)))) iy)
    (g9 (lR (lP aT fh fi GH (pv 1) (b_ (hU (XO T) hr (b_ (pv 2) (b_ (pv 3) d_))) d_))))))
   (g9 (hJ (pv 1))))),?_⟩
  dsimp only[il]
  have hlen:=zp.1
  refine(a_ rfl ⟨l,a_ rfl ⟨.inl (f_.of hl),rfl,a_ rfl ?_⟩⟩)
  rw[ab]
  unfold Vaunia.shownFactors at k
  by_cases c:fs=[]
  ·subst c
   have e:ps.length=0:=hlen
   rw[e]
   refine iu ⟨by show 1<=sizeLine;decide,λp hp=>k p _ (c_.new hp) e_⟩
  ·have ls:0<fs.length:=List.length_pos_iff.mpr c
   rw[az (λe=>by have:=V.int.inj e;omega)]
   rw[aq (by cases fs with | nil=>exact absurd rfl c | cons _ _=>exact ao)]at k
   refine iz ⟨aU _,λsh BI=>?_⟩
   have s0:=c_.new (o:=.lst []) BI
   refine(a_ rfl ⟨l,rfl,⟨_,f_.of (s0 _ _ hl)⟩,qY (K:=K) (a:=l) (xs:=ps.map V.ref) (λi σ U=>∃r2 r3:Option V,σ=[some (.ref l),some (.ref sh),r2,r3]/\c_ H U/\U sh=some (.lst (bv (pF (fs.take i)))))
    ⟨none,none,rfl,s0,e_⟩ (λi σ U _ ⟨_,_,_,s1,_⟩=>f_.of (s1 _ _ hl)) ?_ ?_⟩)
   ·rintro i x σ U hx ⟨r2,r3,rfl,s1,h1⟩
    obtain⟨p,hp,rfl⟩:=i8 hx
    have ⟨⟨t,z⟩,hy,n,kf,jA⟩:=zp.right hp
    have hi:=ja hy
    have nY:=h_ _ (aG hy)
    have yO:=wX fs i h_ (by omega)
    have Fd:=UX h_ (i:=i) (by omega)
    have qz:=L1 nY
    refine⟨p,_,rfl,iO.of (s1 _ _ kf),rfl,_,_,rfl,_,_,rfl,rfl,?_⟩
    refine⟨_,rfl,sh,_,rfl,.inl (f_.of h1),_,_,rfl,rfl,_,rfl,?_⟩
    rw[i_]
    refine BV (λik H2=>ik=[some (.ref l),some (.ref sh),some (.ref n),some (.int z)]/\c_ H H2/\H2 sh=some (.lst (bv (if fs.take i=[] then [] else pF (fs.take i)++[46])))) (λc nx hR=>?_) (λc nx hR=>?_) ?_
    ·have ci:0<i:=Fd.mp (by have:=aL c;omega)
     refine(a_ rfl ⟨.inl ⟨rfl,_,f_.of h1⟩,sh,h9 rfl rfl ⟨h1,by rw[i_];exact iV (by omega),hR _ _ ⟨rfl,s1.upd BI,?_⟩⟩⟩)
     rw[e_,aq (λe=>by have:=cB List.length e;rw[aB,bQ]at this;omega),vP];rfl
    ·have ci:i=0:=by
      rcases cn i with e | e
      ·exact e
      ·have:=Fd.mpr e
       exact absurd (ah (by omega)) (bj.mp c)
     subst ci
     exact hR _ _ ⟨rfl,s1,h1⟩
    ·rintro ik H2 ⟨rfl,s2,h2⟩
     have iJ:∀{q:Addr} {xs:List V},H q=some (.tup xs)->True:=λ_=>trivial
     refine(a_ rfl ⟨.inl ⟨rfl,_,f_.of h2⟩,a_ rfl (a_ rfl ⟨n,t,z,rfl,s2 _ _ jA,by have:=nY.2.1;simp only at this;omega,nY.2.2,λq H3 s3 h3=>?_⟩)⟩)
     have acP:q≠sh\/True:=.inr trivial
     refine(⟨sh,q,h9 rfl rfl ⟨s3 _ _ h2,h3,?_,?_⟩⟩)
     ·rw[i_,i_]
      refine aI (iV ?_)
      split
      ·rw[bQ];omega
      ·rw[aj,aA];omega
     ·refine(⟨_,a_ rfl ⟨(s2.trans s3).upd BI,?_⟩⟩)
      rw[e_,take_snoc hy,B8,vP]
   ·rintro σ U ⟨r2,r3,rfl,s1,h1⟩
    rw[ab,hlen,aP]at h1
    exact(a_ rfl (k sh _ s1 h1))
noncomputable def ZQ(a:hC):Sp:=λvs H R _=>∃p l q fs,vs=[.ref p,.ref l]/\iN a H p q/\q.num.natAbs<10^130/\q.den<10^130/\j9 H l fs/\fs.length<=50/\(∀f∈fs,nP f)/\oo H R (Vaunia.shownQuantity q fs)
theorem Hu(T:Txt K mg a):Callee P w K mg base 4 "shown_quantity" ["number","factors"] (ZQ a):=by
 refine T.PU.ok LG (λvs H Q E h=>?_) (λf h8 A outer s H vs Q E hr h=>?_)
 ·obtain⟨_,_,_,_,rfl,_⟩:=h
  rfl
 ·obtain⟨p,l,q,fs,rfl,hp,hn,hd,hf,hz,h_,k⟩:=h
  have nd:=LG.nd
  refine⟨_,gZ (ic (i:=2) nd rfl (Or.inl rfl) (hU (Ht T) hr (b_ (pv 1) d_)))
   (gZ (iw (xC (iq je (hG (pv 0) rfl) ij (ig _)) (xD (iq je (hG (pv 0) rfl) ij (ig _)))).pt (g9 (hJ (pv 2))) iy)
   (g9 (hJ (iH kS (iH kS (hU (XQ T) (hr.mono (by decide)) (b_ (pv 0) d_)) (iL (b_ (iD T.v_) d_))) (pv 2))))),?_⟩
  dsimp only[il]
  refine(a_ rfl ⟨l,fs,rfl,hf,hz,h_,λm H1 s1 h1=>?_⟩)
  have ⟨dx,kf⟩:=hp.same s1
  have l1:=tz hn
  have l2:=t7 (by decide) hd
  have l3:(Vaunia.shownFactors fs).length<=10000:=by
   have:=wX fs fs.length h_ (ax _)
   rw[aP]at this
   unfold pF at this
   unfold Vaunia.shownFactors
   split
   ·decide
   ·omega
  have l4:(Vaunia.shownQ q).length<=300:=by
   unfold Vaunia.shownQ
   split
   ·omega
   ·rw[aj,ai];omega
  dsimp only[jL,pW,pU]
  refine zV (b1:=decide (q.num=1)) (b2:=decide (q.den=1)) (λR hR=>(a_ rfl (hX rfl kf T.iQ.cl T.jN rfl ⟨rfl,a_ rfl (yk hR)⟩))) (λR hR=>(a_ rfl (hX rfl kf T.iQ.cl T.jM rfl ⟨rfl,a_ rfl (yk (i:=(q.den:Int)) (j:=1) (by rw[Qh];exact hR))⟩))) ?_
  have e1:(decide (q.num=1)&&decide (q.den=1))=decide (q=Vaunia.Q.one):=by
   rw[aH,aZ,ak,ak,ak]
   constructor
   ·rintro⟨x,y⟩
    cases q;cases x;cases y;rfl
   ·intro h;rw[h];exact⟨rfl,rfl⟩
  rw[e1]
  unfold Vaunia.shownQuantity at k
  refine iU (λc=>?_) (λc=>?_)
  ·rw[aE (aL c)]at k
   exact(a_ rfl (k m _ s1 h1))
  ·rw[aq (λe=>c (ah e))]at k
   refine(a_ rfl ⟨p,q,rfl,⟨dx,kf⟩,hn,hd,λn H2 s2 h2=>?_⟩)
   refine⟨by show 1<=sizeLine;decide,λo ho=>?_⟩
   have s3:=c_.new (o:=.lst [V.int 32]) ho
   refine qS (t:=[32]) (s3 _ _ h2) e_ (by rw[aA];omega) λn4 H4 s4 h4=>?_
   refine(a_ rfl (qS h4 (s4 _ _ (s3 _ _ (s2 _ _ h1))) (by rw[aj,aA];omega) ?_))
   rw[bR]
   exact k.same (((s1.trans s2).trans s3).trans s4)
noncomputable def Zt:Sp:=λvs H R _=>∃n d:Nat,vs=[.int n,.int d]/\0<d/\d.log2<9000/\R (.int (j3 n d)) H
theorem XB(T:Txt K mg a):Callee P w K mg base 1 "nearest" ["top","bottom"] (Zt):=by
 refine T.Ph.ok Lk (λvs H Q E h=>?_) (λf h8 A outer s H vs Q E hr h=>?_)
 ·obtain⟨_,_,rfl,_⟩:=h
  rfl
 ·obtain⟨n,d,rfl,hd,hl,k⟩:=h
  have nd:=Lk.nd
  have lV:(0:Int)<(d:Int):=by omega
  refine⟨_,gZ (ic (i:=2) nd rfl (Or.inl rfl) (iH zE (pv 0) (pv 1))) (gZ (ic (i:=3) nd rfl (Or.inl rfl) (iH rO ij (iH xt (pv 0) (pv 1))))
   (gZ (iw (mD (iq ly (pv 3) (pv 1) (ig _)) (mE (xC (iq je (pv 3) (pv 1) (ig _)) (xD (iq je (iH xt (pv 2) ij) ij (ig _)))).pt)).pt (g9 (hJ (iH mV (pv 2) ij))) iy) (g9 (hJ (pv 2))))),?_⟩
  refine(a_ rfl (a_ rfl (h9 rfl rfl ⟨⟨lV,hl⟩,a_ rfl (a_ rfl (h9 rfl rfl ⟨lV,h9 rfl rfl ⟨.inl ⟨by decide,by decide⟩,?_⟩⟩))⟩)))
  rw[Cq]at k
  dsimp only[jL,pW,pU]
  refine vb (b1:=decide ((d:Int)<2*((n:Int) % (d:Int)))) (b2:=decide (2*((n:Int) % (d:Int))=d)&&decide (((n:Int)/(d:Int)) % 2=1)) (λR hR=>(a_ rfl (a_ rfl (h9 rfl rfl (a_ rfl hR)))))
   (λR hR=>zV (b1:=decide (2*((n:Int) % (d:Int))=d)) (b2:=decide (((n:Int)/(d:Int)) % 2=1)) (λR hR=>(a_ rfl (a_ rfl ⟨rfl,a_ rfl (yk hR)⟩))) (λR hR=>(a_ rfl (h9 rfl rfl ⟨(by show(0:Int)<2;decide),rfl,a_ rfl (yk hR)⟩))) hR) ?_
  refine iU (λc=>?_) (λc=>?_)
  ·rw[aE (by simpa using c)]at k
   exact(a_ rfl (h9 rfl rfl k))
  ·rw[aq (by simpa using c)]at k
   exact(a_ rfl k)
end
theorem ku.t6{z:Str}{t:List UInt8}(h:ku z t){i:Nat}(hi:i<=t.length):ku (vW z none (some (i:Int))) (t.take i):=by
 show(z.cps.toList.drop (HT.iS z.length 0 none)).take (HT.iS z.length z.length (some (i:Int))-HT.iS z.length 0 none)=_
 rw[HT.u0,HT.tw,h.len,cT hi,fN,Nat.sub_zero,show z.cps.toList=t.map UInt8.toNat from h,fg]
theorem ku.qd{z:Str}{t:List UInt8}(h:ku z t){i:Nat}(hi:i<=t.length):ku (vW z (some (i:Int)) none) (t.drop i):=by
 show(z.cps.toList.drop (HT.iS z.length 0 (some (i:Int)))).take (HT.iS z.length z.length none-HT.iS z.length 0 (some (i:Int)))=_
 rw[HT.u0,HT.tw,h.len,cT hi,show z.cps.toList=t.map UInt8.toNat from h,d5,cu (by rw[aR,ab];omega)]
theorem ku.append{x y:Str}{s t:List UInt8}(h:ku x s)(g:ku y t):ku (x++y) (s++t):=by
 show TL.tl (x++y)=_
 rw[TL.abS,h,g,au]
theorem Qi{n:Nat}{c:UInt8}(h:c∈Vaunia.decimal n):48<=c.toNat/\c.toNat<=57:=by
 have m:c.toNat∈TL.nD n:=by
  unfold TL.nD
  rw[<-vY]
  exact aQ.mpr ⟨c,h,rfl⟩
 have:=TL.Wx n _ m
 omega
theorem acn{x:Str}{n p:Nat}(h:ku x (Vaunia.decimal n)):ku (Txt.zfill x ((p:Int)+1)) (Vaunia.padded (p+1) (Vaunia.decimal n)):=by
 unfold Txt.zfill Vaunia.padded
 by_cases c:((p:Int)+1)<=x.length
 ·rw[aE c]
  have e:p+1-(Vaunia.decimal n).length=0:=by rw[<-h.len];omega
  rw[e]
  exact h
 ·rw[aq c]
  have e2:((p:Int)+1).toNat-x.length=p+1-(Vaunia.decimal n).length:=by rw[<-h.len];omega
  rw[e2]
  have iJ:=Qj n
  cases hd:Vaunia.decimal n with
  | nil=>exact absurd hd iJ
  | cons b r=>
   have hb:=Qi (n:=n) (c:=b) (by rw[hd];exact aD)
   have hx:x.cps[0]? =some b.toNat:=by
    have e3:x.cps.toList=(b::r).map UInt8.toNat:=by rw[<-hd];exact h
    have:x.cps.toList[0]? =some b.toNat:=by rw[e3];rfl
    simpa using this
   have ez:PySem.zfilled x (p+1-(b::r).length)=PySem.Builtin.Str.padded x (p+1-(b::r).length) 0 48:=by
    unfold PySem.zfilled
    rw[hx]
    split
    ·rename_i q;have:=ae q;omega
    ·rename_i q;have:=ae q;omega
    ·rfl
   rw[ez]
   show(Array.replicate (p+1-(b::r).length) 48++x.cps++Array.replicate 0 48).toList=_
   rw[gm,gm,Array.toList_replicate,au,List.map_replicate]
   have e3:x.cps.toList=(b::r).map UInt8.toNat:=by rw[<-hd];exact h
   rw[e3]
   simp
theorem HH(n:Nat)(t:List UInt8):(Vaunia.padded n t).length=max n t.length:=by
 unfold Vaunia.padded
 rw[aj,List.length_replicate];omega
theorem X5{p:Nat}(h:p<=20):PadOk ((p:Int)+1)=true:=by
 have t:∀p,p<21->PadOk ((p:Nat)+1:Int)=true:=by decide +kernel
 exact t p (by omega)
section
variable{P:Program}{w:World}{K:Fg}{mg:Str->Option Value}{base:Heap}{a:hC}
noncomputable def ZR(a:hC):Sp:=λvs H R _=>∃(fp:Addr) (q:Q) (p:Nat),vs=[.ref fp,.int p]/\iN a H fp q/\0<q.den/\q.den<10^80/\q.num.natAbs<10^80/\p<=20/\oo H R (Vaunia.shownPlaces p (j3 (q.num*10^p) q.den))
theorem XR(T:Txt K mg a):Callee P w K mg base 2 "shown_rounded" ["fraction","places"] (ZR a):=by
 refine T.PV.ok LH (λvs H Q E h=>?_) (λf h8 A outer s H vs Q E hr h=>?_)
 ·obtain⟨_,_,_,rfl,_⟩:=h
  rfl
 ·obtain⟨fp,q,p,rfl,⟨dxq,nZ⟩,hd,qu,hn,hp,k⟩:=h
  have nd:=LH.nd
  refine⟨_,gZ (ic (i:=2) nd rfl (Or.inl rfl) (hU (XB T) hr (b_ (iH mw (i7 sy (by rfl) T.sk (by decide +kernel) (b_ (hG (pv 0) rfl) d_)) (hU (tf T) hr (b_ ij (b_ (pv 1) d_)))) (b_ (hG (pv 0) rfl) d_))))
   (gZ (ic (i:=3) nd rfl (Or.inl rfl) (Yg PySem.F.slot_str_zfill PySem.F.type_str_zfill V4 (l7 yg (by rfl) T.ya (by decide +kernel) (b_ (pv 2) d_)) (iH mV (pv 1) ij)))
   (gZ (ic (i:=4) nd rfl (Or.inl rfl) (iH xu (i7 NU (by rfl) T.jO aV (b_ (pv 3) d_)) (pv 1)))
   (gZ (ic (i:=5) nd rfl (Or.inl rfl) (lQ L6 (pv 3) mC (k_ (pv 4))))
   (gZ (iw (iq ly (pv 1) ij (ig _)) (g9 (ic (i:=5) nd rfl (Or.inl rfl) (iH CG (iH CG (pv 5) HQ) (lQ L6 (pv 3) (k_ (pv 4)) mC)))) iy)
   (gZ (iw (xC (iq kN (hG (pv 0) rfl) ij (ig _)) (xD (iq ly (pv 2) ij (ig _)))).pt (g9 (ic (i:=5) nd rfl (Or.inl rfl) (iH CG HQ (pv 5)))) iy)
   (g9 (hJ (hU (zB T) hr (b_ (pv 5) d_))))))))),?_⟩
  dsimp only[il]
  generalize Fp:q.num=n at hn k nZ
  generalize mi:q.den=d at hd qu k nZ
  have lU:intBits (n.natAbs:Int)<=1000:=nH (aI hn) (by decide)
  have qr:intBits ((10:Int)^p)<=1000:=by
   rw[show((10:Int)^p)=((10^p:Nat):Int) by rw[bH];rfl]
   exact nH (ax _) (by omega)
  have Td:d.log2<9000:=by
   refine(gI (by omega)).mpr (fG qu ?_)
   have h1:(10:Nat)^80<2^300:=by decide
   exact fG h1 (e9 (by decide) (by decide))
  refine(a_ rfl (hX rfl nZ T.iQ.cl T.jN rfl (a_ rfl (a_ rfl ⟨10,p,rfl,by decide,by omega,h9 rfl rfl ⟨?_,?_⟩⟩))))
  ·rw[tS]
   exact dP lU qr (by decide)
  rw[tS]
  refine(a_ rfl (hX rfl nZ T.iQ.cl T.jM rfl ⟨n.natAbs*10^p,d,by rw[aW,bH];rfl,hd,Td,?_⟩))
  have Bi:=G0 (n.natAbs*10^p) hd
  have hle:=GY (n.natAbs*10^p) hd
  have es:j3 (n*10^p) d=if n<0 then -j3 ((n.natAbs*10^p:Nat):Int) d else j3 ((n.natAbs*10^p:Nat):Int) d:=by
   have e0:n.natAbs*10^p=(n*10^p).natAbs:=by rw[cN,Int.natAbs_pow];rfl
   have mj:(0:Int)<10^p:=Int.pow_pos (by decide)
   split
   ·rename_i h
    rw[<-GZ _ hd]
    congr 1
    rw[aW,bH]
    have:(n.natAbs:Int)= -n:=by omega
    rw[this,gY,Int.neg_neg];rfl
   ·rename_i h
    congr 1
    rw[aW,bH]
    have:(n.natAbs:Int)=n:=by omega
    rw[this];rfl
  rw[es]at k
  obtain⟨m,hm⟩:∃m:Nat,j3 ((n.natAbs*10^p:Nat):Int) d=(m:Int):=⟨_,(gn Bi).symm⟩
  rw[hm]at k hle ⊢
  have Fk:m<10^130:=by
   have h1:(10:Nat)^p<=10^20:=a0 (by decide) hp
   have h2:n.natAbs*10^p<=10^80*10^20:=cW (aI hn) h1
   have h3:m<=n.natAbs*10^p+1:=by omega
   have h4:(10:Nat)^80*10^20+1<10^130:=by decide
   omega
  have qu:=t7 (by decide) Fk
  have FK:Vaunia.shownInt (m:Int)=Vaunia.decimal m:=by
   unfold Vaunia.shownInt
   rw[aq (by omega)];rfl
  have hS:=zW (m:Int)
  rw[FK]at hS
  have hZ:=acn (p:=p) hS
  have i9:=HH (p+1) (Vaunia.decimal m)
  unfold Vaunia.shownPlaces at k
  have QN:(if n<0 then -(m:Int) else (m:Int)).natAbs=m:=by split<;>omega
  have QO:((if n<0 then -(m:Int) else (m:Int))<0)↔(n<0/\0<m):=by split<;>omega
  simp only[QN,QO]at k
  generalize Vaunia.padded (p+1) (Vaunia.decimal m)=dg at k hZ i9
  refine(a_ rfl (a_ rfl ⟨zc Fk,⟨_,rfl⟩,a_ rfl (h9 rfl rfl (h9 rfl rfl ⟨X5 hp,?_⟩))⟩))
  have wc:=hZ.len
  refine(a_ rfl (a_ rfl ⟨by rw[wc];exact aI (iV (by omega)),a_ rfl (h9 rfl rfl ?_)⟩))
  have eb:((Txt.zfill (Str.ofString (toString (m:Int))) ((p:Int)+1)).length:Int)-(p:Int)=((dg.length-p:Nat):Int):=by rw[wc];omega
  refine(a_ rfl (a_ rfl (a_ rfl (a_ rfl ⟨by rw[wc];exact aI (iV (by omega)),?_⟩))))
  have hW:=hZ.t6 (i:=dg.length-p) (by omega)
  have hF:=hZ.qd (i:=dg.length-p) (by omega)
  rw[<-eb]at hW hF
  generalize Txt.zfill (Str.ofString (toString (m:Int))) ((p:Int)+1)=Z at hZ hW hF wc eb ⊢
  refine(a_ rfl (h9 rfl rfl (a_ rfl ?_)))
  refine BV (λik U=>∃x,ik=[some (.ref fp),some (.int p),some (.int m),some (.str Z),some (.int ((Z.length:Int)-(p:Int))),some (.str x)]/\U=H/\ku x (if p=0 then dg.take (dg.length-p) else dg.take (dg.length-p)++46::dg.drop (dg.length-p)))
   (λc nx hR=>?_) (λc nx hR=>?_) ?_
  ·have Bv:¬p=0:=by have:=aL c;omega
   have Be:ku (Str.ofString ".") [46]:=by unfold ku;rw[TL.zX];rfl
   refine(a_ rfl (h9 rfl rfl ⟨?_,a_ rfl (a_ rfl (a_ rfl (a_ rfl ⟨by rw[wc];exact aI (iV (by omega)),h9 rfl rfl ⟨?_,hR _ _ (a_ rfl ⟨rfl,?_⟩)⟩⟩)))⟩))
   ·rw[hW.len,Be.len,aB,aA];exact aI (iV (by omega))
   ·rw[(hW.append Be).len,hF.len,aj,aB,aR,aA];exact aI (iV (by omega))
   ·rw[aq Bv]
    have e:=(hW.append Be).append hF
    rw[bR]at e
    exact e
  ·have Bv:p=0:=by
    rcases cn p with z | z
    ·exact z
    ·exact absurd (ah (show(0:Int)<(p:Int) by omega)) (bj.mp c)
   refine hR _ _ (a_ rfl ⟨rfl,?_⟩)
   rw[aE Bv]
   exact hW
  ·rintro ik U ⟨x,rfl,rfl,hx⟩
   have ni:(if p=0 then dg.take (dg.length-p) else dg.take (dg.length-p)++46::dg.drop (dg.length-p)).length<=400:=by
    split
    ·rw[aB];omega
    ·rw[aj,ai,aB,aR];omega
   generalize (if p=0 then dg.take (dg.length-p) else dg.take (dg.length-p)++46::dg.drop (dg.length-p))=body at k hx ni
   dsimp only[pW,pU]
   refine zV (b1:=decide (n<0)) (b2:=decide (0<m)) (λR hR=>(a_ rfl (hX rfl nZ T.iQ.cl T.jN rfl (h9 rfl rfl (a_ rfl hR))))) (λR hR=>(a_ rfl (h9 rfl rfl (a_ rfl (by rw[show decide ((0:Int)<(m:Int))=decide (0<m) by rw[aH,ak,ak];omega];exact hR))))) ?_
   have ec:(decide (n<0)&&decide (0<m))=decide (n<0/\0<m):=by rw[Bool.decide_and]
   rw[ec]
   refine iU (λc=>?_) (λc=>?_)
   ·rw[aE (aL c)]at k
    have Fl:ku (Str.ofString "-") [45]:=by unfold ku;rw[TL.zX];rfl
    have Tn:=Fl.append hx
    refine(a_ rfl (h9 rfl rfl ⟨?_,a_ rfl ⟨_,a_ rfl ⟨Tn,by rw[aj,aA];omega,k⟩⟩⟩))
    rw[Fl.len,hx.len,aA];exact aI (iV (by omega))
   ·rw[aq (λe=>c (ah e))]at k
    exact(a_ rfl ⟨_,a_ rfl ⟨hx,by omega,k⟩⟩)
noncomputable def ZS(a:hC):Sp:=λvs H R _=>∃n t pe dx ln lf v0 v3 v4 q fs,vs=[.ref n,.ref pe]/\jC H n t/\t.length<=500/\H pe=some (.ins a.ou dx [("is_base",v0),("number",.ref ln),("factors",.ref lf),("ratio",v3),("powers",v4)])/\iN a H ln q/\q.num.natAbs<10^130/\q.den<10^130/\j9 H lf fs/\fs.length<=50/\(∀f∈fs,nP f)/\oo H R (t++61::Vaunia.shownQuantity q fs)
theorem XS(T:Txt K mg a):Callee P w K mg base 5 "shown_unit" ["name","entry"] (ZS a):=by
 refine T.PX.ok aa1 (λvs H Q E h=>?_) (λf h8 A outer s H vs Q E hr h=>?_)
 ·obtain⟨_,_,_,_,_,_,_,_,_,_,_,rfl,_⟩:=h
  rfl
 ·obtain⟨n,t,pe,dx,ln,lf,v0,v3,v4,q,fs,rfl,hn,sQ,Fz,hq,kR,FE,hf,jT,nY,k⟩:=h
  refine⟨_,g9 (hJ (iH kS (iH kS (l7 vT (by rfl) T.tT (by decide +kernel) (b_ (pv 0) d_)) (iL (b_ (iD T.Rj) d_))) (hU (Hu T) hr (b_ (hG (pv 1) rfl) (b_ (hG (pv 1) rfl) d_))))),?_⟩
  dsimp only[il]
  have l1:=tz kR
  have l2:=t7 (by decide) FE
  have l3:(Vaunia.shownFactors fs).length<=10000:=by
   have:=wX fs fs.length nY (ax _)
   rw[aP]at this
   unfold pF at this
   unfold Vaunia.shownFactors
   split
   ·decide
   ·omega
  have l4:(Vaunia.shownQ q).length<=300:=by
   unfold Vaunia.shownQ
   split
   ·omega
   ·rw[aj,ai];omega
  have l5:(Vaunia.shownQuantity q fs).length<=10500:=by
   unfold Vaunia.shownQuantity
   split
   ·omega
   ·rw[aj,ai];omega
  refine(a_ rfl ⟨n,a_ rfl ⟨.inr (iO.of hn),λl jd=>?_⟩⟩)
  have s1:=c_.new (o:=.lst (bv t)) jd
  refine⟨by show 1<=sizeLine;decide,λo ho=>?_⟩
  have s2:=c_.new (o:=.lst [V.int 61]) ho
  refine qS (t:=[61]) (s2 _ _ e_) e_ (by rw[aA];omega) λm H3 s3 h3=>?_
  have rT:=(s1.trans s2).trans s3
  refine(a_ rfl (hX rfl (rT _ _ Fz) T.lO.cl T.GK rfl (a_ rfl (hX rfl (rT _ _ Fz) T.lO.cl T.Ci rfl ⟨ln,lf,q,fs,rfl,hq.same rT,kR,FE,hf.same rT,jT,nY,λn4 H4 s4 h4=>?_⟩))))
  refine qS (s4 _ _ h3) h4 (by rw[aj,aA];omega) ?_
  rw[bR]
  exact k.same (rT.trans s4)
end
noncomputable def mK(q:Q):Prop:=q.num.natAbs<=10^1000/\q.den<=10^1000
theorem CJ{k n m:Nat}(h:k<=10^n)(hm:4*n+1<=m):intBits (k:Int)<=m:=by
 refine dt.mpr ?_
 show k<2^m
 have h1:(10:Nat)^n<=16^n:=dF (by decide) n
 have h2:(16:Nat)^n=2^(4*n):=by rw[show(16:Nat)=2^4 from rfl,<-gC]
 have h3:(2:Nat)^(4*n)<2^m:=e9 (by decide) (by omega)
 omega
theorem HE{z:Int}{n m:Nat}(h:z.natAbs<=10^n)(hm:4*n+1<=m):intBits z<=m:=by
 refine dt.mpr ?_
 have:=dt.mp (CJ h hm)
 simpa using this
theorem CK{k n m:Nat}(h:k<=10^n)(hm:4*n<m):k.log2<m:=by
 rcases cn k with z | z
 ·subst z;show Nat.log2 0<m;have:Nat.log2 0=0:=by decide
  omega
 ·refine(gI (cp z)).mpr ?_
  have h1:(10:Nat)^n<=16^n:=dF (by decide) n
  have h2:(16:Nat)^n=2^(4*n):=by rw[show(16:Nat)=2^4 from rfl,<-gC]
  have h3:(2:Nat)^(4*n)<2^m:=e9 (by decide) (by omega)
  omega
theorem zk{x y m k:Nat}(hx:x<=10^m)(hy:y<=10^k):x*y<=10^(m+k):=by rw[gD];exact cW hx hy
theorem rB{x y:Int}(hx:x.natAbs<=10^1000)(hy:y.natAbs<=10^1000):IntMulOk x y:=dP (HE hx (m:=4001) (by decide)) (HE hy (m:=4001) (by decide)) (by decide)
theorem nA{q:Q}(h:Vaunia.near q=true):mK q:=by
 have:=k9.mp h
 have e:(10:Nat)^40<=10^1000:=a0 (by decide) (by decide)
 exact⟨by omega,by omega⟩
section
variable{P:Program}{w:World}{K:Fg}{mg:Str->Option Value}{base:Heap}{a:hC}
noncomputable def ZI(a:hC):Sp:=λvs H R _=>∃p q x y,vs=[.ref p,.ref q]/\iN a H p x/\iN a H q y/\mK x/\mK y/\0<x.den/\0<y.num/\∀p U,c_ H U->iN a U p (Q.of (x.num*y.den) (x.den*y.num.natAbs))->R (.ref p) U
theorem xm(T:Txt K mg a):Callee P w K mg base 4 "quotient" ["a","b"] (ZI a):=by
 refine T.PD.ok aa0 (λvs H Q E h=>?_) (λf h8 A outer s H vs Q E hr h=>?_)
 ·obtain⟨_,_,_,_,rfl,_⟩:=h
  rfl
 ·obtain⟨p,q,x,y,rfl,⟨dx,hp⟩,⟨dy,hq⟩,mx,my,hx,hy,k⟩:=h
  refine⟨_,g9 (hJ (hU (Hl T) hr (b_ (iH mw (hG (pv 0) rfl) (hG (pv 1) rfl)) (b_ (iH mw (hG (pv 0) rfl) (hG (pv 1) rfl)) d_)))),?_⟩
  dsimp only[il]
  refine(a_ rfl (hX rfl hp T.iQ.cl T.jN rfl (a_ rfl (hX rfl hq T.iQ.cl T.jM rfl (h9 rfl rfl ⟨rB mx.1 my.2,?_⟩)))))
  refine(a_ rfl (hX rfl hp T.iQ.cl T.jM rfl (a_ rfl (hX rfl hq T.iQ.cl T.jN rfl (h9 rfl rfl ⟨rB mx.2 my.1,?_⟩)))))
  refine⟨x.num*y.den,x.den*y.num.natAbs,?_,bL hx (by omega),CK (zk mx.2 my.1) (by decide),k⟩
  have e:(y.num.natAbs:Int)=y.num:=by omega
  rw[aW,e];rfl
noncomputable def Y1(a:hC):Sp:=λvs H R _=>∃p q x y,vs=[.ref p,.ref q]/\iN a H p x/\iN a H q y/\mK x/\mK y/\0<x.den/\0<y.den/\∀p U,c_ H U->iN a U p (Q.of (x.num*y.den-y.num*x.den) (x.den*y.den))->R (.ref p) U
theorem Xf(T:Txt K mg a):Callee P w K mg base 4 "difference" ["a","b"] (Y1 a):=by
 refine T.OH.ok aaH (λvs H Q E h=>?_) (λf h8 A outer s H vs Q E hr h=>?_)
 ·obtain⟨_,_,_,_,rfl,_⟩:=h
  rfl
 ·obtain⟨p,q,x,y,rfl,⟨dx,hp⟩,⟨dy,hq⟩,mx,my,hx,hy,k⟩:=h
  refine⟨_,g9 (hJ (hU (Hl T) hr (b_ (iH xu (iH mw (hG (pv 0) rfl) (hG (pv 1) rfl)) (iH mw (hG (pv 1) rfl) (hG (pv 0) rfl))) (b_ (iH mw (hG (pv 0) rfl) (hG (pv 1) rfl)) d_)))),?_⟩
  dsimp only[il]
  refine(a_ rfl (hX rfl hp T.iQ.cl T.jN rfl (a_ rfl (hX rfl hq T.iQ.cl T.jM rfl (h9 rfl rfl ⟨rB mx.1 my.2,?_⟩)))))
  refine(a_ rfl (hX rfl hq T.iQ.cl T.jN rfl (a_ rfl (hX rfl hp T.iQ.cl T.jM rfl (h9 rfl rfl ⟨rB my.1 mx.2,h9 rfl rfl ?_⟩)))))
  refine(a_ rfl (hX rfl hp T.iQ.cl T.jM rfl (a_ rfl (hX rfl hq T.iQ.cl T.jM rfl (h9 rfl rfl ⟨rB mx.2 my.2,?_⟩)))))
  exact⟨x.num*y.den-y.num*x.den,x.den*y.den,by rw[aW];rfl,bL hx hy,CK (zk mx.2 my.2) (by decide),k⟩
noncomputable def Zd(a:hC):Sp:=λvs H R _=>∃p q x y,vs=[.ref p,.ref q]/\iN a H p x/\iN a H q y/\mK x/\mK y/\R (.bl (Q.lt x y)) H
theorem Hh(T:Txt K mg a):Callee P w K mg base 1 "is_below" ["a","b"] (Zd a):=by
 refine T.OX.ok aaN (λvs H Q E h=>?_) (λf h8 A outer s H vs Q E hr h=>?_)
 ·obtain⟨_,_,_,_,rfl,_⟩:=h
  rfl
 ·obtain⟨p,q,x,y,rfl,⟨dx,hp⟩,⟨dy,hq⟩,mx,my,k⟩:=h
  refine⟨_,g9 (hJ (kF kN (iH mw (hG (pv 0) rfl) (hG (pv 1) rfl)) (iH mw (hG (pv 1) rfl) (hG (pv 0) rfl)) (ig _))),?_⟩
  dsimp only[il]
  refine(a_ rfl (hX rfl hp T.iQ.cl T.jN rfl (a_ rfl (hX rfl hq T.iQ.cl T.jM rfl (h9 rfl rfl ⟨rB mx.1 my.2,?_⟩)))))
  exact(a_ rfl (hX rfl hq T.iQ.cl T.jN rfl (a_ rfl (hX rfl hp T.iQ.cl T.jM rfl (h9 rfl rfl ⟨rB my.1 mx.2,h9 rfl rfl k⟩)))))
noncomputable def YI(a:hC):Sp:=λvs H R _=>∃p q x y,vs=[.ref p,.ref q]/\iN a H p x/\iN a H q y/\R (.bl (decide (x=y))) H
theorem WZ(T:Txt K mg a):Callee P w K mg base 1 "are_same" ["a","b"] (YI a):=by
 refine T.Oj.ok aaF (λvs H Q E h=>?_) (λf h8 A outer s H vs Q E hr h=>?_)
 ·obtain⟨_,_,_,_,rfl,_⟩:=h
  rfl
 ·obtain⟨p,q,x,y,rfl,⟨dx,hp⟩,⟨dy,hq⟩,k⟩:=h
  refine⟨_,g9 (hJ (tq (kF je (hG (pv 0) rfl) (hG (pv 1) rfl) (ig _)) (pO (kF je (hG (pv 0) rfl) (hG (pv 1) rfl) (ig _))))),?_⟩
  dsimp only[il]
  refine(a_ rfl (hX rfl hp T.iQ.cl T.jN rfl (a_ rfl (hX rfl hq T.iQ.cl T.jN rfl ⟨rfl,a_ rfl ?_⟩))))
  obtain⟨xn,xd⟩:=x
  obtain⟨yn,yd⟩:=y
  refine iU (λc=>?_) (λc=>?_)
  ·have c:xn=yn:=V.int.inj (aL c)
   refine(a_ rfl (hX rfl hp T.iQ.cl T.jM rfl (a_ rfl (hX rfl hq T.iQ.cl T.jM rfl ⟨rfl,?_⟩))))
   have e:decide (V.int ((xd:Nat):Int)=V.int ((yd:Nat):Int))=decide ((⟨xn,xd⟩:Vaunia.Q)=⟨yn,yd⟩):=by
    rw[aH,ak,ak,Vaunia.Q.mk.injEq,V.int.injEq]
    omega
   rw[<-e]at k;exact k
  ·have e:decide ((⟨xn,xd⟩:Vaunia.Q)=⟨yn,yd⟩)=false:=by
    refine az λh=>c (ah ?_)
    rw[Vaunia.Q.mk.injEq]at h
    show V.int xn=V.int yn
    rw[h.1]
   rw[e]at k;exact k
noncomputable def Md(a:hC):Sp:=λvs H R _=>∃(p:Addr) (q:Q) (k:Int),vs=[.ref p,.int k]/\iN a H p q/\0<q.num/\q.num.natAbs<10^40/\q.den<10^40/\k.natAbs<=99/\∀p U,c_ H U->iN a U p ⟨(above q k:Nat),below q k⟩->R (.ref p) U
theorem Hv(T:Txt K mg a):Callee P w K mg base 3 "to_power" ["fraction","power"] (Md a):=by
 refine T.P4.ok LN (λvs H Q E h=>?_) (λf h8 A outer s H vs Q E hr h=>?_)
 ·obtain⟨_,_,_,rfl,_⟩:=h
  rfl
 ·obtain⟨p,q,z,rfl,⟨dx,hp⟩,h0,rn,rd,hz,k⟩:=h
  have nd:=LN.nd
  refine⟨_,gZ (ic (i:=2) nd rfl (Or.inl rfl) (hU (tf T) (hr.mono (by decide)) (b_ (hG (pv 0) rfl) (b_ (i7 sy (by rfl) T.sk (by decide +kernel) (b_ (pv 1) d_)) d_))))
   (gZ (ic (i:=3) nd rfl (Or.inl rfl) (hU (tf T) (hr.mono (by decide)) (b_ (hG (pv 0) rfl) (b_ (i7 sy (by rfl) T.sk (by decide +kernel) (b_ (pv 1) d_)) d_))))
   (g9 (hJ (mB (iq pN (pv 1) ij (ig _)) (jk (pJ T) hr (b_ (pv 2) (b_ (pv 3) d_))) (jk (pJ T) hr (b_ (pv 3) (b_ (pv 2) d_))))))),?_⟩
  dsimp only[il]
  have b1:intBits q.num<=140:=aN (dt.mpr (fG rn (show 10^40<2^133 by decide))) (by decide)
  have b2:intBits ((q.den:Nat):Int)<=140:=aN (show intBits ((q.den:Nat):Int)<=133 from dt.mpr (by rw[bS];exact fG rd (by decide))) (by decide)
  refine(a_ rfl (hX rfl hp T.iQ.cl T.jN rfl (a_ rfl (a_ rfl ⟨q.num,z.natAbs,by rw[tS];rfl,b1,by omega,?_⟩))))
  refine(a_ rfl (hX rfl hp T.iQ.cl T.jM rfl (a_ rfl (a_ rfl ⟨(q.den:Int),z.natAbs,by rw[tS];rfl,b2,by omega,?_⟩))))
  have en:q.num^z.natAbs=((q.num.natAbs^z.natAbs:Nat):Int):=by
   rw[bH]
   congr 1
   omega
  have ed:((q.den:Int))^z.natAbs=((q.den^z.natAbs:Nat):Int):=by rw[bH]
  rw[en,ed]
  refine(a_ rfl (h9 rfl rfl (a_ rfl (iU (λc=>?_) (λc=>?_)))))
  ·have c:0<=z:=by simpa using c
   have e1:above q z=q.num.natAbs^z.natAbs:=by
    unfold above
    split
    ·rfl
    ·have:z.natAbs=0:=by omega
     rw[this];rfl
   have e2:below q z=q.den^z.natAbs:=by
    unfold below
    split
    ·rfl
    ·have:z.natAbs=0:=by omega
     rw[this];rfl
   rw[e1,e2]at k
   exact(a_ rfl (a_ rfl ⟨rfl,λx dy hx iY iJ=>k x _ (c_.jc hx iY) ⟨dy,e_⟩⟩))
  ·have c:¬0<=z:=by simpa using c
   have e1:above q z=q.den^z.natAbs:=by unfold above;rw[aq (by omega)]
   have e2:below q z=q.num.natAbs^z.natAbs:=by unfold below;rw[aq (by omega)]
   rw[e1,e2]at k
   exact(a_ rfl (a_ rfl ⟨rfl,λx dy hx iY iJ=>k x _ (c_.jc hx iY) ⟨dy,e_⟩⟩))
noncomputable def prod(ns:List Nat):Nat:=ns.foldr (· * ·) 1
theorem prod_append(xs ys:List Nat):prod (xs++ys)=prod xs*prod ys:=by
 induction xs with
 | nil=>unfold prod;simp
 | cons x r ih=>show x*prod (r++ys)=x*prod r*prod ys;rw[ih,Nat.mul_assoc]
theorem Yx{ns:List Nat}(h:∀n∈ns,0<n):0<prod ns:=by
 induction ns with
 | nil=>exact Nat.one_pos
 | cons x r ih=>exact bL (h x aD) (ih λn hn=>h n (aw _ hn))
theorem Gh{ns:List Nat}(h:∀n∈ns,0<n):∀n∈ns,n<=prod ns:=by
 induction ns with
 | nil=>intro n hn;cases hn
 | cons x r ih=>
  intro n hn
  have hr:=Yx λn hn=>h n (aw _ hn)
  have hx:=h x aD
  show n<=x*prod r
  rcases aM.mp hn with e | hn
  ·rw[e];exact fA _ hr
  ·exact aN (ih (λn hn=>h n (aw _ hn)) n hn) (Nat.le_mul_of_pos_left _ hx)
noncomputable def tj(l:List Nat)(i:Nat):Nat:=l.getD (2*i) 1*l.getD (2*i+1) 1
theorem Qq{l:List Nat}{i:Nat}(h:2*i+2<=l.length):l.drop (2*i)=l.getD (2*i) 1::l.getD (2*i+1) 1::l.drop (2*(i+1)):=by
 have e1:l.getD (2*i) 1=l[2*i]:=by rw[bE,ay (show 2*i<l.length by omega)];rfl
 have e2:l.getD (2*i+1) 1=l[2*i+1]:=by rw[bE,ay (show 2*i+1<l.length by omega)];rfl
 rw[e1,e2,cI (show 2*i<l.length by omega),cI (show 2*i+1<l.length by omega)]
 rfl
theorem Ig(l:List Nat):∀k,2*k<=l.length->prod ((List.range k).map (tj l)++l.drop (2*k))=prod l
 | 0,_=>by simp
 | k+1,h=>by
  have ih:=Ig l k (by omega)
  rw[Qq (by omega),prod_append]at ih
  rw[List.range_succ,au,prod_append,prod_append,<-ih]
  show prod _*(tj l k*1)*prod _=prod _*(l.getD (2*k) 1*(l.getD (2*k+1) 1*prod _))
  unfold tj
  rw[gB,Nat.mul_assoc,Nat.mul_assoc]
noncomputable def iv(ns:List Nat):List V:=ns.map λn=>V.int (n:Nat)
theorem F8{l:List Nat}{i:Nat}(h:i<l.length):(iv l)[i]? =some (.int (l.getD i 1:Nat)):=by
 unfold iv
 rw[bN,ay h,bE,ay h];rfl
theorem N9{xs:List V}{j:Nat}(h:j<=xs.length):i5 xs (some (j:Int)) none=xs.drop j:=by
 unfold i5
 rw[HT.u0,HT.tw,cT h,cu (by rw[aR];omega)]
noncomputable def ZG:Sp:=λvs H R _=>∃l ns,vs=[.ref l]/\H l=some (.lst (iv ns))/\ns.length<=50/\(∀n∈ns,0<n)/\prod ns<=10^80000/\∀U,c_ H U->R (.int (prod ns:Nat)) U
theorem Hr(T:Txt K mg a):Callee P w K mg base 1 "product_of" ["numbers"] (ZG):=by
 refine T.Py.ok Lv (λvs H Q E h=>?_) (λf h8 A outer s H vs Q E hr h=>?_)
 ·obtain⟨_,_,rfl,_⟩:=h
  rfl
 ·obtain⟨l,ns,rfl,hl,hz,ls,hle,k⟩:=h
  have nd:=Lv.nd
  refine⟨_,gZ (ic (i:=1) nd rfl (Or.inr rfl) (iH kS (iL (b_ ij d_)) (pv 0)))
   (gZ (uY aX (iq ly (i7 ka (by rfl) T.jO aV (b_ (pv 1) d_)) ij (ig _))
    (gZ (ic (i:=2) nd rfl (Or.inl rfl) (iH CH (i7 ka (by rfl) T.jO aV (b_ (pv 1) d_)) ij))
    (g9 (ic (i:=1) nd rfl (Or.inr rfl) (iH kS (lA (own:=[("i",3)]) (te:=mH (rI IntMulOk λi j=>.int (i*j)) (mH (C5 K) (jb 1) (mH (rI tJ λi j=>.int (i*j)) (tC (.int 2)) (jb 3))) (mH (C5 K) (jb 1) (mH (qG λi j=>.int (i+j)) (mH (rI tJ λi j=>.int (i*j)) (tC (.int 2)) (jb 3)) (tC (.int 1))))) rfl nd (CU rfl T.x_ (b_ (pv 2) d_)) (j_ rfl) (λ_ _ _ _ _=>iT (i:=3) nd rfl (Or.inl rfl)) (λ_ _ _ _ _=>kT)
     (λ_ _ _ _ _=>iH mw (mW pE (pv 1) (iH rO ij (pv 3)) (λ_ _=>rfl)) (mW pE (pv 1) (iH mV (iH rO ij (pv 3)) ij) (λ_ _=>rfl))))
     (lQ mF (pv 1) (k_ (iH rO ij (pv 2))) mC))))))
   (g9 (hJ (mW pE (pv 1) ij (λ_ _=>rfl))))),?_⟩
  dsimp only[il]
  refine⟨by show 1<=sizeLine;decide,λo ho=>?_⟩
  have s0:=c_.new (o:=.lst [V.int 1]) ho
  refine(a_ rfl ⟨o,l,h9 rfl rfl ⟨e_,s0 _ _ hl,?_,λp hp=>?_⟩⟩)
  ·show 1+(iv ns).length<=sizeLine
   unfold iv
   rw[ab]
   exact aI (iV (by omega))
  refine⟨λm σ U=>∃(q:Addr) (ms:List Nat) (r2 r3:Option V),σ=[some (.ref l),some (.ref q),r2,r3]/\c_ H U/\U q=some (.lst (iv ms))/\m=ms.length/\0<ms.length/\ms.length<=51/\(∀n∈ms,0<n)/\prod ms=prod ns,
   ⟨_,p,1::ns,none,none,rfl,s0.trans (c_.new hp),by rw[e_];rfl,rfl,by simp,by rw[ai];omega,λn hn=>?_,by show 1*prod ns=_;rw[Nat.one_mul]⟩,?_⟩
  ·rcases aM.mp hn with e | hn
   ·rw[e];decide
   ·exact ls n hn
  rintro m σ H1 ⟨q,ms,r2,r3,rfl,s1,hq,rfl,h0,h51,kf,ua⟩
  have B7:(iv ms).length=ms.length:=by unfold iv;rw[ab]
  refine(a_ rfl ⟨q,a_ rfl ⟨.inl (f_.of hq),h9 rfl rfl (a_ rfl ?_)⟩⟩)
  rw[B7]
  refine iU (λc=>?_) (λc=>?_)
  ·have c:1<ms.length:=by have:=aL c;omega
   refine⟨_,λik U n=>n,?_⟩
   refine(a_ rfl ⟨q,a_ rfl ⟨.inl (f_.of hq),h9 rfl rfl ⟨⟨by decide,by decide⟩,?_⟩⟩⟩)
   dsimp only[jL]
   rw[B7,show((ms.length:Nat):Int)/2=((ms.length/2:Nat):Int) by omega]
   generalize hk:ms.length/2=kk
   refine(a_ rfl ⟨(kk:Int),rfl,by omega,by omega,λD hD=>Vu (lo:=0) (n:=(kk:Int).toNat) (λi U=>kY H1 D (iv ((List.range i).map (tj ms))) U) (lZ hD) (λi U hi p=>?_) (λU p=>?_)⟩)
   ·have hi:i<kk:=by omega
    have Ed:(2:Int)*(0+(i:Int))=((2*i:Nat):Int):=by omega
    have kg:=p.1 _ _ hq
    have yC:=Gh kf (ms.getD (2*i) 1) (by rw[bE,ay (show 2*i<ms.length by omega)];exact fY _)
    have yD:=Gh kf (ms.getD (2*i+1) 1) (by rw[bE,ay (show 2*i+1<ms.length by omega)];exact fY _)
    rw[ua]at yC yD
    refine⟨rfl,_,rfl,_,rfl,_,_,rfl,rfl,.inl ⟨by decide,by decide⟩,q,_,_,_,rfl,rfl,f_.of kg,at_of (j:=2*i) Ed (F8 (by omega)),?_⟩
    refine⟨_,rfl,_,rfl,_,_,rfl,rfl,.inl ⟨by decide,by decide⟩,_,_,rfl,rfl,q,_,_,_,rfl,rfl,f_.of kg,at_of (j:=2*i+1) (by rw[Ed];rfl) (F8 (by omega)),?_⟩
    refine(h9 rfl rfl ⟨dP (CJ (aN yC hle) (m:=320001) (by decide)) (CJ (aN yD hle) (m:=320001) (by decide)) (by decide),?_⟩)
    refine lY hD p (c_.refl _) (by unfold iv;rw[ab,ab,gJ];exact iV (by omega)) ?_
    rw[List.range_succ,au]
    unfold iv
    rw[au]
    congr 1
   ·have eD:(kk:Int).toNat=kk:=by omega
    rw[eD]at p
    have kg:=p.1 _ _ hq
    refine(a_ rfl (a_ rfl (h9 rfl rfl ⟨.inl ⟨by decide,by decide⟩,a_ rfl ⟨q,a_ rfl ⟨f_.of kg,λx hx=>?_⟩⟩⟩)))
    have Qz:(2:Int)*(kk:Int)=((2*kk:Nat):Int):=by omega
    have ec:i5 (iv ms) (some ((2:Int)*(kk:Int))) none=iv (ms.drop (2*kk)):=by
     rw[Qz,N9 (by rw[B7];omega)]
     unfold iv
     rw[d5]
    rw[ec]
    have sx:=c_.new (o:=.lst (iv (ms.drop (2*kk)))) hx
    have Ca:((List.range kk).map (tj ms)++ms.drop (2*kk)).length=kk+(ms.length-2*kk):=by rw[aj,ab,gJ,aR]
    refine(⟨D,x,h9 rfl rfl ⟨sx _ _ p.2,e_,?_,λy hy=>?_⟩⟩)
    ·unfold iv
     rw[ab,ab,ab,gJ,aR]
     exact aI (iV (by omega))
    ·refine(⟨((List.range kk).map (tj ms)++ms.drop (2*kk)).length,by rw[Ca];omega,y,(List.range kk).map (tj ms)++ms.drop (2*kk),_,a_ rfl ⟨((s1.trans p.1).trans sx).trans (c_.new hy),?_,rfl,by rw[Ca];omega,by rw[Ca];omega,λn hn=>?_,?_⟩⟩)
     ·rw[e_];unfold iv;rw[au]
     ·rcases bg.mp hn with hn | hn
      ·obtain⟨i,hi,rfl⟩:=aQ.mp hn
       have hi:=List.mem_range.mp hi
       refine bL (kf _ ?_) (kf _ ?_)
       ·rw[bE,ay (show 2*i<ms.length by omega)];exact fY _
       ·rw[bE,ay (show 2*i+1<ms.length by omega)];exact fY _
      ·exact kf n (fb hn)
     ·rw[Ig ms kk (by omega),ua]
  ·have c:ms.length=1:=by
    have:¬(1:Int)<(ms.length:Nat):=by simpa using c
    omega
   obtain⟨n,rfl⟩:∃n,ms=[n]:=by
    match ms,c with
    | [n],_=>exact⟨n,rfl⟩
   have ua:n*1=prod ns:=ua
   rw[gB]at ua
   refine⟨_,rfl,q,_,_,_,rfl,rfl,f_.of hq,at_of (j:=0) rfl rfl,?_⟩
   rw[ua]
   exact k _ s1
end
noncomputable def nk(t:List UInt8):List Key:=t.map λc=>Sum.inl (bz c)
theorem kd(t:List UInt8):(nk t).map kV=bv t:=by unfold nk bv;rw[bu];rfl
theorem xi{s t:List UInt8}(h:nk s=nk t):s=t:=by
 have e:=cB (List.map kV) h
 rw[kd,kd,qP,qP]at e
 have:(s.map bz)=(t.map bz):=by
  have inj:∀{x y:List Int},x.map V.int=y.map V.int->x=y:=by
   intro x
   induction x with
   | nil=>intro y h;cases y with | nil=>rfl | cons _ _=>simp at h
   | cons c r ih=>intro y h;cases y with
    | nil=>simp at h
    | cons d u=>simp only[aO,fk,V.int.injEq]at h;rw[h.1,ih h.2]
  exact inj e
 exact AB this
noncomputable def lG(a:hC)(d:Addr)(H:Hp)(p:Addr)(e:Vaunia.Entry)(w:FW):Prop:=
 ∃
  dx nv lf lr pd pk,H p=some (.ins a.ou dx [("is_base",.bl e.isBase),("number",nv),("factors",.ref lf),("ratio",.ref lr),("powers",.ref pd)])/\
  (e.isBase=false->∃ln,nv= .ref ln/\iN a H ln e.number)/\j9 H lf e.factors/\iN a H lr w.1/\pd≠d/\H pd=some (.dT pk)/\∀n,(jD pk (nk n)).getD (.int 0)= .int (w.2 n)
theorem iN.kp{a:hC}{d p:Addr}{H U:Hp}{q:Q}{kvs:List (List Key×V)}(h:iN a H p q)(hd:H d=some (.dT kvs))(k:Kp d H U):iN a U p q:=by
 obtain⟨dx,h⟩:=h
 exact⟨dx,k _ _ (iC h hd (by intro z;cases z)) h⟩
theorem j9.kp{d l:Addr}{H U:Hp}{fs:List Vaunia.Factor}{kvs:List (List Key×V)}(h:j9 H l fs)(hd:H d=some (.dT kvs))(k:Kp d H U):j9 U l fs:=by
 obtain⟨ps,h1,h2⟩:=h
 refine⟨ps,k _ _ (iC h1 hd (by intro z;cases z)) h1,h2.mono λx y ⟨n,r1,r2⟩=>⟨n,k _ _ (iC r1 hd (by intro z;cases z)) r1,k _ _ (iC r2 hd (by intro z;cases z)) r2⟩⟩
theorem lG.kp{a:hC}{d p:Addr}{H U:Hp}{e:Vaunia.Entry}{w:FW}{kvs:List (List Key×V)}(h:lG a d H p e w)(hd:H d=some (.dT kvs))(k:Kp d H U):lG a d U p e w:=by
 obtain⟨dx,nv,lf,lr,pd,pk,h1,h2,h3,h4,h5,h6,h7⟩:=h
 refine⟨dx,nv,lf,lr,pd,pk,k _ _ (iC h1 hd (by intro z;cases z)) h1,λhb=>?_,h3.kp hd k,h4.kp hd k,h5,k _ _ h5 h6,h7⟩
 obtain⟨ln,e1,e2⟩:=h2 hb
 exact⟨ln,e1,e2.kp hd k⟩
theorem lG.same{a:hC}{d p:Addr}{H U:Hp}{e:Vaunia.Entry}{w:FW}(h:lG a d H p e w)(s:c_ H U):lG a d U p e w:=by
 obtain⟨dx,nv,lf,lr,pd,pk,h1,h2,h3,h4,h5,h6,h7⟩:=h
 refine⟨dx,nv,lf,lr,pd,pk,s _ _ h1,λhb=>?_,h3.same s,h4.same s,h5,s _ _ h6,h7⟩
 obtain⟨ln,e1,e2⟩:=h2 hb
 exact⟨ln,e1,e2.same s⟩
noncomputable def ents(b:Vaunia.Book):List (Vaunia.Entry×FW):=b.zip ((iE b).map (·.2))
theorem QS{b:Vaunia.Book}(h:WF b):(ents b).length=b.length:=by
 unfold ents
 rw[dD,ab,<-ab (·.1) (as:=iE b),h.names,ab,Nat.min_self]
theorem QR{b:Vaunia.Book}(h:WF b):(ents b).map (·.1)=b:=by
 unfold ents
 rw[List.map_fst_zip]
 have:=cB List.length h.names
 rw[ab,ab]at this
 rw[ab];omega
theorem t_{b:Vaunia.Book}(h:WF b){i:Nat}{x:Vaunia.Entry×FW}(hx:(ents b)[i]? =some x):b[i]? =some x.1/\(iE b)[i]? =some (x.1.name,x.2):=by
 unfold ents at hx
 rw[cH]at hx
 obtain⟨h1,h2⟩:=hx
 obtain⟨p,hp,e⟩:=i8 h2
 refine⟨h1,?_⟩
 have h3:((iE b).map (·.1))[i]? =some p.1:=by rw[bN,hp];rfl
 rw[h.names,bN,h1]at h3
 have e3:x.1.name=p.1:=ae h3
 rw[hp,e3,e]
noncomputable def si(w:FW):Prop:=Pos w.1/\Vaunia.near w.1=true/\∀n,(w.2 n).natAbs<=99
structure lg(b:Vaunia.Book):Prop where
 wf:WF b
 mO:b.length<=40
 nm:∀e∈b,Vaunia.isName e.name=true
 ws:∀p∈iE b,si p.2
 fs:∀e∈b,e.factors.length<=20/\∀f∈e.factors,rZ f
 num:∀e∈b,e.isBase=false->Pos e.number/\Vaunia.near e.number=true
 bs:∀e∈b,e.isBase=true->e.factors=[]
structure iB(a:hC)(H:Hp)(bk d:Addr)(b:Vaunia.Book)(kvs:List (List Key×V)):Prop where
 ok:lg b
 obj:∃dx,H bk=some (.ins a.k5 dx [("entries",.ref d)])
 lI:Rd H d (.dT kvs)
 all:Zip (λ(kv:List Key×V) (x:Vaunia.Entry×FW)=>kv.1=nk x.1.name/\∃p,kv.2= .ref p/\lG a d H p x.1 x.2) kvs (ents b)
theorem c_.rd{H U:Hp}{d:Addr}{u:HO}(s:c_ H U)(h:Rd H d u):Rd U d u:=by
 rcases h with h | ⟨o,h⟩
 ·exact .inl (s _ _ h)
 ·exact .inr ⟨o,s _ _ h⟩
theorem j8.tr{H:Hp}{a b:Addr}{kvs:List (List Key×V)}{k:List Key}(e:Rd H a (.dT kvs))(eb:H b=some (.tup (k.map kV))):j8 H a (.ref b) (jD kvs k):=.inr ⟨kvs,k,b,e,rfl,eb,rfl⟩
theorem iB.same{a:hC}{H U:Hp}{bk d:Addr}{b:Vaunia.Book}{kvs:List (List Key×V)}(h:iB a H bk d b kvs)(s:c_ H U):iB a U bk d b kvs:=by
 obtain⟨dx,ho⟩:=h.obj
 exact⟨h.ok,⟨dx,s _ _ ho⟩,c_.rd s h.lI,h.all.mono λx y ⟨e,p,e2,r⟩=>⟨e,p,e2,r.same s⟩⟩
theorem iB.len{a:hC}{H:Hp}{bk d:Addr}{b:Vaunia.Book}{kvs:List (List Key×V)}(h:iB a H bk d b kvs):kvs.length=b.length:=by
 rw[h.all.1,QS h.ok.wf]
theorem iB.zw{a:hC}{H:Hp}{bk d:Addr}{b:Vaunia.Book}{kvs:List (List Key×V)}(h:iB a H bk d b kvs):bk≠d:=by
 obtain⟨dx,ho⟩:=h.obj
 rcases h.lI with hd | ⟨o,hd⟩
 ·exact iC ho hd (by intro z;cases z)
 ·exact iC ho hd (by intro z;cases z)
theorem iB.lock{a:hC}{H:Hp}{bk d:Addr}{b:Vaunia.Book}{kvs:List (List Key×V)}{od:Obj}(h:iB a H bk d b kvs)(hd:H d=some (.dT kvs)):iB a (upd H d (.iF od (.dT kvs))) bk d b kvs:=by
 have k:Kp d H (upd H d (.iF od (.dT kvs))):=Kp.upd
 obtain⟨dx,ho⟩:=h.obj
 exact⟨h.ok,⟨dx,k _ _ h.zw ho⟩,.inr ⟨od,e_⟩,h.all.mono λx y ⟨e,p,e2,r⟩=>⟨e,p,e2,r.kp hd k⟩⟩
noncomputable def MD(K:Fg)(t:TE):TT:=λσ H Q=>t σ H λx U=>∃k,Ao K x U k/\Q k U
noncomputable def p0(H:Hp)(l:Addr)(ns:List (List UInt8)):Prop:=∃ps:List Addr,H l=some (.lst (ps.map V.ref))/\Zip (jC H) ps ns
theorem p0.same{H U:Hp}{l:Addr}{ns:List (List UInt8)}(h:p0 H l ns)(s:c_ H U):p0 U l ns:=by
 obtain⟨ps,h1,h2⟩:=h
 exact⟨ps,s _ _ h1,h2.mono λx y r=>s _ _ r⟩
section
variable{P:Program}{w:World}{K:Fg}{mg:Str->Option Value}{base:Heap}{a:hC}
noncomputable def YJ(a:hC):Sp:=λvs H R _=>∃bk d b kvs,vs=[.ref bk]/\iB a H bk d b kvs/\∀l U,c_ H U->p0 U l (Vaunia.bases b)->R (.ref l) U
theorem zy(T:Txt K mg a):Callee P w K mg base 1 "bases_of" ["book"] (YJ a):=by
 refine T.Ol.ok KJ (λvs H Q E h=>?_) (λf h8 A outer s H vs Q E hr h=>?_)
 ·obtain⟨_,_,_,_,rfl,_⟩:=h
  rfl
 ·obtain⟨bk,d,b,kvs,rfl,B,k⟩:=h
  have nd:=KJ.nd
  rcases B.lI with hd | ⟨od,hd⟩
  ·refine⟨_,g9 (hJ (CQ (lA (own:=[("name",1),("entry",2)]) (g:=q5 K 2 (mf (jL 1) (mf (jL 2) qZ))) (tt:=MD K (lE K (jb 2) "is_base")) rfl nd (HR (hG (pv 0) rfl)) (j_ rfl) (λ_ _ _ _ _=>nF rfl (jX (iT (i:=1) nd rfl (Or.inl rfl)) (jX (iT (i:=2) nd rfl (Or.inl rfl)) nG)))
    (λ_ _ _ _ _=>zL (ju (hG (pv 2) rfl) (λ_=>rfl))) (λ_ _ _ _ _=>pv 1)))),?_⟩
   dsimp only[il]
   obtain⟨dx,ho⟩:=B.obj
   have uN:=B.zw
   refine⟨d,_,hd,trivial,λod=>?_⟩
   have qy:upd H d (.iF od (.dT kvs)) bk=some (.ins a.k5 dx [("entries",.ref d)]):=by rw[ip uN];exact ho
   refine(a_ rfl (hX rfl qy T.j0.cl T.ki rfl ⟨d,od,kvs,rfl,e_,λD hD=>?_⟩))
   have yR:Kp d H (upd H d (.iF od (.dT kvs))):=Kp.upd
   refine Gf (λi U=>c_ (upd H d (.iF od (.dT kvs))) U/\p0 U D (((b.take i).filter λe=>e.isBase).map λe=>e.name)) ⟨c_.new hD,[],e_,Zip.nil⟩ (λi U _ p=>p.1.locked) (λi kk v U Tt q jr p hT hq=>?_) (λU p=>?_)
   ·obtain⟨s1,ps,jQ,jI⟩:=p
    obtain⟨⟨e,fw⟩,hx,ek,pe,ev,nq⟩:=B.all.right jr
    obtain⟨lU,qr⟩:=t_ B.ok.wf hx
    simp only at lU qr ek nq
    have ev:v= .ref pe:=ev
    subst ev
    obtain⟨lK,nv,lf,lr,pd,pk,g1,_⟩:=(nq.kp hd yR).same s1
    have sT:=c_.new (o:=.tup [V.ref q,V.ref pe]) hT
    refine⟨Tt,_,rfl,iO.of e_,rfl,_,_,rfl,_,_,rfl,rfl,rfl,?_⟩
    refine⟨_,rfl,pe,_,lK,_,_,rfl,sT _ _ g1,T.lO.cl,T.zo,rfl,_,rfl,?_⟩
    have kR:jC U q e.name:=by show U q=_;rw[hq,<-kd,<-ek]
    refine iU (λc=>?_) (λc=>?_)
    ·refine(a_ rfl ⟨ps.map V.ref,sT _ _ jQ,?_,?_⟩)
     ·have hl:=jI.1
      rw[ab]at hl
      rw[ab,hl]
      refine iV ?_
      have:=cy (λe:Vaunia.Entry=>e.isBase) (b.take i)
      rw[aB]at this
      have:=B.ok.mO
      omega
     ·have sU:Kp D U (upd (upd U Tt (.tup [.ref q,.ref pe])) D (.lst (ps.map V.ref++[.ref q]))):=sT.kp.trans Kp.upd
      refine⟨Kp.same s1 hD sU,ps++[q],by rw[e_,au];rfl,?_⟩
      rw[take_snoc lU,bT,au]
      rw[aY,aE (show e.isBase=true from c),eG]
      refine(jI.mono λx y r=>?_).snoc ?_
      ·exact sU _ _ (iC r jQ (by intro z;cases z)) r
      ·exact sU _ _ (iC kR jQ (by intro z;cases z)) kR
    ·refine⟨s1.trans sT,ps,sT _ _ jQ,?_⟩
     rw[take_snoc lU,bT,au,aY,aq (show ¬e.isBase=true from c),eG,dY,cv]
     exact jI.mono λx y r=>sT _ _ r
   ·obtain⟨s1,hn⟩:=p
    rw[B.len,aP]at hn
    have xb:D≠d:=λz=>by rw[z,e_]at hD;cases hD
    refine⟨s1.locked,k D _ (s1.unlock hd) ?_⟩
    obtain⟨ps,h1,h2⟩:=hn
    refine⟨ps,by rw[ip xb];exact h1,h2.mono λx y r=>?_⟩
    show upd U d _ x=_
    rw[ip (λz=>by rw[z]at r;have r:U d=some (.tup (bv y)):=r;rw[s1.locked]at r;cases r)]
    exact r
  ·refine⟨_,g9 (hJ (lA (own:=[("name",1),("entry",2)]) (g:=q5 K 2 (mf (jL 1) (mf (jL 2) qZ))) (tt:=MD K (lE K (jb 2) "is_base")) rfl nd (HR (hG (pv 0) rfl)) (j_ rfl) (λ_ _ _ _ _=>nF rfl (jX (iT (i:=1) nd rfl (Or.inl rfl)) (jX (iT (i:=2) nd rfl (Or.inl rfl)) nG)))
    (λ_ _ _ _ _=>zL (ju (hG (pv 2) rfl) (λ_=>rfl))) (λ_ _ _ _ _=>pv 1))),?_⟩
   dsimp only[il]
   obtain⟨dx,ho⟩:=B.obj
   refine(a_ rfl (hX rfl ho T.j0.cl T.ki rfl ⟨d,od,kvs,rfl,hd,λD hD=>?_⟩))
   refine Gf (λi U=>c_ H U/\p0 U D (((b.take i).filter λe=>e.isBase).map λe=>e.name)) ⟨c_.new hD,[],e_,Zip.nil⟩ (λi U _ p=>p.1 _ _ hd) (λi kk v U Tt q jr p hT hq=>?_) (λU p=>?_)
   ·obtain⟨s1,ps,jQ,jI⟩:=p
    obtain⟨⟨e,fw⟩,hx,ek,pe,ev,nq⟩:=B.all.right jr
    obtain⟨lU,qr⟩:=t_ B.ok.wf hx
    simp only at lU qr ek nq
    have ev:v= .ref pe:=ev
    subst ev
    obtain⟨lK,nv,lf,lr,pd,pk,g1,_⟩:=nq.same s1
    have sT:=c_.new (o:=.tup [V.ref q,V.ref pe]) hT
    refine⟨Tt,_,rfl,iO.of e_,rfl,_,_,rfl,_,_,rfl,rfl,rfl,?_⟩
    refine⟨_,rfl,pe,_,lK,_,_,rfl,sT _ _ g1,T.lO.cl,T.zo,rfl,_,rfl,?_⟩
    have kR:jC U q e.name:=by show U q=_;rw[hq,<-kd,<-ek]
    refine iU (λc=>?_) (λc=>?_)
    ·refine(a_ rfl ⟨ps.map V.ref,sT _ _ jQ,?_,?_⟩)
     ·have hl:=jI.1
      rw[ab]at hl
      rw[ab,hl]
      refine iV ?_
      have:=cy (λe:Vaunia.Entry=>e.isBase) (b.take i)
      rw[aB]at this
      have:=B.ok.mO
      omega
     ·have sU:Kp D U (upd (upd U Tt (.tup [.ref q,.ref pe])) D (.lst (ps.map V.ref++[.ref q]))):=sT.kp.trans Kp.upd
      refine⟨Kp.same s1 hD sU,ps++[q],by rw[e_,au];rfl,?_⟩
      rw[take_snoc lU,bT,au]
      rw[aY,aE (show e.isBase=true from c),eG]
      refine(jI.mono λx y r=>?_).snoc ?_
      ·exact sU _ _ (iC r jQ (by intro z;cases z)) r
      ·exact sU _ _ (iC kR jQ (by intro z;cases z)) kR
    ·refine⟨s1.trans sT,ps,sT _ _ jQ,?_⟩
     rw[take_snoc lU,bT,au,aY,aq (show ¬e.isBase=true from c),eG,dY,cv]
     exact jI.mono λx y r=>sT _ _ r
   ·obtain⟨s1,hn⟩:=p
    rw[B.len,aP]at hn
    exact k D _ s1 hn
end
theorem Et{m:List (List UInt8×FW)}(hn:(m.map (·.1)).Nodup){i:Nat}{x:List UInt8}{w:FW}(h:m[i]? =some (x,w)):jG m x=some w:=by
 induction m generalizing i with
 | nil=>simp at h
 | cons p r ih=>
  rw[aO,cS]at hn
  unfold jG
  rw[a8]
  cases i with
  | zero=>
   have e:p=(x,w):=ae h
   subst e
   simp
  | succ i=>
   have h':r[i]? =some (x,w):=by simpa using h
   have ne:(p.1 == x)=false:=bX.mpr λz=>hn.1 (aQ.mpr ⟨(x,w),aG h',z.symm⟩)
   rw[ne]
   exact ih hn.2 h'
theorem iB.nodup{a:hC}{H:Hp}{bk d:Addr}{b:Vaunia.Book}{kvs:List (List Key×V)}(h:iB a H bk d b kvs):((iE b).map (·.1)).Nodup:=by
 rw[h.ok.wf.names];exact h.ok.wf.nodup
theorem iB.there{a:hC}{H:Hp}{bk d:Addr}{b:Vaunia.Book}{kvs:List (List Key×V)}(h:iB a H bk d b kvs){x:List UInt8}{v:V}(hv:jD kvs (nk x)=some v):
 ∃(i:Nat) (p:Addr) (e:Vaunia.Entry) (w:FW),v= .ref p/\kvs[i]? =some (nk x,.ref p)/\b[i]? =some e/\e.name=x/\(iE b)[i]? =some (x,w)/\lG a d H p e w/\jG (iE b) x=some w:=by
 unfold jD at hv
 cases hf:kvs.find? λkv=>decide (kv.1=nk x) with
 | none=>rw[hf]at hv;cases hv
 | some kv=>
  rw[hf]at hv
  have ev:kv.2=v:=ae hv
  have ek:kv.1=nk x:=by
   have z:=List.find?_some hf
   exact aL z
  obtain⟨i,hi⟩:=fU.mp (dS hf)
  obtain⟨⟨e,w⟩,hx,r1,p,r2,r3⟩:=h.all.right hi
  obtain⟨b1,b2⟩:=t_ h.ok.wf hx
  simp only at r1 r3 b1 b2
  have en:e.name=x:=xi (r1.symm.trans ek)
  rw[en]at b2
  refine⟨i,p,e,w,by rw[<-ev];exact r2,?_,b1,en,b2,r3,Et h.nodup b2⟩
  rw[hi,<-ek,<-r2]
theorem iB.val{a:hC}{H:Hp}{bk d:Addr}{b:Vaunia.Book}{kvs:List (List Key×V)}(h:iB a H bk d b kvs)(x:List UInt8):(jD kvs (nk x)).isSome=decide (x∈b.map (·.name)):=by
 cases hv:jD kvs (nk x) with
 | some v=>
  obtain⟨i,p,e,w,_,_,b1,en,_⟩:=h.there hv
  rw[ah (aQ.mpr ⟨e,aG b1,en⟩)];rfl
 | none=>
  rw[az]
  ·rfl
  ·intro hm
   obtain⟨e,he,en⟩:=aQ.mp hm
   rw[<-QR h.ok.wf]at he
   obtain⟨x2,uA,ex⟩:=aQ.mp he
   obtain⟨i,hi⟩:=fU.mp uA
   obtain⟨kv,jr,r1,_⟩:=h.all.left hi
   have:=acd hv
   exact this (aQ.mpr ⟨kv,aG jr,by rw[r1,ex,en]⟩)
theorem wV(b:Vaunia.Book)(x:List UInt8):Vaunia.isIn b x=decide (x∈b.map (·.name)):=by
 rw[aH]
 unfold Vaunia.isIn
 rw[cZ,ak,aQ]
 constructor
 ·rintro⟨e,he,q⟩;exact⟨e,he,gN q⟩
 ·rintro⟨e,he,q⟩;exact⟨e,he,by rw[q];exact bY _⟩
theorem LZ(ns:List Int):SeqAt.shaped (.tuple (ns.map .int))=true:=by
 simp[SeqAt.shaped,PyData.canLay0,PyData.canLayAll0,PyData.depth,PyData.depthAll,PySem.W.ke_canLayAll0,PySem.W.ke_depthAll]
theorem Q0(ns ms:List Int):PyData.eqv (.tuple (ns.map .int)) (.tuple (ms.map .int))=decide (ns=ms):=by
 simp only[PyData.eqv,PySem.W.ked_eqvAll]
theorem QX{K:Fg}{H:Hp}{p q:Addr}{s t:List UInt8}{R:VK}(hp:jC H p s)(hq:jC H q t)(h:R (.bl (s == t)) H):C4 K (.ref p) (.ref q) H R:=by
 refine⟨.tuple ((s.map bz).map .int),.tuple ((t.map bz).map .int),.tup (iO.of hp) (by rw[qP];exact oB _),.tup (iO.of hq) (by rw[qP];exact oB _),LZ _,LZ _,?_⟩
 rw[Q0]
 have e:decide (s.map bz=t.map bz)=(s == t):=by
  rw[aH,ak,dM]
  exact⟨λh=>AB h,λh=>by rw[h]⟩
 rw[e];exact h
section
variable{P:Program}{w:World}{K:Fg}{mg:Str->Option Value}{base:Heap}{a:hC}
noncomputable def Zg(a:hC):Sp:=λvs H R _=>∃bk d b kvs,vs=[.ref bk]/\iB a H bk d b kvs/\R (.bl (decide (40<=b.length))) H
theorem Xp(T:Txt K mg a):Callee P w K mg base 1 "is_full" ["book"] (Zg a):=by
 refine T.O1.ok aaR (λvs H Q E h=>?_) (λf h8 A outer s H vs Q E hr h=>?_)
 ·obtain⟨_,_,_,_,rfl,_⟩:=h
  rfl
 ·obtain⟨bk,d,b,kvs,rfl,B,k⟩:=h
  refine⟨_,g9 (hJ (kF pN (i7 DX (by rfl) T.jO aV (b_ (hG (pv 0) rfl) d_)) (iD T.Ru) (ig _))),?_⟩
  dsimp only[il]
  obtain⟨dx,ho⟩:=B.obj
  refine(a_ rfl (hX rfl ho T.j0.cl T.ki rfl ⟨d,kvs,rfl,B.lI,h9 rfl rfl ?_⟩))
  have e:decide ((40:Int)<=(kvs.length:Nat))=decide (40<=b.length):=by rw[B.len,aH,ak,ak];omega
  rw[<-e]at k;exact k
noncomputable def Za(a:hC):Sp:=λvs H R _=>∃bk d b kvs,vs=[.ref bk]/\iB a H bk d b kvs/\∀U,c_ H U->R (.bl (decide (8<=(Vaunia.bases b).length))) U
theorem Xm(T:Txt K mg a):Callee P w K mg base 2 "has_all_bases" ["book"] (Za a):=by
 refine T.OT.ok aaK (λvs H Q E h=>?_) (λf h8 A outer s H vs Q E hr h=>?_)
 ·obtain⟨_,_,_,_,rfl,_⟩:=h
  rfl
 ·obtain⟨bk,d,b,kvs,rfl,B,k⟩:=h
  refine⟨_,g9 (hJ (kF pN (i7 ka (by rfl) T.jO aV (b_ (hU (zy T) hr (b_ (pv 0) d_)) d_)) (iD T.Rt) (ig _))),?_⟩
  dsimp only[il]
  refine(a_ rfl ⟨bk,d,b,kvs,rfl,B,λl H1 s1 ⟨ps,h1,h2⟩=>(⟨l,a_ rfl ⟨.inl (f_.of h1),h9 rfl rfl ?_⟩⟩)⟩)
  have e:decide ((8:Int)<=((ps.map V.ref).length:Nat))=decide (8<=(Vaunia.bases b).length):=by rw[ab,h2.1,aH,ak,ak];omega
  have k:=k _ s1
  rw[<-e]at k;exact k
noncomputable def Zl(a:hC):Sp:=λvs H R _=>∃bk d b kvs l fs,vs=[.ref bk,.ref l]/\iB a H bk d b kvs/\j9 H l fs/\fs.length<=20/\∀U,c_ H U->R (.bl (fs.all λf=>decide (f.1∈b.map (·.name)))) U
theorem Xv(T:Txt K mg a):Callee P w K mg base 1 "knows_all" ["book","factors"] (Zl a):=by
 refine T.O9.ok Ld (λvs H Q E h=>?_) (λf h8 A outer s H vs Q E hr h=>?_)
 ·obtain⟨_,_,_,_,_,_,rfl,_⟩:=h
  rfl
 ·obtain⟨bk,d,b,kvs,l,fs,rfl,B,⟨ps,hl,zp⟩,hz,k⟩:=h
  have nd:=Ld.nd
  refine⟨_,g9 (hJ (i7 (AH rfl) (by rfl) T.As (by decide +kernel) (b_ (lA (own:=[("name",2),("power",3)]) (g:=q5 K 2 (mf (jL 2) (mf (jL 3) qZ))) (te:=Mw (jb 2) (lE K (jb 0) "entries")) rfl nd (kj (pv 1)) (j_ rfl)
   (λ_ _ _ _ _=>nF rfl (jX (iT (i:=2) nd rfl (Or.inl rfl)) (jX (iT (i:=3) nd rfl (Or.inl rfl)) nG))) (λ_ _ _ _ _=>kT) (λ_ _ _ _ _=>HN (CN (mn hr) (pv 2) (hG (pv 0) rfl)) (by with_unfolding_all rfl))) d_))),?_⟩
  dsimp only[il]
  have hlen:=zp.1
  obtain⟨dx,ho⟩:=B.obj
  refine(a_ rfl ⟨l,rfl,⟨_,f_.of hl⟩,λD hD=>mq (xs:=ps.map V.ref) (λi U=>kY H D ((fs.take i).map λf=>V.bl (decide (f.1∈b.map (·.name)))) U) (lZ hD) (λi U _ p=>f_.of (p.1 _ _ hl)) (λi x U hx p=>?_) (λU p=>?_)⟩)
  ·obtain⟨q,hq,rfl⟩:=i8 hx
   obtain⟨⟨t,z⟩,hy,n,kf,jA⟩:=zp.right hq
   have B':=B.same p.1
   refine⟨q,_,rfl,iO.of (p.1 _ _ kf),rfl,_,_,rfl,_,_,rfl,rfl,rfl,?_⟩
   refine⟨_,rfl,_,rfl,bk,_,dx,_,_,rfl,p.1 _ _ ho,T.j0.cl,T.ki,rfl,d,_,rfl,j8.tr (k:=nk t) B'.lI (by rw[kd];exact p.1 _ _ jA),?_⟩
   have hi:=ja hy
   refine lY hD p (c_.refl _) (by rw[ab,aB];exact iV (by omega)) ?_
   rw[take_snoc hy,au,B.val];rfl
  ·have p2:=p.2
   rw[ab,hlen,aP]at p2
   refine⟨D,fs.map λf=>decide (f.1∈b.map (·.name)),rfl,f_.of (by rw[p2,bu];rfl),?_⟩
   have e:(List.map (λf:Vaunia.Factor=>decide (f.1∈b.map (·.name))) fs).all id=fs.all λf=>decide (f.1∈b.map (·.name)):=by rw[gq];rfl
   rw[e]
   exact k _ p.1
noncomputable def Zq(a:hC):Sp:=λvs H R _=>∃p d e fw n x,vs=[.ref p,.ref n]/\lG a d H p e fw/\jC H n x/\e.factors.length<=20/\∀U,c_ H U->R (.bl (e.factors.any λf=>f.1 == x)) U
theorem Xz(T:Txt K mg a):Callee P w K mg base 1 "names_factor" ["entry","name"] (Zq a):=by
 refine T.Pe.ok Lh (λvs H Q E h=>?_) (λf h8 A outer s H vs Q E hr h=>?_)
 ·obtain⟨_,_,_,_,_,_,rfl,_⟩:=h
  rfl
 ·obtain⟨p,d,e,fw,n,x,rfl,⟨lK,nv,lf,lr,pd,pk,g1,_,⟨ps,hl,zp⟩,_⟩,hn,hz,k⟩:=h
  have nd:=Lh.nd
  refine⟨_,g9 (hJ (i7 (yj rfl) (by rfl) T.vL (by decide +kernel) (b_ (lA (own:=[("factor",2)]) (te:=mH (C4 K) (mH (Ik K) (jb 2) (tC (.int 0))) (jb 1)) rfl nd (kj (hG (pv 0) rfl)) (j_ rfl)
   (λ_ _ _ _ _=>iT (i:=2) nd rfl (Or.inl rfl)) (λ_ _ _ _ _=>kT) (λ_ _ _ _ _=>kF (zD hr.units) (mW y_ (pv 2) ij (λ_ _=>rfl)) (pv 1) (ig _))) d_))),?_⟩
  dsimp only[il]
  have hlen:=zp.1
  refine(a_ rfl (hX rfl g1 T.lO.cl T.Ci rfl ⟨lf,rfl,⟨_,f_.of hl⟩,λD hD=>mq (xs:=ps.map V.ref) (λi U=>kY H D ((e.factors.take i).map λf=>V.bl (f.1 == x)) U) (lZ hD) (λi U _ p=>f_.of (p.1 _ _ hl)) (λi v U hx p=>?_) (λU p=>?_)⟩))
  ·obtain⟨q,hq,rfl⟩:=i8 hx
   obtain⟨⟨t,z⟩,hy,m,kf,jA⟩:=zp.right hq
   have hi:=ja hy
   refine⟨rfl,_,rfl,q,_,_,_,rfl,rfl,iO.of (p.1 _ _ kf),at_of (j:=0) rfl rfl,_,rfl,QX (show jC U m t from p.1 _ _ jA) (show jC U n x from p.1 _ _ hn) ?_⟩
   refine lY hD p (c_.refl _) (by rw[ab,aB];exact iV (by omega)) ?_
   rw[take_snoc hy,au];rfl
  ·have p2:=p.2
   rw[ab,hlen,aP]at p2
   refine⟨D,e.factors.map λf=>f.1 == x,rfl,f_.of (by rw[p2,bu];rfl),?_⟩
   have e2:(List.map (λf:Vaunia.Factor=>f.1 == x) e.factors).any id=e.factors.any λf=>f.1 == x:=by rw[fE];rfl
   rw[e2]
   exact k _ p.1
end
theorem jC.kp{d p:Addr}{H U:Hp}{t:List UInt8}{kvs:List (List Key×V)}(h:jC H p t)(hd:H d=some (.dT kvs))(k:Kp d H U):jC U p t:=k _ _ (iC h hd (by intro z;cases z)) h
section
variable{P:Program}{w:World}{K:Fg}{mg:Str->Option Value}{base:Heap}{a:hC}
noncomputable def Zk(a:hC):Sp:=λvs H R _=>∃bk d b kvs n x,vs=[.ref bk,.ref n]/\iB a H bk d b kvs/\H d=some (.dT kvs)/\jC H n x/\∀U,c_ H U->R (.bl (Vaunia.isNamed b x)) U
theorem Xu(T:Txt K mg a):Callee P w K mg base 2 "is_used" ["book","name"] (Zk a):=by
 refine T.O7.ok Lc (λvs H Q E h=>?_) (λf h8 A outer s H vs Q E hr h=>?_)
 ·obtain⟨_,_,_,_,_,_,rfl,_⟩:=h
  rfl
 ·obtain⟨bk,d,b,kvs,n,x,rfl,B,mi,hn,k⟩:=h
  have nd:=Lc.nd
  refine⟨_,g9 (hJ (i7 (yj rfl) (by rfl) T.vL (by decide +kernel) (b_ (CQ (lA (own:=[("entry",2)]) rfl nd (Yo (hG (pv 0) rfl)) (j_ rfl) (λ_ _ _ _ _=>iT (i:=2) nd rfl (Or.inl rfl)) (λ_ _ _ _ _=>kT)
   (λ_ _ _ _ _=>hU (Xz T) hr (b_ (pv 2) (b_ (pv 1) d_))))) d_))),?_⟩
  dsimp only[il]
  obtain⟨dx,ho⟩:=B.obj
  have uN:=B.zw
  refine⟨d,_,mi,trivial,λod=>?_⟩
  have qy:upd H d (.iF od (.dT kvs)) bk=some (.ins a.k5 dx [("entries",.ref d)]):=by rw[ip uN];exact ho
  refine(a_ rfl (hX rfl qy T.j0.cl T.ki rfl ⟨d,od,kvs,rfl,e_,λD hD=>?_⟩))
  have yR:Kp d H (upd H d (.iF od (.dT kvs))):=Kp.upd
  refine Vx (λi U=>kY (upd H d (.iF od (.dT kvs))) D ((b.take i).map λe=>V.bl (e.factors.any λf=>f.1 == x)) U) (lZ hD) (λi U _ p=>p.1.locked) (λi kk v U jr p=>?_) (λU p=>?_)
  ·obtain⟨⟨e,fw⟩,hx,ek,pe,ev,nq⟩:=B.all.right jr
   obtain⟨lU,qr⟩:=t_ B.ok.wf hx
   simp only at lU qr ek nq
   have ev:v= .ref pe:=ev
   subst ev
   have he:=(nq.kp mi yR).same p.1
   have hi:=ja lU
   have:=B.ok.mO
   refine(⟨rfl,a_ rfl (a_ rfl ⟨pe,d,e,fw,n,x,rfl,he,p.1 _ _ (hn.kp mi yR),(B.ok.fs e (aG lU)).1,λH2 s2=>?_⟩)⟩)
   refine lY hD p s2 (by rw[ab,aB];exact iV (by omega)) ?_
   rw[take_snoc lU,au];rfl
  ·have p2:=p.2
   rw[B.len,aP]at p2
   have xb:D≠d:=λz=>by rw[z,e_]at hD;cases hD
   refine⟨p.1.locked,D,b.map λe=>e.factors.any λf=>f.1 == x,rfl,f_.of (by rw[ip xb,p2,bu];rfl),?_⟩
   have e2:(b.map λe:Vaunia.Entry=>e.factors.any λf=>f.1 == x).any id=Vaunia.isNamed b x:=by
    rw[fE]
    unfold Vaunia.isNamed
    rw[aH,cZ,cZ]
    constructor
    ·rintro⟨e,he,q⟩
     refine⟨e,he,?_⟩
     have q:(e.factors.any λf=>f.1 == x)=true:=q
     cases hb:e.isBase with
     | false=>rw[q];rfl
     | true=>rw[B.ok.bs e he hb]at q;simp at q
    ·rintro⟨e,he,q⟩
     exact⟨e,he,(eZ.mp q).2⟩
   rw[e2]
   exact k _ (p.1.unlock mi)
noncomputable def Known(b:Vaunia.Book)(fs:List Vaunia.Factor):Prop:=fs.length<=20/\(∀f∈fs,rZ f)/\∀f∈fs,f.1∈b.map (·.name)
theorem iB.get{a:hC}{H:Hp}{bk d:Addr}{b:Vaunia.Book}{kvs:List (List Key×V)}(h:iB a H bk d b kvs){x:List UInt8}(hx:x∈b.map (·.name)):
 ∃(p:Addr) (e:Vaunia.Entry) (w:FW),jD kvs (nk x)=some (.ref p)/\lG a d H p e w/\jG (iE b) x=some w/\si w:=by
 have hv:=h.val x
 rw[ah hx]at hv
 obtain⟨v,ev⟩:=cP.mp hv
 obtain⟨i,p,e,w,rfl,_,_,_,m1,m2,m3⟩:=h.there ev
 exact⟨p,e,w,ev,m2,m3,h.ok.ws _ (aG m1)⟩
noncomputable def ZD(a:hC):Sp:=λvs H R _=>∃bk d b kvs n x l fs,vs=[.ref bk,.ref n,.ref l]/\iB a H bk d b kvs/\jC H n x/\j9 H l fs/\Known b fs/\∀U,c_ H U->R (.int ((fs.map λf=>f.2*nE (iE b) f.1 x).sum)) U
theorem XG(T:Txt K mg a):Callee P w K mg base 1 "power_at" ["book","base","factors"] (ZD a):=by
 refine T.Pu.ok Lr (λvs H Q E h=>?_) (λf h8 A outer s H vs Q E hr h=>?_)
 ·obtain⟨_,_,_,_,_,_,_,_,rfl,_⟩:=h
  rfl
 ·obtain⟨bk,d,b,kvs,n,x,l,fs,rfl,B,hn,⟨ps,hl,zp⟩,⟨hz,hf,hk⟩,k⟩:=h
  have nd:=Lr.nd
  refine⟨_,g9 (hJ (i7 (N6 rfl) (by rfl) T.NH (by decide +kernel) (b_ (lA (own:=[("name",3),("power",4)]) (g:=q5 K 2 (mf (jL 3) (mf (jL 4) qZ)))
   (te:=mH (rI tJ λi j=>.int (i*j)) (jb 4) (Mv (lE K (Du (lE K (jb 0) "entries") (jb 3)) "powers") (jb 1) (tC (.int 0)))) rfl nd (kj (pv 2)) (j_ rfl)
   (λ_ _ _ _ _=>nF rfl (jX (iT (i:=3) nd rfl (Or.inl rfl)) (jX (iT (i:=4) nd rfl (Or.inl rfl)) nG))) (λ_ _ _ _ _=>kT)
   (λ_ _ _ _ _=>iH rO (pv 4) (X9 (mn hr) (hG (uU (mn hr) (hG (pv 0) rfl) (pv 3) (λ_ _=>rfl)) rfl) (pv 1) ij ⟨rfl,rfl,rfl,rfl⟩))) d_))),?_⟩
  dsimp only[il]
  have hlen:=zp.1
  obtain⟨dx,ho⟩:=B.obj
  refine(a_ rfl ⟨l,rfl,⟨_,f_.of hl⟩,λD hD=>mq (xs:=ps.map V.ref) (λi U=>kY H D ((fs.take i).map λf=>V.int (f.2*nE (iE b) f.1 x)) U) (lZ hD) (λi U _ p=>f_.of (p.1 _ _ hl)) (λi v U hx p=>?_) (λU p=>?_)⟩)
  ·obtain⟨q,hq,rfl⟩:=i8 hx
   obtain⟨⟨t,z⟩,hy,m,kf,jA⟩:=zp.right hq
   have ke:=aG hy
   have B':=B.same p.1
   obtain⟨pe,e,fw,hv,nq,jT,hw⟩:=B'.get (hk _ ke)
   obtain⟨lK,nv,lf,lr,pd,pk,g1,g2,g3,g4,g5,g6,g7⟩:=nq
   have FV:=(hf _ ke).2
   refine⟨q,_,rfl,iO.of (p.1 _ _ kf),rfl,_,_,rfl,_,_,rfl,rfl,rfl,?_⟩
   refine⟨_,rfl,_,rfl,bk,_,dx,_,_,rfl,p.1 _ _ ho,T.j0.cl,T.ki,rfl,_,rfl,d,.ref pe,rfl,?_,pe,_,lK,_,_,rfl,g1,T.lO.cl,T.GL,rfl,pd,rfl,.inr ⟨pk,.inl g6⟩,_,rfl,_,j8.t (k:=nk x) g6 (by rw[kd];exact p.1 _ _ hn),?_⟩
   ·rw[<-hv]
    exact j8.tr (k:=nk t) B'.lI (by rw[kd];exact p.1 _ _ jA)
   ·rw[g7 x]
    refine⟨z,fw.2 x,rfl,rfl,.inl ⟨by simp only at FV;omega,by simp only at FV;omega⟩,?_⟩
    have hi:=ja hy
    refine lY hD p (c_.refl _) (by rw[ab,aB];exact iV (by omega)) ?_
    rw[take_snoc hy,au]
    have ep:nE (iE b) t x=fw.2 x:=by unfold nE;rw[jT];rfl
    simp only[aO,dY,ep]
  ·have p2:=p.2
   rw[ab,hlen,aP]at p2
   exact⟨D,fs.map λf=>f.2*nE (iE b) f.1 x,rfl,f_.of (by rw[p2,bu];rfl),k _ p.1⟩
noncomputable def ZF(a:hC):Sp:=λvs H R _=>∃bk d b kvs l fs,vs=[.ref bk,.ref l]/\iB a H bk d b kvs/\j9 H l fs/\Known b fs/\∀p U,c_ H U->U p=some (.lst ((Vaunia.bases b).map λx=>V.int ((fs.map λf=>f.2*nE (iE b) f.1 x).sum)))->R (.ref p) U
theorem Hq(T:Txt K mg a):Callee P w K mg base 2 "powers_of" ["book","factors"] (ZF a):=by
 refine T.Px.ok Lu (λvs H Q E h=>?_) (λf h8 A outer s H vs Q E hr h=>?_)
 ·obtain⟨_,_,_,_,_,_,rfl,_⟩:=h
  rfl
 ·obtain⟨bk,d,b,kvs,l,fs,rfl,B,hl,hk,k⟩:=h
  have nd:=Lu.nd
  refine⟨_,g9 (hJ (lA (own:=[("base",2)]) rfl nd (kj (hU (zy T) (hr.mono (by decide)) (b_ (pv 0) d_))) (j_ rfl) (λ_ _ _ _ _=>iT (i:=2) nd rfl (Or.inl rfl)) (λ_ _ _ _ _=>kT)
   (λ_ _ _ _ _=>hU (XG T) hr (b_ (pv 0) (b_ (pv 2) (b_ (pv 1) d_)))))),?_⟩
  dsimp only[il]
  refine(a_ rfl ⟨bk,d,b,kvs,rfl,B,λbl H1 s1 ⟨ps,h1,h2⟩=>⟨bl,rfl,⟨_,f_.of h1⟩,λD hD=>mq (xs:=ps.map V.ref) (λi U=>kY H1 D (((Vaunia.bases b).take i).map λx=>V.int ((fs.map λf=>f.2*nE (iE b) f.1 x).sum)) U) (lZ hD) (λi U _ p=>f_.of (p.1 _ _ h1)) (λi v U hx p=>?_) (λU p=>?_)⟩⟩)
  ·obtain⟨q,hq,rfl⟩:=i8 hx
   obtain⟨x,hy,qC⟩:=h2.right hq
   have s2:=s1.trans p.1
   refine(⟨rfl,a_ rfl (a_ rfl (a_ rfl ⟨bk,d,b,kvs,q,x,l,fs,rfl,B.same s2,p.1 _ _ qC,hl.same s2,hk,λH3 s3=>?_⟩))⟩)
   have hi:=ja hy
   have ni:(Vaunia.bases b).length<=40:=by
    unfold Vaunia.bases
    rw[ab]
    exact aN (cy _ _) B.ok.mO
   refine lY hD p s3 (by rw[ab,aB];exact iV (by omega)) ?_
   rw[take_snoc hy,au];rfl
  ·have p2:=p.2
   rw[ab,h2.1,aP]at p2
   exact k D _ (s1.trans p.1) p2
end
theorem Ib{z:Int}{n m:Nat}(h:z.natAbs<=10^n)(hm:4*n+1<=m):intBits z<=m:=by
 refine dt.mpr ?_
 have:=dt.mp (nH h hm)
 simpa using this
theorem Io{b:Vaunia.Book}{x:List UInt8}{w:FW}(h:jG (iE b) x=some w):j6 (iE b) x=w.1:=by
 unfold j6;rw[h];rfl
theorem Known.ratio{a:hC}{H:Hp}{bk d:Addr}{b:Vaunia.Book}{kvs:List (List Key×V)}(B:iB a H bk d b kvs){fs:List Vaunia.Factor}(hk:Known b fs){f:Vaunia.Factor}(hf:f∈fs):
 Pos (j6 (iE b) f.1)/\(j6 (iE b) f.1).num.natAbs<10^40/\(j6 (iE b) f.1).den<10^40/\f.2.natAbs<=99:=by
 obtain⟨p,e,w,_,_,h1,h2⟩:=B.get (hk.2.2 f hf)
 rw[Io h1]
 exact⟨h2.1,(k9.mp h2.2.1).1,(k9.mp h2.2.1).2,(hk.2.1 f hf).2⟩
theorem iN.uF{a:hC}{l p:Addr}{H U:Hp}{q:Q}{xs:List V}(h:iN a H p q)(hl:H l=some (.lst xs))(k:Kp l H U):iN a U p q:=by
 obtain⟨dx,h⟩:=h
 exact⟨dx,k _ _ (iC h hl (by intro z;cases z)) h⟩
noncomputable def m7(a:hC)(H:Hp)(l:Addr)(qs:List Q):Prop:=∃ps:List Addr,H l=some (.lst (ps.map V.ref))/\Zip (iN a H) ps qs
theorem m7.same{a:hC}{H U:Hp}{l:Addr}{qs:List Q}(h:m7 a H l qs)(s:c_ H U):m7 a U l qs:=by
 obtain⟨ps,h1,h2⟩:=h
 exact⟨ps,s _ _ h1,h2.mono λx y r=>r.same s⟩
theorem m7.snoc{a:hC}{H U:Hp}{l p:Addr}{qs:List Q}{q:Q}{xs:List V}(h:m7 a H l qs)(s:c_ H U)(hp:iN a U p q)(hx:U l=some (.lst xs)):m7 a (upd U l (.lst (xs++[.ref p]))) l (qs++[q]):=by
 obtain⟨ps,h1,h2⟩:=h
 have e:=s _ _ h1
 rw[hx]at e
 have e:xs=ps.map V.ref:=by injection e with e;injection e
 refine⟨ps++[p],by rw[e_,e,au];rfl,?_⟩
 exact(h2.mono λx y r=>(r.same s).uF hx Kp.upd).snoc (hp.uF hx Kp.upd)
noncomputable def AQ(m:List (List UInt8×FW))(f:Vaunia.Factor):Q:=⟨(above (j6 m f.1) f.2:Nat),below (j6 m f.1) f.2⟩
theorem Aj(m:List (List UInt8×FW)):∀fs:List Vaunia.Factor,prod (fs.map λf=>above (j6 m f.1) f.2)=PA m fs
 | []=>rfl
 | f::r=>by show above _ _*prod _=above _ _*PA m r;rw[Aj m r]
theorem Ak(m:List (List UInt8×FW)):∀fs:List Vaunia.Factor,prod (fs.map λf=>below (j6 m f.1) f.2)=PB m fs
 | []=>rfl
 | f::r=>by show below _ _*prod _=below _ _*PB m r;rw[Ak m r]
section
variable{P:Program}{w:World}{K:Fg}{mg:Str->Option Value}{base:Heap}{a:hC}
noncomputable def ZK(a:hC):Sp:=λvs H R _=>∃bk d b kvs p x,vs=[.ref bk,.ref p]/\iB a H bk d b kvs/\p8 a H p x/\Known b x.2/\kX x.1/\Vaunia.near x.1=true/\
 lH a H R (pK (Q.of (x.1.num*PA (iE b) x.2) (x.1.den*PB (iE b) x.2)))
theorem XM(T:Txt K mg a)(ht:P.given.tree=none):Callee P w K mg base 35 "ratio_of" ["book","quantity"] (ZK a):=by
 refine T.PJ.ok Lz (λvs H Q E h=>?_) (λf h8 A outer s H vs Q E hr h=>?_)
 ·obtain⟨_,_,_,_,_,_,rfl,_⟩:=h
  rfl
 ·obtain⟨bk,d,b,kvs,p,⟨q,fs⟩,rfl,B,⟨dq,n,l,g1,⟨dn,g2⟩,⟨ps,hl,zp⟩⟩,hk,hc,iJ,k⟩:=h
  have nd:=Lz.nd
  refine⟨_,gZ (uX (i:=2) (own:=[("name",3),("power",4)]) (g:=q5 K 2 (mf (jL 3) (mf (jL 4) qZ))) (wi:=BU K (lE K (jb 1) "factors")) (te:=tG (Md a) [] E0 (mG (lE K (Du (lE K (jb 0) "entries") (jb 3)) "ratio") (mG (jb 4) pV))) rfl nd rfl rfl rfl (kj (hG (pv 1) rfl)) (j_ rfl)
   (λ_ _ _ _ _=>nF rfl (jX (iT (i:=3) nd rfl (Or.inl rfl)) (jX (iT (i:=4) nd rfl (Or.inl rfl)) nG))) (λ_ _ _ _ _=>kT)
   (λ_ _ _ _ _=>hU (Hv T) (hr.mono (by decide)) (b_ (hG (uU (mn hr) (hG (pv 0) rfl) (pv 3) (λ_ _=>rfl)) rfl) (b_ (pv 4) d_))))
   (gZ (ic (i:=5) nd rfl (Or.inl rfl) (iH mw (hG (hG (pv 1) rfl) rfl) (hU (Hr T) (hr.mono (by decide)) (b_ (lA (own:=[("ratio",6)]) (te:=lE K (jb 6) "top") rfl nd (kj (pv 2)) (j_ rfl) (λ_ _ _ _ _=>iT (i:=6) nd rfl (Or.inl rfl)) (λ_ _ _ _ _=>kT) (λ_ _ _ _ _=>hG (pv 6) rfl)) d_))))
   (gZ (ic (i:=7) nd rfl (Or.inl rfl) (iH mw (hG (hG (pv 1) rfl) rfl) (hU (Hr T) (hr.mono (by decide)) (b_ (lA (own:=[("ratio",6)]) (te:=lE K (jb 6) "bottom") rfl nd (kj (pv 2)) (j_ rfl) (λ_ _ _ _ _=>iT (i:=6) nd rfl (Or.inl rfl)) (λ_ _ _ _ _=>kT) (λ_ _ _ _ _=>hG (pv 6) rfl)) d_))))
   (g9 (hJ (hU (zA T ht) hr (b_ (pv 5) (b_ (pv 7) d_))))))),?_⟩
  dsimp only[il]
  have hlen:=zp.1
  obtain⟨dx,ho⟩:=B.obj
  have hq:=k9.mp iJ
  simp only at g1 g2 hk hc hq k hlen
  obtain⟨tV,tW⟩:=DK (m:=iE b) (fs:=fs) λg hg=>(hk.ratio B hg).2
  have ra:3960*fs.length<=79200:=by have:=hk.1;omega
  have tV:PA (iE b) fs<=10^79200:=aN tV (a0 (by decide) ra)
  have tW:PB (iE b) fs<=10^79200:=aN tW (a0 (by decide) ra)
  have DQ:PA (iE b) fs<=10^80000:=aN tV (a0 (by decide) (by decide))
  have DR:PB (iE b) fs<=10^80000:=aN tW (a0 (by decide) (by decide))
  refine(a_ rfl (hX rfl g1 T.n_.cl T.xf rfl ⟨l,rfl,⟨_,f_.of hl⟩,λD hD=>mq (xs:=ps.map V.ref) (λi U=>c_ H U/\m7 a U D ((fs.take i).map (AQ (iE b)))) ⟨c_.new hD,[],e_,Zip.nil⟩ (λi U _ p=>f_.of (p.1 _ _ hl)) (λi v U hx p=>?_) (λU p=>?_)⟩))
  ·obtain⟨s1,hex⟩:=p
   obtain⟨pc,oK,rfl⟩:=i8 hx
   obtain⟨⟨t,z⟩,hy,m,kf,jA⟩:=zp.right oK
   have hi:=ja hy
   have ke:=aG hy
   obtain⟨rp,rn,rd,rz⟩:=hk.ratio B ke
   have B1:=B.same s1
   obtain⟨pe,e,fw,hv,⟨lK,nv,lf,lr,pd,pk,e1,e2,e3,e4,e5⟩,jT,hw⟩:=B1.get (hk.2.2 _ ke)
   have er:=Io jT
   simp only at rz rp rn rd
   rw[er]at rp rn rd
   refine⟨pc,_,rfl,iO.of (s1 _ _ kf),rfl,_,_,rfl,_,_,rfl,rfl,rfl,?_⟩
   refine⟨_,rfl,bk,_,dx,_,_,rfl,s1 _ _ ho,T.j0.cl,T.ki,rfl,_,rfl,d,.ref pe,rfl,?_,pe,_,lK,_,_,rfl,e1,T.lO.cl,T.xc,rfl,_,rfl,lr,fw.1,z,rfl,e4,rp.2,rn,rd,rz,λp2 H2 s2 h2=>?_⟩
   ·rw[<-hv]
    exact j8.tr (k:=nk t) B1.lI (by rw[kd];exact s1 _ _ jA)
   obtain⟨qs,jn,jv⟩:=hex
   have kL:=jv.1
   have nW:=s2 _ _ jn
   refine⟨_,nW,?_,?_,?_⟩
   ·rw[ab,kL,ab,aB];have:=hk.1;exact iV (by omega)
   ·exact Kp.same s1 hD (s2.kp.trans Kp.upd)
   ·rw[take_snoc hy,au]
    refine m7.snoc ⟨qs,jn,jv⟩ s2 ?_ nW
    show iN a H2 p2 (AQ (iE b) (t,z))
    unfold AQ
    simp only[er]
    exact h2
  ·obtain⟨s1,hex⟩:=p
   rw[ab,hlen,aP]at hex
   have acJ:=hex
   obtain⟨qs,jn,jv⟩:=hex
   have kL:=jv.1
   rw[ab]at kL
   refine(a_ rfl (hX rfl (s1 _ _ g1) T.n_.cl T.uL rfl (hX rfl (s1 _ _ g2) T.iQ.cl T.jN rfl ?_)))
   refine(a_ rfl ⟨D,rfl,⟨_,f_.of jn⟩,λD2 nW=>mq (xs:=qs.map V.ref) (λi H2=>kY U D2 (iv ((fs.take i).map λf=>above (j6 (iE b) f.1) f.2)) H2) (lZ nW) (λi H2 _ p=>f_.of (p.1 _ _ jn)) (λi v H2 hx p=>?_) (λH2 p2=>?_)⟩)
   ·obtain⟨pc,oK,rfl⟩:=i8 hx
    obtain⟨y,hy,dy,wD⟩:=jv.right oK
    obtain⟨g,hg,rfl⟩:=i8 hy
    have hi:=ja hg
    refine(⟨rfl,a_ rfl (hX rfl (p.1 _ _ wD) T.iQ.cl T.jN rfl ?_)⟩)
    refine lY nW p (c_.refl _) (by unfold iv;rw[ab,ab,aB];have:=hk.1;exact iV (by omega)) ?_
    rw[take_snoc hg,au];unfold iv;rw[au];rfl
   ·have HF:=p2.2
    rw[ab,kL,aP]at HF
    have s2:=s1.trans p2.1
    refine(⟨D2,a_ rfl ⟨HF,?_,?_,by rw[Aj];exact DQ,λH3 s3=>?_⟩⟩)
    ·rw[ab];have:=hk.1;omega
    ·intro x hx
     obtain⟨g,hg,rfl⟩:=aQ.mp hx
     exact Ar (hk.ratio B hg).1 _
    rw[Aj]
    have bt:intBits (q.num)<=200:=Ib (n:=40) (aI hq.1) (by decide)
    have bb:intBits (q.den:Int)<=200:=nH (n:=40) (aI hq.2) (by decide)
    have ba:intBits ((PA (iE b) fs:Nat):Int)<=320001:=nH DQ (by decide)
    have NK:intBits ((PB (iE b) fs:Nat):Int)<=320001:=nH DR (by decide)
    have jK:=s2.trans s3
    have Di:=p2.1.trans s3
    refine(h9 rfl rfl ⟨dP bt ba (by decide),?_⟩)
    refine(a_ rfl (hX rfl (jK _ _ g1) T.n_.cl T.uL rfl (hX rfl (jK _ _ g2) T.iQ.cl T.jM rfl ?_)))
    refine(a_ rfl ⟨D,rfl,⟨_,f_.of (Di _ _ jn)⟩,λD3 ug=>mq (xs:=qs.map V.ref) (λi H2=>kY H3 D3 (iv ((fs.take i).map λf=>below (j6 (iE b) f.1) f.2)) H2) (lZ ug) (λi H2 _ p=>f_.of (p.1 _ _ (Di _ _ jn))) (λi v H2 hx p=>?_) (λH4 p4=>?_)⟩)
    ·obtain⟨pc,oK,rfl⟩:=i8 hx
     obtain⟨y,hy,dy,wD⟩:=jv.right oK
     obtain⟨g,hg,rfl⟩:=i8 hy
     have hi:=ja hg
     refine(⟨rfl,a_ rfl (hX rfl (p.1 _ _ (Di _ _ wD)) T.iQ.cl T.jM rfl ?_)⟩)
     refine lY ug p (c_.refl _) (by unfold iv;rw[ab,ab,aB];have:=hk.1;exact iV (by omega)) ?_
     rw[take_snoc hg,au];unfold iv;rw[au];rfl
    ·have HG:=p4.2
     rw[ab,kL,aP]at HG
     have s4:=jK.trans p4.1
     refine(⟨D3,a_ rfl ⟨HG,?_,?_,by rw[Ak];exact DR,λH5 s5=>?_⟩⟩)
     ·rw[ab];have:=hk.1;omega
     ·intro x hx
      obtain⟨g,hg,rfl⟩:=aQ.mp hx
      exact vO (hk.ratio B hg).1 _
     rw[Ak]
     refine(h9 rfl rfl ⟨dP bb NK (by decide),?_⟩)
     refine(a_ rfl (a_ rfl ⟨q.num*(PA (iE b) fs:Nat),q.den*PB (iE b) fs,by rw[aW];rfl,bL hc.1 (tP λg hg=>(hk.ratio B hg).1),?_,?_,k.same (s4.trans s5)⟩))
     ·refine Ib (n:=40+79200) ?_ (by decide)
      rw[cN,bS]
      exact zk (aI hq.1) tV
     ·exact nH (n:=40+79200) (zk (aI hq.2) tW) (by decide)
end
noncomputable def xQ(H:Hp)(l:Addr)(ks:List Int):Prop:=H l=some (.lst (ks.map V.int))
noncomputable def jx(a:hC)(H:Hp)(p:Addr)(v:Vaunia.Worth):Prop:=∃dx lr lp,H p=some (.ins a.ox dx [("ratio",.ref lr),("powers",.ref lp)])/\iN a H lr v.ratio/\xQ H lp v.powers
theorem jx.same{a:hC}{H U:Hp}{p:Addr}{v:Vaunia.Worth}(h:jx a H p v)(s:c_ H U):jx a U p v:=by
 obtain⟨dx,lr,lp,h1,h2,h3⟩:=h
 exact⟨dx,lr,lp,s _ _ h1,h2.same s,s _ _ h3⟩
noncomputable def VW(a:hC)(H:Hp)(v:V):Option Vaunia.Worth->Prop
 | none=>v= .ia
 | some x=>∃p,v= .ref p/\jx a H p x
noncomputable def xZ(a:hC)(H:Hp)(R:VK)(o:Option Vaunia.Worth):Prop:=∀v U,c_ H U->VW a U v o->R v U
theorem zY(v:Vaunia.Worth):Vaunia.tooFar v=((v.powers.map λk=>decide (99<k.natAbs)).any id||!Vaunia.near v.ratio):=by
 unfold Vaunia.tooFar
 rw[Bool.or_comm,fE]
 congr 1
 congr 1
 funext k
 show(decide (k < -99)||decide (99<k))=decide (99<k.natAbs)
 rw[aH,gX,ak,ak,ak]
 omega
section
variable{P:Program}{w:World}{K:Fg}{mg:Str->Option Value}{base:Heap}{a:hC}
noncomputable def uJ(us:List V):List (Str×V):=[("ratio",us.getD 0 .ia),("powers",us.getD 1 .ia)]
theorem w9(T:Txt K mg a):Maker P w K mg base "Worth" a.ox 2 uJ:=by
 refine T.jo.maker aaB rfl λf h8 A outer s H p us dx Q E hr hl hp q=>?_
 match us,hl with
 | [u,v],_=>
  refine⟨_,gZ (jH (pv 0) (pv 1) rfl) (g9 (jH (pv 0) (pv 2) rfl)),?_⟩
  dsimp only[il]
  refine(a_ rfl (a_ rfl ⟨p,_,dx,a_ rfl ⟨hp,T.jo.cl,T.kM,(by show 0<1000;decide),?_⟩⟩))
  refine(a_ rfl (a_ rfl ⟨p,_,dx,a_ rfl ⟨e_,T.jo.cl,T.nB,(by show 1<1000;decide),?_⟩⟩))
  rw[kn]
  exact q
noncomputable def GB(us:List V):List (Str×V):=[("refusal",us.getD 0 .ia),("quantity",us.getD 1 .ia),("worth",us.getD 2 .ia)]
theorem w8(T:Txt K mg a):Maker P w K mg base "Reading" a.qQ 3 GB:=by
 refine T.iR.maker aay rfl λf h8 A outer s H p us dx Q E hr hl hp q=>?_
 match us,hl with
 | [u,v,x],_=>
  refine⟨_,gZ (jH (pv 0) (pv 1) rfl) (gZ (jH (pv 0) (pv 2) rfl) (g9 (jH (pv 0) (pv 3) rfl))),?_⟩
  dsimp only[il]
  refine(a_ rfl (a_ rfl ⟨p,_,dx,a_ rfl ⟨hp,T.iR.cl,T.jt,(by show 0<1000;decide),?_⟩⟩))
  refine(a_ rfl (a_ rfl ⟨p,_,dx,a_ rfl ⟨e_,T.iR.cl,T.GP,(by show 1<1000;decide),?_⟩⟩))
  refine(a_ rfl (a_ rfl ⟨p,_,dx,a_ rfl ⟨e_,T.iR.cl,T.k8,(by show 2<1000;decide),?_⟩⟩))
  rw[kn,kn]
  exact q
noncomputable def Gz(us:List V):List (Str×V):=[("refusal",us.getD 0 .ia),("first",us.getD 1 .ia),("second",us.getD 2 .ia)]
theorem zj(T:Txt K mg a):Maker P w K mg base "PairReading" a.nR 3 Gz:=by
 refine T.mT.maker aav rfl λf h8 A outer s H p us dx Q E hr hl hp q=>?_
 match us,hl with
 | [u,v,x],_=>
  refine⟨_,gZ (jH (pv 0) (pv 1) rfl) (gZ (jH (pv 0) (pv 2) rfl) (g9 (jH (pv 0) (pv 3) rfl))),?_⟩
  dsimp only[il]
  refine(a_ rfl (a_ rfl ⟨p,_,dx,a_ rfl ⟨hp,T.mT.cl,T.sY,(by show 0<1000;decide),?_⟩⟩))
  refine(a_ rfl (a_ rfl ⟨p,_,dx,a_ rfl ⟨e_,T.mT.cl,T.Cj,(by show 1<1000;decide),?_⟩⟩))
  refine(a_ rfl (a_ rfl ⟨p,_,dx,a_ rfl ⟨e_,T.mT.cl,T.Ck,(by show 2<1000;decide),?_⟩⟩))
  rw[kn,kn]
  exact q
theorem sm{a:hC}{H:Hp}{bk d:Addr}{b:Vaunia.Book}{kvs:List (List Key×V)}(B:iB a H bk d b kvs):(Vaunia.bases b).length<=40:=by
 unfold Vaunia.bases
 rw[ab]
 exact aN (cy _ _) B.ok.mO
noncomputable def Z5(a:hC):Sp:=λvs H R _=>∃bk d b kvs p x fw,vs=[.ref bk,.ref p]/\iB a H bk d b kvs/\p8 a H p x/\Known b x.2/\kX x.1/\Vaunia.near x.1=true/\
 jJ (iE b) x.1 x.2=some fw/\xZ a H R (if Vaunia.tooFar (jf (Vaunia.bases b) fw) then none else some (jf (Vaunia.bases b) fw))
theorem Hz(T:Txt K mg a)(ht:P.given.tree=none):Callee P w K mg base 36 "worth_of" ["book","quantity"] (Z5 a):=by
 refine T.Qc.ok LW (λvs H Q E h=>?_) (λf h8 A outer s H vs Q E hr h=>?_)
 ·obtain⟨_,_,_,_,_,_,_,rfl,_⟩:=h
  rfl
 ·obtain⟨bk,d,b,kvs,p,x,fw,rfl,B,hq,hk,hc,iJ,jZ,k⟩:=h
  have nd:=LW.nd
  refine⟨_,gZ (ic (i:=2) nd rfl (Or.inl rfl) (hU (Hq T) (hr.mono (by decide)) (b_ (pv 0) (b_ (hG (pv 1) rfl) d_))))
   (gZ (iw (ju (i7 (yj rfl) (by rfl) T.vL (by decide +kernel) (b_ (lA (own:=[("power",3)]) rfl nd (kj (pv 2)) (j_ rfl) (λ_ _ _ _ _=>iT (i:=3) nd rfl (Or.inl rfl)) (λ_ _ _ _ _=>kT)
    (λ_ _ _ _ _=>kF ly (i7 sy (by rfl) T.sk (by decide +kernel) (b_ (pv 3) d_)) (iD T.Ry) (ig _))) d_)) (λ_=>rfl)) (g9 (hJ iM)) iy)
   (gZ (ic (i:=4) nd rfl (Or.inl rfl) (hU (XM T ht) hr (b_ (pv 0) (b_ (pv 1) d_))))
   (g9 (hJ (mB (iq l0 (pv 4) iM (ig _)) iM (jk (w9 T) (hr.mono (by decide)) (b_ (pv 4) (b_ (pv 2) d_)))))))),?_⟩
  dsimp only[il]
  have kg:=hq
  obtain⟨dq,n,l,g1,g2,g3⟩:=hq
  have T1:=v8 hc (λf hf=>(hk.ratio B hf).1) jZ
  have TN:=EC jZ
  rw[zY]at k
  refine(a_ rfl (a_ rfl (hX rfl g1 T.n_.cl T.xf rfl ⟨bk,d,b,kvs,l,x.2,rfl,B,g3,hk,λlp H1 s1 h1=>?_⟩)))
  have q_:xQ H1 lp (jf (Vaunia.bases b) fw).powers:=by
   show H1 lp=_
   rw[h1]
   unfold jf
   simp only[bu]
   congr 2
   exact d6 λy _=>by show V.int _=V.int _;rw[<-TN y]
  have ni:=sm B
  have i9:(jf (Vaunia.bases b) fw).powers.length<=40:=by show((Vaunia.bases b).map fw.2).length<=40;rw[ab];exact ni
  generalize sJ:(jf (Vaunia.bases b) fw).powers=ks at k q_ i9
  refine(a_ rfl ⟨lp,rfl,⟨_,f_.of q_⟩,λD hD=>mq (xs:=ks.map V.int) (λi U=>kY H1 D ((ks.take i).map λk=>V.bl (decide (99<k.natAbs))) U) (lZ hD) (λi U _ p=>f_.of (p.1 _ _ q_)) (λi v U hx p=>?_) (λU p=>?_)⟩)
  ·obtain⟨z,hz,rfl⟩:=i8 hx
   have hi:=ja hz
   refine(⟨rfl,a_ rfl ⟨z,rfl,h9 rfl rfl ?_⟩⟩)
   refine lY hD p (c_.refl _) (by rw[ab,aB];exact iV (by omega)) ?_
   rw[take_snoc hz,au]
   have e:decide ((99:Int)<if z<0 then -z else z)=decide (99<z.natAbs):=by
    rw[aH,ak,ak]
    split<;>omega
   simp only[aO,dY,<-e]
  ·have p2:=p.2
   rw[ab,aP]at p2
   refine⟨D,ks.map λk=>decide (99<k.natAbs),rfl,f_.of (by rw[p2,bu];rfl),_,rfl,?_⟩
   cases ET:(ks.map λk=>decide (99<k.natAbs)).any id with
   | true=>
    rw[ET]at k
    exact iu (k _ _ (s1.trans p.1) rfl)
   | false=>
    rw[ET]at k
    have s2:=s1.trans p.1
    refine iz (a_ rfl (a_ rfl ⟨bk,d,b,kvs,_,x,rfl,B.same s2,kg.same s2,hk,hc,iJ,lH.of λv H3 s3 hv=>?_⟩))
    rw[<-T1]at hv
    unfold pK at hv
    cases mR:Vaunia.near fw.1 with
    | false=>
     rw[mR]at hv
     have er:Vaunia.near (jf (Vaunia.bases b) fw).ratio=false:=mR
     rw[er]at k
     have hv:v= .ia:=hv
     subst hv
     exact⟨_,rfl,rfl,_,rfl,iu (k _ _ (s2.trans s3) rfl)⟩
    | true=>
     rw[mR]at hv
     have er:Vaunia.near (jf (Vaunia.bases b) fw).ratio=true:=mR
     rw[er]at k
     obtain⟨pr,rfl,oN⟩:=hv
     refine(a_ rfl ⟨rfl,a_ rfl (iz (a_ rfl (a_ rfl ⟨rfl,λy dy hy iY iJ=>?_⟩)))⟩)
     have s4:=c_.jc (o:=.ins a.ox dy (uJ [.ref pr,.ref lp])) (o':=.own y) hy iY
     refine k _ _ ((s2.trans s3).trans s4) ⟨y,rfl,dy,pr,lp,e_,oN.same s4,?_⟩
     rw[sJ]
     exact s4 _ _ (s3 _ _ (p.1 _ _ q_))
noncomputable def YG(a:hC):Sp:=λvs H R _=>∃p q v x,vs=[.ref p,.ref q]/\jx a H p v/\jx a H q x/\R (.bl (Vaunia.alike v x)) H
theorem zx(T:Txt K mg a):Callee P w K mg base 1 "are_alike" ["a","b"] (YG a):=by
 refine T.Og.ok aaD (λvs H Q E h=>?_) (λf h8 A outer s H vs Q E hr h=>?_)
 ·obtain⟨_,_,_,_,rfl,_⟩:=h
  rfl
 ·obtain⟨p,q,v,x,rfl,⟨dx,lr,lp,h1,h2,h3⟩,⟨dy,mr,mp,g1,g2,g3⟩,k⟩:=h
  refine⟨_,g9 (hJ (kF (zD hr.units) (hG (pv 0) rfl) (hG (pv 1) rfl) (ig _))),?_⟩
  dsimp only[il]
  refine(a_ rfl (hX rfl h1 T.jo.cl T.nB rfl (a_ rfl (hX rfl g1 T.jo.cl T.nB rfl ⟨.list (v.powers.map .int),.list (x.powers.map .int),.lst (f_.of h3) (oB _),.lst (f_.of g3) (oB _),shaped_ints _,shaped_ints _,?_⟩))))
  have e:decide (v.powers=x.powers)=Vaunia.alike v x:=by
   unfold Vaunia.alike
   rw[aH,ak,dM]
  rw[yt,e]
  exact k
end
noncomputable def xS(a:hC)(H:Hp)(p:Addr)(t:List UInt8):Except Int Vaunia.Worth->Prop
 | .error e=>∃dx,H p=some (.ins a.qQ dx [("refusal",.int e),("quantity",.ia),("worth",.ia)])
 | .ok v=>∃dx pq pw x,H p=some (.ins a.qQ dx [("refusal",.int 0),("quantity",.ref pq),("worth",.ref pw)])/\p8 a H pq x/\Vaunia.quantityOf t=some x/\jx a H pw v
theorem xS.same{a:hC}{H U:Hp}{p:Addr}{t:List UInt8}{r:Except Int Vaunia.Worth}(h:xS a H p t r)(s:c_ H U):xS a U p t r:=by
 cases r with
 | error e=>obtain⟨dx,h⟩:=h;exact⟨dx,s _ _ h⟩
 | ok v=>obtain⟨dx,pq,pw,x,h1,h2,h3,h4⟩:=h;exact⟨dx,pq,pw,x,s _ _ h1,h2.same s,h3,h4.same s⟩
theorem mY{b:Vaunia.Book}{sg:Bool}{t:List UInt8}{e:Int}(h:Vaunia.reading b sg t= .error e):e<0:=by
 rw[zO]at h
 split at h
 ·injection h with h;omega
 ·split at h
  ·injection h with h;omega
  ·split at h
   ·injection h with h;omega
   ·split at h
    ·injection h with h;omega
    ·cases h
theorem xY.of{a:hC}{H:Hp}{R:VK}{o:Option (Q×List Vaunia.Factor)}(h0:o=none->∀U,c_ H U->R .ia U)(h1:∀x,o=some x->∀p U,c_ H U->p8 a U p x->R (.ref p) U):xY a H R o:=by
 cases o with
 | none=>exact h0 rfl
 | some x=>exact h1 x rfl
section
variable{P:Program}{w:World}{K:Fg}{mg:Str->Option Value}{base:Heap}{a:hC}
noncomputable def ZL(K:Fg)(a:hC):Sp:=λvs H R _=>∃bk d b kvs l t sg,vs=[.ref bk,.ref l,.bl sg]/\iB a H bk d b kvs/\f_ K H l (bv t)/\∀p U,c_ H U->xS a U p t (Vaunia.reading b sg t)->R (.ref p) U
theorem oT(T:Txt K mg a)(ht:P.given.tree=none):Callee P w K mg base 40 "reading_of" ["book","text","any_number"] (ZL K a):=by
 refine T.PK.ok LA (λvs H Q E h=>?_) (λf h8 A outer s H vs Q E hr h=>?_)
 ·obtain⟨_,_,_,_,_,_,_,rfl,_⟩:=h
  rfl
 ·obtain⟨bk,d,b,kvs,l,t,sg,rfl,B,hl,k⟩:=h
  have nd:=LA.nd
  have jR:jy 2 _:=hr.mono (by decide)
  refine⟨_,gZ (ic (i:=3) nd rfl (Or.inl rfl) (hU (Hs T ht) hr (b_ (pv 1) d_)))
   (gZ (iw (iq l0 (pv 3) iM (ig _)) (g9 (hJ (jk (w8 T) jR (b_ (iD T.RK) (b_ iM (b_ iM d_)))))) iy)
   (gZ (iw (xC (iq rN (hG (hG (pv 3) rfl) rfl) ij (ig _)) (xD (lD (ju (pv 2) (λ_=>rfl))))).pt (g9 (hJ (jk (w8 T) jR (b_ (iD T.RG) (b_ iM (b_ iM d_)))))) iy)
   (gZ (iw (lD (ju (hU (Xv T) (hr.mono (by decide)) (b_ (pv 0) (b_ (hG (pv 3) rfl) d_))) (λ_=>rfl))) (g9 (hJ (jk (w8 T) jR (b_ (iD T.RZ) (b_ iM (b_ iM d_)))))) iy)
   (gZ (ic (i:=4) nd rfl (Or.inl rfl) (hU (Hz T ht) (hr.mono (by decide)) (b_ (pv 0) (b_ (pv 3) d_))))
   (gZ (iw (iq l0 (pv 4) iM (ig _)) (g9 (hJ (jk (w8 T) jR (b_ (iD T.RW) (b_ iM (b_ iM d_)))))) iy)
   (g9 (hJ (jk (w8 T) jR (b_ ij (b_ (pv 3) (b_ (pv 4) d_))))))))))),?_⟩
  dsimp only[il]
  rw[zO]at k
  refine(a_ rfl ⟨l,t,rfl,hl,xY.of (λe H1 s1=>?_) (λx e pq H1 s1 hq=>?_)⟩)
  ·rw[e]at k
   exact(a_ rfl ⟨rfl,a_ rfl (iu ⟨rfl,λy dy hy iY iJ=>k _ _ (s1.trans (c_.jc hy iY)) ⟨dy,e_⟩⟩)⟩)
  ·obtain⟨q,fs⟩:=x
   obtain⟨o1,o2,o3,o4⟩:=C3 e
   have uq:=e
   rw[e]at k
   simp only at k o1 o2 o3 o4
   have kg:=hq
   obtain⟨dq,n,lf,g1,⟨dn,g2⟩,g3⟩:=hq
   have B1:=B.same s1
   refine(a_ rfl ⟨rfl,a_ rfl (iz ?_)⟩)
   dsimp only[My,pW,pU]
   refine zV (b1:=decide (q.num<=0)) (b2:=!sg) (λR hR=>⟨_,rfl,pq,_,dq,_,_,rfl,g1,T.n_.cl,T.uL,rfl,n,_,dn,_,_,rfl,g2,T.iQ.cl,T.jN,rfl,_,_,rfl,rfl,_,rfl,hR⟩) (λR hR=>⟨_,rfl,_,rfl,hR⟩) ?_
   rw[Bool.and_comm]
   refine iU (λc=>?_) (λc=>?_)
   ·rw[aE c]at k
    exact⟨rfl,λy dy hy iY iJ=>k _ _ (s1.trans (c_.jc hy iY)) ⟨dy,e_⟩⟩
   ·rw[aq c]at k
    refine⟨_,rfl,_,rfl,pq,_,dq,_,_,rfl,g1,T.n_.cl,T.xf,rfl,bk,d,b,kvs,lf,fs,rfl,B1,g3,o3,λH2 iI=>⟨_,rfl,?_⟩⟩
    have s2:=s1.trans iI
    cases jq:fs.all λf=>decide (f.1∈b.map (·.name)) with
    | false=>
     have rf:jJ (iE b) q fs=none:=by
      refine A2 ?_
      rw[B.ok.wf.names]
      have:¬(fs.all λf=>decide (f.1∈b.map (·.name)))=true:=by rw[jq];exact ao
      rw[cx]at this
      refine cj λz=>this λf hf=>ah (cj λz2=>z ⟨f,hf,z2⟩)
     rw[rf]at k
     exact iu ⟨rfl,λy dy hy iY iJ=>k _ _ (s2.trans (c_.jc hy iY)) ⟨dy,e_⟩⟩
    | true=>
     have pA:Known b fs:=⟨o3,o4,λf hf=>aL (cx.mp jq f hf)⟩
     obtain⟨fw,jZ⟩:=v9 (m:=iE b) (q:=q) (fs:=fs) λf hf=>by rw[B.ok.wf.names];exact pA.2.2 f hf
     rw[jZ]at k
     simp only at k
     have kK:=kg.same iI
     refine iz (a_ rfl (a_ rfl ⟨bk,d,b,kvs,pq,(q,fs),fw,rfl,B.same s2,kK,pA,o2,o1,jZ,λv H3 s3 hv=>?_⟩))
     cases lX:Vaunia.tooFar (jf (Vaunia.bases b) fw) with
     | true=>
      rw[lX]at k hv
      have hv:v= .ia:=hv
      subst hv
      exact⟨_,rfl,rfl,_,rfl,iu ⟨rfl,λy dy hy iY iJ=>k _ _ ((s2.trans s3).trans (c_.jc hy iY)) ⟨dy,e_⟩⟩⟩
     | false=>
      rw[lX]at k hv
      obtain⟨pw,rfl,TV⟩:=hv
      refine(a_ rfl ⟨rfl,a_ rfl (iz (a_ rfl (a_ rfl ⟨rfl,λy dy hy iY iJ=>?_⟩)))⟩)
      have s4:=c_.jc (o:=.ins a.qQ dy (GB [.int 0,.ref pq,.ref pw])) (o':=.own y) hy iY
      exact k _ _ ((s2.trans s3).trans s4) ⟨dy,pq,pw,(q,fs),e_,(kK.same s3).same s4,uq,TV.same s4⟩
noncomputable def xR(a:hC)(H:Hp)(p:Addr)(b:Vaunia.Book)(sg:Bool)(t u:List UInt8):Prop:=match Vaunia.reading b sg t with
 | .error e=>∃dx,H p=some (.ins a.nR dx [("refusal",.int e),("first",.ia),("second",.ia)])
 | .ok v=>match Vaunia.reading b false u with
  | .error e=>∃dx,H p=some (.ins a.nR dx [("refusal",.int e),("first",.ia),("second",.ia)])
  | .ok x=>if Vaunia.alike v x then ∃dx r1 r2,H p=some (.ins a.nR dx [("refusal",.int 0),("first",.ref r1),("second",.ref r2)])/\iN a H r1 v.ratio/\iN a H r2 x.ratio
   else ∃dx,H p=some (.ins a.nR dx [("refusal",.int (-10)),("first",.ia),("second",.ia)])
noncomputable def Zy(K:Fg)(a:hC):Sp:=λvs H R _=>∃bk d b kvs l m t u sg,vs=[.ref bk,.ref l,.ref m,.bl sg]/\iB a H bk d b kvs/\f_ K H l (bv t)/\f_ K H m (bv u)/\∀p U,c_ H U->xR a U p b sg t u->R (.ref p) U
theorem Ho(T:Txt K mg a)(ht:P.given.tree=none):Callee P w K mg base 41 "pair_reading_of" ["book","a","b","any_number"] (Zy K a):=by
 refine T.Pp.ok Ln (λvs H Q E h=>?_) (λf h8 A outer s H vs Q E hr h=>?_)
 ·obtain⟨_,_,_,_,_,_,_,_,_,rfl,_⟩:=h
  rfl
 ·obtain⟨bk,d,b,kvs,l,m,t,u,sg,rfl,B,hl,hm,k⟩:=h
  have nd:=Ln.nd
  have jR:jy 2 _:=hr.mono (by decide)
  refine⟨_,gZ (ic (i:=4) nd rfl (Or.inl rfl) (hU (oT T ht) hr (b_ (pv 0) (b_ (pv 1) (b_ (pv 3) d_)))))
   (gZ (iw (iq kN (hG (pv 4) rfl) ij (ig _)) (g9 (hJ (jk (zj T) jR (b_ (hG (pv 4) rfl) (b_ iM (b_ iM d_)))))) iy)
   (gZ (ic (i:=5) nd rfl (Or.inl rfl) (hU (oT T ht) hr (b_ (pv 0) (b_ (pv 2) (b_ l6 d_)))))
   (gZ (iw (iq kN (hG (pv 5) rfl) ij (ig _)) (g9 (hJ (jk (zj T) jR (b_ (hG (pv 5) rfl) (b_ iM (b_ iM d_)))))) iy)
   (gZ (iw (lD (ju (hU (zx T) (hr.mono (by decide)) (b_ (hG (pv 4) rfl) (b_ (hG (pv 5) rfl) d_))) (λ_=>rfl))) (g9 (hJ (jk (zj T) jR (b_ (iD T.EF) (b_ iM (b_ iM d_)))))) iy)
   (g9 (hJ (jk (zj T) jR (b_ ij (b_ (hG (hG (pv 4) rfl) rfl) (b_ (hG (hG (pv 5) rfl) rfl) d_)))))))))),?_⟩
  dsimp only[il]
  refine(a_ rfl (a_ rfl (a_ rfl ⟨bk,d,b,kvs,l,t,sg,rfl,B,hl,λp1 H1 s1 h1=>?_⟩)))
  unfold xR at k
  cases e1:Vaunia.reading b sg t with
  | error e=>
   rw[e1]at k h1
   obtain⟨dx,h1⟩:=h1
   have jP:=mY e1
   refine(a_ rfl (hX rfl h1 T.iR.cl T.jt rfl (h9 rfl rfl (a_ rfl ?_))))
   rw[ah jP]
   exact iu ⟨_,rfl,p1,_,dx,_,_,rfl,h1,T.iR.cl,T.jt,rfl,rfl,λy dy hy iY iJ=>k _ _ (s1.trans (c_.jc hy iY)) ⟨dy,e_⟩⟩
  | ok v=>
   rw[e1]at k h1
   obtain⟨dx,pq,pw,x,h1,h2,h3,h4⟩:=h1
   refine(a_ rfl (hX rfl h1 T.iR.cl T.jt rfl (h9 rfl rfl (a_ rfl (iz ?_)))))
   refine(a_ rfl (a_ rfl ⟨bk,d,b,kvs,m,u,false,rfl,B.same s1,s1.seq hm,λp2 H2 s2 g1=>?_⟩))
   have iI:=s1.trans s2
   cases e2:Vaunia.reading b false u with
   | error e=>
    simp only[e2]at k g1
    obtain⟨dy,g1⟩:=g1
    have jP:=mY e2
    refine(a_ rfl (hX rfl g1 T.iR.cl T.jt rfl (h9 rfl rfl (a_ rfl ?_))))
    rw[ah jP]
    exact iu ⟨_,rfl,p2,_,dy,_,_,rfl,g1,T.iR.cl,T.jt,rfl,rfl,λy dz hy iY iJ=>k _ _ (iI.trans (c_.jc hy iY)) ⟨dz,e_⟩⟩
   | ok v2=>
    simp only[e2]at k g1
    obtain⟨dy,qq,qw,x2,g1,g2,g3,g4⟩:=g1
    refine(a_ rfl (hX rfl g1 T.iR.cl T.jt rfl (h9 rfl rfl (a_ rfl (iz ?_)))))
    have qk:=h4.same s2
    refine⟨_,rfl,p1,_,dx,_,_,rfl,s2 _ _ h1,T.iR.cl,T.k8,rfl,_,rfl,p2,_,dy,_,_,rfl,g1,T.iR.cl,T.k8,rfl,pw,qw,v,v2,rfl,qk,g4,_,rfl,?_⟩
    cases qo:Vaunia.alike v v2 with
    | false=>
     rw[qo]at k
     exact iu ⟨rfl,λy dz hy iY iJ=>k _ _ (iI.trans (c_.jc hy iY)) ⟨dz,e_⟩⟩
    | true=>
     rw[qo]at k
     obtain⟨dw,lr,lp,w1,w2,w3⟩:=qk
     obtain⟨dw2,zd,lp2,z1,z2,z3⟩:=g4
     refine iz (a_ rfl (hX rfl (s2 _ _ h1) T.iR.cl T.k8 rfl (hX rfl w1 T.jo.cl T.kM rfl (a_ rfl (hX rfl g1 T.iR.cl T.k8 rfl (hX rfl z1 T.jo.cl T.kM rfl ⟨rfl,λy dz hy iY iJ=>?_⟩))))))
     have s4:=c_.jc (o:=.ins a.nR dz (Gz [.int 0,.ref lr,.ref zd])) (o':=.own y) hy iY
     exact k _ _ (iI.trans s4) ⟨dz,lr,zd,e_,w2.same s4,z2.same s4⟩
end
theorem QT{b:Vaunia.Book}{e:Vaunia.Entry}{w:FW}(h:WF b)(he:mN (iE b) e=some w):ents (b++[e])=ents b++[(e,w)]:=by
 unfold ents
 have es:iE (b++[e])=iE b++[(e.name,w)]:=by rw[uc];unfold o_;rw[he]
 have hl:b.length=((iE b).map (·.2)).length:=by
  have:=cB List.length h.names
  rw[ab,ab]at this
  rw[ab];exact this.symm
 rw[es,au,List.zip_append hl];rfl
theorem Zip.filter{α β:Type}{R:α->β->Prop}{p:α->Bool}{q:β->Bool}:∀{xs:List α} {ys:List β},Zip R xs ys->(∀x y,R x y->p x=q y)->Zip R (xs.filter p) (ys.filter q)
 | [],[],_,_=>Zip.nil
 | [],y::ys,h,_=>by have:=h.1;simp at this
 | x::xs,[],h,_=>by have:=h.1;simp at this
 | x::xs,y::ys,h,m=>by
  have r:R x y:=h.2 0 x y rfl rfl
  have t:Zip R xs ys:=⟨by have:=h.1;simpa using this,λi a b h1 h2=>h.2 (i+1) a b (by simpa using h1) (by simpa using h2)⟩
  have ih:=Zip.filter t m
  rw[aY,aY,m x y r]
  split
  ·refine⟨by rw[ai,ai,ih.1],λi a b h1 h2=>?_⟩
   cases i with
   | zero=>
    have e1:=ae h1
    have e2:=ae h2
    rw[<-e1,<-e2];exact r
   | succ i=>exact ih.2 i a b (by simpa using h1) (by simpa using h2)
  ·exact ih
theorem MW(x:List UInt8):∀(b:Vaunia.Book) (m:List (List UInt8×FW)),m.map (·.1)=b.map (·.name)->
 (b.filter λe=>e.name != x).zip ((m.filter λp=>p.1 != x).map (·.2))=(b.zip (m.map (·.2))).filter λy=>y.1.name != x
 | [],[],_=>rfl
 | [],p::m,h=>by simp at h
 | e::b,[],h=>by simp at h
 | e::b,p::m,h=>by
  have h1:p.1=e.name:=by simpa using cB List.head? h
  have h2:m.map (·.1)=b.map (·.name):=by simpa using cB List.tail h
  have ih:=MW x b m h2
  by_cases c:e.name=x
  ·rw[aY,aq (by simp[c]),aY,aq (by simp[h1,c]),ih]
   show _=((e,p.2)::b.zip (m.map (·.2))).filter _
   rw[aY,aq (by simp[c])]
  ·rw[aY,aE (by simp[c]),aY,aE (by simp[h1,c])]
   show(e,p.2)::(b.filter _).zip ((m.filter _).map (·.2))=((e,p.2)::b.zip (m.map (·.2))).filter _
   rw[aY,aE (by simp[c]),ih]
theorem QQ{b:Vaunia.Book}(h:WF b){x:List UInt8}(hx:Vaunia.isNamed b x=false):ents (b.filter λe=>e.name != x)=(ents b).filter λy=>y.1.name != x:=by
 unfold ents
 rw[(h.forget hx).2]
 exact MW x b (iE b) h.names
theorem lg.snoc{b:Vaunia.Book}{e:Vaunia.Entry}{w:FW}(h:lg b)(hl:b.length<40)(hn:e.name∉b.map (·.name))(hr:e.isBase=false->∀f∈e.factors,f.1∈b.map (·.name))(he:mN (iE b) e=some w)
 (h1:Vaunia.isName e.name=true) (h2:si w) (h3:e.factors.length<=20/\∀f∈e.factors,rZ f) (h4:e.isBase=false->Pos e.number/\Vaunia.near e.number=true) (h5:e.isBase=true->e.factors=[]):lg (b++[e]):=by
 have es:iE (b++[e])=iE b++[(e.name,w)]:=by rw[uc];unfold o_;rw[he]
 have mem:∀{P:Vaunia.Entry->Prop},(∀d∈b,P d)->P e->∀d∈b++[e],P d:=λhb he d hd=>by
  rcases bg.mp hd with hd | hd
  ·exact hb d hd
  ·rw[bA.mp hd];exact he
 refine⟨.snoc h.wf hn hr,by rw[aj,aA];omega,mem h.nm h1,λp hp=>?_,mem h.fs h3,mem h.num h4,mem h.bs h5⟩
 rw[es]at hp
 rcases bg.mp hp with hp | hp
 ·exact h.ws p hp
 ·rw[bA.mp hp];exact h2
theorem lg.forget{b:Vaunia.Book}(h:lg b){x:List UInt8}(hx:Vaunia.isNamed b x=false):lg (b.filter λe=>e.name != x):=by
 obtain⟨w1,w2⟩:=h.wf.forget hx
 have mem:∀{P:Vaunia.Entry->Prop},(∀d∈b,P d)->∀d∈b.filter (λe=>e.name != x),P d:=λhb d hd=>hb d (cR.mp hd).1
 refine⟨w1,aN (cy _ _) h.mO,mem h.nm,λp hp=>?_,mem h.fs,mem h.num,mem h.bs⟩
 rw[w2]at hp
 exact h.ws p (cR.mp hp).1
theorem iB.fresh{a:hC}{H:Hp}{bk d:Addr}{b:Vaunia.Book}{kvs:List (List Key×V)}{x:List UInt8}(B:iB a H bk d b kvs)(hn:x∉b.map (·.name)):jD kvs (nk x)=none:=by
 have:=B.val x
 rw[az hn]at this
 cases h:jD kvs (nk x) with
 | none=>rfl
 | some v=>rw[h]at this;cases this
theorem iB.put{a:hC}{H H2:Hp}{bk d p:Addr}{b:Vaunia.Book}{kvs:List (List Key×V)}{e:Vaunia.Entry}{w:FW}(B:iB a H bk d b kvs)(hd:H d=some (.dT kvs))(s:c_ H H2)(ok:lg (b++[e]))(hn:e.name∉b.map (·.name))(he:mN (iE b) e=some w)(hp:lG a d H2 p e w):
 iB a (upd H2 d (.dT (putK kvs (nk e.name) (.ref p)))) bk d (b++[e]) (kvs++[(nk e.name,.ref p)]):=by
 have B2:=B.same s
 have hd2:=s _ _ hd
 obtain⟨dx,ho⟩:=B2.obj
 have hv:jD kvs (nk e.name)=none:=by
  have:=B.val e.name
  rw[az hn]at this
  cases h:jD kvs (nk e.name) with
  | none=>rfl
  | some v=>rw[h]at this;cases this
 have k:Kp d H2 (upd H2 d (.dT (putK kvs (nk e.name) (.ref p)))):=Kp.upd
 refine⟨ok,⟨dx,k _ _ (iC ho hd2 (by intro z;cases z)) ho⟩,.inl (by rw[e_,C1 _ hv]),?_⟩
 rw[QT B.ok.wf he]
 refine(B2.all.mono λx y ⟨e1,q,e2,r⟩=>⟨e1,q,e2,r.kp hd2 k⟩).snoc ⟨rfl,p,rfl,hp.kp hd2 k⟩
theorem iB.drop{a:hC}{H:Hp}{bk d:Addr}{b:Vaunia.Book}{kvs:List (List Key×V)}{x:List UInt8}(B:iB a H bk d b kvs)(hd:H d=some (.dT kvs))(hx:Vaunia.isNamed b x=false):
 iB a (upd H d (.dT (nc kvs (nk x)))) bk d (b.filter λe=>e.name != x) (nc kvs (nk x)):=by
 obtain⟨dx,ho⟩:=B.obj
 have k:Kp d H (upd H d (.dT (nc kvs (nk x)))):=Kp.upd
 refine⟨B.ok.forget hx,⟨dx,k _ _ (iC ho hd (by intro z;cases z)) ho⟩,.inl e_,?_⟩
 rw[QQ B.ok.wf hx]
 unfold nc
 refine(Zip.filter B.all λy z ⟨e1,_⟩=>?_).mono λy z ⟨e1,q,e2,r⟩=>⟨e1,q,e2,r.kp hd k⟩
 rw[e1,aH,ak,bne_iff_ne]
 exact⟨λh e=>h (by rw[e]),λh e=>h (xi e)⟩
section
variable{P:Program}{w:World}{K:Fg}{mg:Str->Option Value}{base:Heap}{a:hC}
noncomputable def Cg(us:List V):List (Str×V):=[("is_base",us.getD 0 .ia),("number",us.getD 1 .ia),("factors",us.getD 2 .ia),("ratio",us.getD 3 .ia),("powers",us.getD 4 .ia)]
theorem GD(T:Txt K mg a):Maker P w K mg base "Entry" a.ou 5 Cg:=by
 refine T.lO.maker aas rfl λf h8 A outer s H p us dx Q E hr hl hp q=>?_
 match us,hl with
 | [u1,u2,u3,u4,u5],_=>
  refine⟨_,gZ (jH (pv 0) (pv 1) rfl) (gZ (jH (pv 0) (pv 2) rfl) (gZ (jH (pv 0) (pv 3) rfl) (gZ (jH (pv 0) (pv 4) rfl) (g9 (jH (pv 0) (pv 5) rfl))))),?_⟩
  dsimp only[il]
  refine(a_ rfl (a_ rfl ⟨p,_,dx,a_ rfl ⟨hp,T.lO.cl,T.zo,(by show 0<1000;decide),?_⟩⟩))
  refine(a_ rfl (a_ rfl ⟨p,_,dx,a_ rfl ⟨e_,T.lO.cl,T.GK,(by show 1<1000;decide),?_⟩⟩))
  refine(a_ rfl (a_ rfl ⟨p,_,dx,a_ rfl ⟨e_,T.lO.cl,T.Ci,(by show 2<1000;decide),?_⟩⟩))
  refine(a_ rfl (a_ rfl ⟨p,_,dx,a_ rfl ⟨e_,T.lO.cl,T.xc,(by show 3<1000;decide),?_⟩⟩))
  refine(a_ rfl (a_ rfl ⟨p,_,dx,a_ rfl ⟨e_,T.lO.cl,T.GL,(by show 4<1000;decide),?_⟩⟩))
  rw[kn,kn,kn,kn]
  exact q
noncomputable def Y2(a:hC):Sp:=λvs H R _=>∃bk d b kvs n x,vs=[.ref bk,.ref n]/\iB a H bk d b kvs/\H d=some (.dT kvs)/\jC H n x/\x∈b.map (·.name)/\Vaunia.isNamed b x=false/\∀U lu,Kp d H U->U d=some (.dT lu)->iB a U bk d (b.filter λe=>e.name != x) lu->R .ia U
theorem Xg(T:Txt K mg a):Callee P w K mg base 1 "drop" ["book","name"] (Y2 a):=by
 refine T.OI.ok aaI (λvs H Q E h=>?_) (λf h8 A outer s H vs Q E hr h=>?_)
 ·obtain⟨_,_,_,_,_,_,rfl,_⟩:=h
  rfl
 ·obtain⟨bk,d,b,kvs,n,x,rfl,B,hd,hn,hx,kC,k⟩:=h
  refine⟨_,g9 (lR (Ye (mn hr) (hG (pv 0) rfl) (pv 1) ⟨rfl,rfl,rfl,rfl⟩)),?_⟩
  dsimp only[il]
  obtain⟨dx,ho⟩:=B.obj
  obtain⟨p,e,fw,hv,_⟩:=B.get hx
  refine(a_ rfl (hX rfl ho T.j0.cl T.ki rfl ⟨d,rfl,.inr ⟨kvs,.inl hd⟩,a_ rfl ⟨kvs,nk x,_,n,hd,rfl,by rw[kd];exact hn,hv,?_⟩⟩))
  exact k _ _ Kp.upd e_ (B.drop hd kC)
noncomputable def YB(a:hC):Sp:=λvs H R _=>∃bk d b kvs n x,vs=[.ref bk,.ref n]/\iB a H bk d b kvs/\H d=some (.dT kvs)/\jC H n x/\x∉b.map (·.name)/\Vaunia.isName x=true/\b.length<40/\∀U lu,Kp d H U->U d=some (.dT lu)->iB a U bk d (b++[⟨x,true,Vaunia.Q.one,[]⟩]) lu->R .ia U
theorem WT(T:Txt K mg a):Callee P w K mg base 3 "add_base" ["book","name"] (YB a):=by
 refine T.Oa.ok aaC (λvs H Q E h=>?_) (λf h8 A outer s H vs Q E hr h=>?_)
 ·obtain⟨_,_,_,_,_,_,rfl,_⟩:=h
  rfl
 ·obtain⟨bk,d,b,kvs,n,x,rfl,B,hd,hn,hx,kC,hl,k⟩:=h
  refine⟨_,g9 (Ih (mn hr) (hG (pv 0) rfl) (pv 1) (jk (GD T) hr (b_ l6 (b_ iM (b_ (iL d_) (b_ (jk (pJ T) hr (b_ ij (b_ ij d_))) (b_ (Yb (mn hr) (pv 1) ij) d_)))))) rfl),?_⟩
  dsimp only[il]
  refine⟨aU _,λlf Bl=>?_⟩
  have s1:=c_.new (o:=.lst []) Bl
  refine⟨rfl,λex qe hex SE iJ=>?_⟩
  have s2:=c_.jc (o:=.ins a.ow qe (sX [.int 1,.int 1])) (o':=.own ex) hex SE
  intro pd oM
  have s3:=c_.new (o:=.dT []) oM
  have rT:=(s1.trans s2).trans s3
  refine(a_ rfl ⟨.int 1,n,nk x,rfl,by rw[kd];exact rT _ _ hn,e_,?_⟩)
  have k4:Kp pd (upd (upd (upd (upd H lf (.lst [])) qe (.own ex)) ex (.ins a.ow qe (sX [.int 1,.int 1]))) pd (.dT [])) (upd (upd (upd (upd (upd H lf (.lst [])) qe (.own ex)) ex (.ins a.ow qe (sX [.int 1,.int 1]))) pd (.dT [])) pd (.dT [(nk x,.int 1)])):=Kp.upd
  have xl:H pd=none:=(s1.trans s2).free oM
  have s4:c_ H (upd (upd (upd (upd (upd H lf (.lst [])) qe (.own ex)) ex (.ins a.ow qe (sX [.int 1,.int 1]))) pd (.dT [])) pd (.dT [(nk x,.int 1)])):=Kp.same rT xl k4
  refine⟨rfl,λp dp hp nj Bo=>?_⟩
  have s5:=c_.jc (o:=.ins a.ou dp (Cg [.bl true,.ia,.ref lf,.ref ex,.ref pd])) (o':=.own p) hp nj
  obtain⟨dx,ho⟩:=B.obj
  have j7:=s4.trans s5
  have B5:=B.same j7
  refine(a_ rfl (hX rfl (j7 _ _ ho) T.j0.cl T.ki rfl (a_ rfl ⟨d,a_ rfl ⟨tK.t (k:=nk x) (j7 _ _ hd) (by rw[kd];exact j7 _ _ hn) (by rw[B.len];exact L8 (by omega)),?_⟩⟩)))
  have Co:pd≠d:=λz=>by rw[z,hd]at xl;cases xl
  have acM:j9 (upd (upd H lf (.lst [])) qe (.own ex)) lf []\/True:=.inr trivial
  have eW:si (Ek x):=⟨one_pos,by show Vaunia.near Vaunia.Q.one=true;decide,λm=>by show(if m == x then (1:Int) else 0).natAbs<=99;split<;>decide⟩
  have ok:lg (b++[⟨x,true,Vaunia.Q.one,[]⟩]):=B.ok.snoc hl hx (λh=>by cases h) rfl kC eW ⟨aU _,λf hf=>by simp at hf⟩ (λh=>by cases h) (λ_=>rfl)
  refine k _ _ (j7.kp.trans Kp.upd) (by rw[e_,C1 _ (B.fresh hx)]) (B.put hd j7 ok hx rfl ?_)
  have Wl:lf≠pd:=jB (s2 _ _ e_) oM
  have Wi:ex≠pd:=jB e_ oM
  refine⟨dp,.ia,lf,ex,pd,[(nk x,.int 1)],e_,?_,⟨[],?_,Zip.nil⟩,⟨qe,?_⟩,Co,s5 _ _ e_,λm=>?_⟩
  ·intro h;cases h
  ·exact s5 _ _ (k4 _ _ Wl (s3 _ _ (s2 _ _ e_)))
  ·exact s5 _ _ (k4 _ _ Wi (s3 _ _ e_))
  ·show(jD [(nk x,V.int 1)] (nk m)).getD (.int 0)= .int (if m == x then 1 else 0)
   by_cases c:m=x
   ·subst c
    rw[vf rfl];simp
   ·rw[ve (λz=>c (xi z).symm),acb]
    have:(m == x)=false:=by simpa using c
    rw[this];rfl
theorem M3{x:List UInt8}{f:List UInt8->Int}:∀(ns:List (List UInt8)),ns.Nodup->(jD ((ns.map nk).zip (ns.map λn=>V.int (f n))) (nk x)).getD (.int 0)=if x∈ns then .int (f x) else .int 0
 | [],_=>by rw[aq (by simp)];rfl
 | n::r,h=>by
  rw[cS]at h
  have ih:=M3 (x:=x) (f:=f) r h.2
  show(jD ((nk n,V.int (f n))::(r.map nk).zip (r.map λn=>V.int (f n))) (nk x)).getD (.int 0)=_
  by_cases c:n=x
  ·subst c
   rw[vf rfl,aE aD];rfl
  ·rw[ve (λz=>c (xi z)),ih]
   by_cases c2:x∈r
   ·rw[aE c2,aE (aw _ c2)]
   ·rw[aq c2,aq (λz=>(aM.mp z).elim (λe=>c e.symm) c2)]
theorem MY{α β:Type}{R:α->β->Prop}:∀{xs:List α} {ys:List β},xs.length=ys.length->(∀(i:Nat) (x:α) (y:β),xs[i]? =some x->ys[i]? =some y->R x y)->Paired R xs ys
 | [],[],_,_=>.nil
 | [],y::ys,h,_=>by simp at h
 | x::xs,[],h,_=>by simp at h
 | x::xs,y::ys,h,r=>.cons (r 0 x y rfl rfl) (MY (by simpa using h) λi a b h1 h2=>r (i+1) a b (by simpa using h1) (by simpa using h2))
theorem G5{α β:Type}{f:α->β}(hf:∀x y,f x=f y->x=y):∀{l:List α},l.Nodup->(l.map f).Nodup
 | [],_=>gu
 | x::r,h=>by
  rw[cS]at h
  rw[aO,cS]
  refine⟨λz=>?_,G5 hf h.2⟩
  obtain⟨y,hy,e⟩:=aQ.mp z
  rw[hf _ _ e]at hy
  exact h.1 hy
theorem NI{b:Vaunia.Book}(h:WF b):(Vaunia.bases b).Nodup:=by
 unfold Vaunia.bases
 exact(List.filter_sublist.map _).nodup h.nodup
noncomputable def YC(a:hC):Sp:=λvs H R _=>∃bk d b kvs n x pq y pw fw,vs=[.ref bk,.ref n,.ref pq,.ref pw]/\iB a H bk d b kvs/\H d=some (.dT kvs)/\jC H n x/\x∉b.map (·.name)/\Vaunia.isName x=true/\b.length<40/\
 p8 a H pq y/\Known b y.2/\Pos y.1/\Vaunia.near y.1=true/\jJ (iE b) y.1 y.2=some fw/\Vaunia.tooFar (jf (Vaunia.bases b) fw)=false/\jx a H pw (jf (Vaunia.bases b) fw)/\
 ∀U lu,Kp d H U->U d=some (.dT lu)->iB a U bk d (b++[⟨x,false,y.1,y.2⟩]) lu->R .ia U
theorem WU(T:Txt K mg a):Callee P w K mg base 3 "add_unit" ["book","name","quantity","worth"] (YC a):=by
 refine T.Ob.ok KD (λvs H Q E h=>?_) (λf h8 A outer s H vs Q E hr h=>?_)
 ·obtain⟨_,_,_,_,_,_,_,_,_,_,rfl,_⟩:=h
  rfl
 ·obtain⟨bk,d,b,kvs,n,x,pq,y,pw,fw,rfl,B,hd,hn,hx,kC,hl,hq,hk,ls,mR,jZ,lX,hw,k⟩:=h
  have nd:=KD.nd
  refine⟨_,gZ (ic (i:=4) nd rfl (Or.inl rfl) (X_ rfl hr.units T.NF T.vM (b_ (hU (zy T) (hr.mono (by decide)) (b_ (pv 0) d_)) (b_ (hG (pv 3) rfl) d_))))
   (g9 (Ih (mn hr) (hG (pv 0) rfl) (pv 1) (jk (GD T) hr (b_ l6 (b_ (hG (pv 2) rfl) (b_ (hG (pv 2) rfl) (b_ (hG (pv 3) rfl) (b_ (pv 4) d_)))))) rfl)),?_⟩
  dsimp only[il]
  have hw':=hw
  have kg:=hq
  obtain⟨dw,lr,lp,w1,w2,w3⟩:=hw
  obtain⟨dq,ln,lf,q1,q2,q3⟩:=hq
  refine(a_ rfl ⟨bk,d,b,kvs,rfl,B,λlb H1 s1 ⟨ps,jQ,jI⟩=>?_⟩)
  have ni:=sm B
  have yF:=NI B.ok.wf
  refine(a_ rfl (hX rfl (s1 _ _ w1) T.jo.cl T.nB rfl ⟨lb,lp,ps,(Vaunia.bases b).map nk,(Vaunia.bases b).map (λn=>V.int (fw.2 n)),rfl,f_.of jQ,?_,?_,?_,?_,λpd oM=>?_⟩))
  ·refine f_.of ?_
   rw[s1 _ _ w3]
   show some (HO.lst (((Vaunia.bases b).map fw.2).map V.int))=_
   rw[bu];rfl
  ·refine MY (jI.1.trans (ab _).symm) λi p kk h1 h2=>?_
   obtain⟨m,hm,rfl⟩:=i8 h2
   rw[kd]
   exact jI.2 i p m h1 hm
  ·exact G5 (λx y e=>xi e) yF
  ·rw[ab,ab]
  have s2:=c_.new (o:=.dT (((Vaunia.bases b).map nk).zip ((Vaunia.bases b).map λn=>V.int (fw.2 n)))) oM
  have iI:=s1.trans s2
  refine(a_ rfl (hX rfl (iI _ _ q1) T.n_.cl T.uL rfl (a_ rfl (hX rfl (iI _ _ q1) T.n_.cl T.xf rfl (a_ rfl (hX rfl (iI _ _ w1) T.jo.cl T.kM rfl (a_ rfl ⟨rfl,λp dp hp nj Bo=>?_⟩)))))))
  have s5:=c_.jc (o:=.ins a.ou dp (Cg [.bl false,.ref ln,.ref lf,.ref lr,.ref pd])) (o':=.own p) hp nj
  obtain⟨dx,ho⟩:=B.obj
  have j7:=iI.trans s5
  refine(a_ rfl (hX rfl (j7 _ _ ho) T.j0.cl T.ki rfl (a_ rfl ⟨d,a_ rfl ⟨tK.t (k:=nk x) (j7 _ _ hd) (by rw[kd];exact j7 _ _ hn) (by rw[B.len];exact L8 (by omega)),?_⟩⟩)))
  have Co:pd≠d:=λz=>by rw[z,s1 _ _ hd]at oM;cases oM
  have FN:=A3 (m:=iE b) (bs:=Vaunia.bases b) B.ok.wf.abo jZ
  rw[zY]at lX
  obtain⟨ux,sP⟩:=eV.mp lX
  have eW:si fw:=by
   refine⟨?_,(show Vaunia.near (jf (Vaunia.bases b) fw).ratio=true by simpa using sP),λm=>?_⟩
   ·rw[v8 ls.1 (λf hf=>(hk.ratio B hf).1) jZ]
    exact CZ (bL ls.1.1 (tP λg hg=>(hk.ratio B hg).1)) (Int.mul_pos ls.2 (by have:=Ai (m:=iE b) (fs:=y.2) λg hg=>(hk.ratio B hg).1;omega))
   ·by_cases c:m∈Vaunia.bases b
    ·have hh:¬(List.map (λk:Int=>decide (99<k.natAbs)) (jf (Vaunia.bases b) fw).powers).any id=true:=by rw[ux];exact ao
     rw[cZ]at hh
     refine cj λz=>hh ⟨true,aQ.mpr ⟨fw.2 m,aQ.mpr ⟨m,c,rfl⟩,ah (by omega)⟩,rfl⟩
    ·have:fw.2 m=0:=cj λz=>c (FN m z)
     rw[this];decide
  have ok:lg (b++[⟨x,false,y.1,y.2⟩]):=B.ok.snoc hl hx (λ_=>hk.2.2) jZ kC eW ⟨hk.1,hk.2.1⟩ (λ_=>⟨ls,mR⟩) (λh=>by cases h)
  refine k _ _ (j7.kp.trans Kp.upd) (by rw[e_,C1 _ (B.fresh hx)]) (B.put hd j7 ok hx jZ ?_)
  refine⟨dp,.ref ln,lf,lr,pd,_,e_,?_,q3.same j7,w2.same j7,Co,s5 _ _ e_,λm=>?_⟩
  ·exact λ_=>⟨ln,rfl,q2.same j7⟩
  ·rw[M3 _ yF]
   split
   ·rfl
   ·rename_i c
    have:fw.2 m=0:=cj λz=>c (FN m z)
    rw[this]
end
theorem acy{q:Q}(h:Pos q)(k:Int):Q.zpow q k=⟨(above q k:Nat),below q k⟩:=by
 rw[DG h]
 have hc:Nat.gcd (above q k) (below q k)=1:=by
  have h1:Nat.Coprime q.num.natAbs q.den:=h.1.2
  unfold above below
  split
  ·exact Nat.Coprime.pow _ _ h1
  ·exact Nat.Coprime.pow _ _ h1.symm
 exact rK (q:=⟨(above q k:Nat),below q k⟩) ⟨vO h k,hc⟩
theorem Iq{v:Vaunia.Worth}(h:Pos v.ratio)(k:Int):Vaunia.raised v k=⟨⟨(above v.ratio k:Nat),below v.ratio k⟩,v.powers.map λx=>k*x⟩:=by
 unfold Vaunia.raised
 rw[acy h]
noncomputable def mJ(a:hC)(bad:Addr->Prop)(H:Hp)(p:Addr)(v:Vaunia.Worth):Prop:=∃dx lr lp,¬bad lp/\H p=some (.ins a.ox dx [("ratio",.ref lr),("powers",.ref lp)])/\iN a H lr v.ratio/\xQ H lp v.powers
theorem mJ.F6{a:hC}{bad:Addr->Prop}{H:Hp}{p:Addr}{v:Vaunia.Worth}(h:mJ a bad H p v):jx a H p v:=by
 obtain⟨dx,lr,lp,_,h1,h2,h3⟩:=h
 exact⟨dx,lr,lp,h1,h2,h3⟩
theorem mJ.same{a:hC}{bad:Addr->Prop}{H U:Hp}{p:Addr}{v:Vaunia.Worth}(h:mJ a bad H p v)(s:c_ H U):mJ a bad U p v:=by
 obtain⟨dx,lr,lp,n,h1,h2,h3⟩:=h
 exact⟨dx,lr,lp,n,s _ _ h1,h2.same s,s _ _ h3⟩
theorem mJ.mono{a:hC}{bad vN:Addr->Prop}{H:Hp}{p:Addr}{v:Vaunia.Worth}(h:mJ a bad H p v)(m:∀b,vN b->bad b):mJ a vN H p v:=by
 obtain⟨dx,lr,lp,n,h1,h2,h3⟩:=h
 exact⟨dx,lr,lp,λz=>n (m _ z),h1,h2,h3⟩
theorem mJ.kp{a:hC}{bad:Addr->Prop}{H U:Hp}{p d:Addr}{v:Vaunia.Worth}{xs:List V}(h:mJ a bad H p v)(hb:bad d)(hd:H d=some (.lst xs))(k:Kp d H U):mJ a bad U p v:=by
 obtain⟨dx,lr,lp,n,h1,h2,h3⟩:=h
 exact⟨dx,lr,lp,n,k _ _ (iC h1 hd (by intro z;cases z)) h1,h2.uF hd k,k _ _ (λz=>n (z▸hb)) h3⟩
noncomputable def Mc(a:hC):Sp:=λvs H R _=>∃p v z,vs=[.ref p,.int z]/\jx a H p v/\Pos v.ratio/\Vaunia.near v.ratio=true/\v.powers.length<=40/\z.natAbs<=99/\∀p U,c_ H U->mJ a (λb=>H b≠none) U p (Vaunia.raised v z)->R (.ref p) U
section
variable{P:Program}{w:World}{K:Fg}{mg:Str->Option Value}{base:Heap}{a:hC}
noncomputable def Y3(a:hC):Sp:=λvs H R _=>∃bk d b kvs n x fw,vs=[.ref bk,.ref n]/\iB a H bk d b kvs/\jC H n x/\x∈b.map (·.name)/\jG (iE b) x=some fw/\∀p U,c_ H U->jx a U p (jf (Vaunia.bases b) fw)->R (.ref p) U
theorem Cz(T:Txt K mg a):Callee P w K mg base 3 "entry_worth" ["book","name"] (Y3 a):=by
 refine T.OJ.ok aaJ (λvs H Q E h=>?_) (λf h8 A outer s H vs Q E hr h=>?_)
 ·obtain⟨_,_,_,_,_,_,_,rfl,_⟩:=h
  rfl
 ·obtain⟨bk,d,b,kvs,n,x,fw,rfl,B,hn,hx,jT,k⟩:=h
  refine⟨_,g9 (hJ (jk (w9 T) hr (b_ (hG (uU (mn hr) (hG (pv 0) rfl) (pv 1) (λ_ _=>rfl)) rfl) (b_ (hU (Hq T) hr (b_ (pv 0) (b_ (iL (b_ (rQ (b_ (pv 1) (b_ ij d_))) d_)) d_))) d_)))),?_⟩
  dsimp only[il]
  obtain⟨dx,ho⟩:=B.obj
  obtain⟨pe,e,yy,hv,⟨lK,nv,lf,lr,pd,pk,e1,e2,e3,e4,e5⟩,wm,hw⟩:=B.get hx
  rw[jT]at wm
  have AN:fw=yy:=ae wm
  subst AN
  refine(a_ rfl (hX rfl ho T.j0.cl T.ki rfl (a_ rfl ⟨d,.ref pe,rfl,?_,hX rfl e1 T.lO.cl T.xc rfl ?_⟩)))
  ·rw[<-hv]
   exact j8.tr (k:=nk x) B.lI (by rw[kd];exact hn)
  refine(a_ rfl (a_ rfl ⟨by show 2<=sizeLine;decide,λp2 jA=>⟨by show 1<=sizeLine;decide,λl hl=>?_⟩⟩))
  have s1:=c_.new (o:=.tup [V.ref n,V.int 1]) jA
  have s2:=c_.new (o:=.lst [V.ref p2]) hl
  have iI:=s1.trans s2
  have kC:Vaunia.isName x=true:=by
   obtain⟨e,he,rfl⟩:=aQ.mp hx
   exact B.ok.nm e he
  refine⟨bk,d,b,kvs,l,[(x,1)],rfl,B.same iI,⟨[p2],e_,?_⟩,⟨by simp,λg hg=>?_,λg hg=>?_⟩,λp3 H3 s3 h3=>?_⟩
  ·refine Zip.snoc (xs:=[]) (ys:=[]) Zip.nil ⟨n,s2 _ _ e_,iI _ _ hn⟩
  ·rw[bA.mp hg];exact⟨kC,(by decide:(1:Int).natAbs<=99)⟩
  ·rw[bA.mp hg];exact hx
  ·refine⟨rfl,λy dy hy iY iJ=>?_⟩
   have s4:=c_.jc (o:=.ins a.ox dy (uJ [.ref lr,.ref p3])) (o':=.own y) hy iY
   have nL:=(iI.trans s3).trans s4
   refine k y _ nL ⟨dy,lr,p3,e_,e4.same nL,?_⟩
   show _=some (HO.lst (((Vaunia.bases b).map fw.2).map V.int))
   rw[s4 _ _ h3,bu]
   congr 2
   refine d6 λm _=>?_
   show V.int (([(x,(1:Int))].map λf=>f.2*nE (iE b) f.1 m).sum)=V.int (fw.2 m)
   have ep:nE (iE b) x m=fw.2 m:=by unfold nE;rw[jT];rfl
   simp[ep]
noncomputable def YH(a:hC):Sp:=λvs H R _=>∃p q v x,vs=[.ref p,.ref q]/\jx a H p v/\jx a H q x/\R (.bl (decide (v=x))) H
theorem WY(T:Txt K mg a):Callee P w K mg base 2 "are_equal" ["a","b"] (YH a):=by
 refine T.Oi.ok aaE (λvs H Q E h=>?_) (λf h8 A outer s H vs Q E hr h=>?_)
 ·obtain⟨_,_,_,_,rfl,_⟩:=h
  rfl
 ·obtain⟨p,q,v,x,rfl,hv,hx,k⟩:=h
  refine⟨_,g9 (hJ (tq (hU (zx T) hr (b_ (pv 0) (b_ (pv 1) d_))) (pO (hU (WZ T) hr (b_ (hG (pv 0) rfl) (b_ (hG (pv 1) rfl) d_)))))),?_⟩
  dsimp only[il]
  have oP:=hv
  have wK:=hx
  obtain⟨dv,lr,lp,v1,v2,v3⟩:=hv
  obtain⟨dx,mr,mp,x1,x2,x3⟩:=hx
  refine(a_ rfl (a_ rfl ⟨p,q,v,x,rfl,oP,wK,a_ rfl ?_⟩))
  obtain⟨vr,vp⟩:=v
  obtain⟨xr,xp⟩:=x
  refine iU (λc=>?_) (λc=>?_)
  ·have c:vp=xp:=by unfold Vaunia.alike at c;exact gN c
   refine(a_ rfl (hX rfl v1 T.jo.cl T.kM rfl (a_ rfl (hX rfl x1 T.jo.cl T.kM rfl ⟨lr,mr,vr,xr,rfl,v2,x2,?_⟩))))
   have e:decide (vr=xr)=decide ((⟨vr,vp⟩:Vaunia.Worth)=⟨xr,xp⟩):=by
    rw[aH,ak,ak,eL]
    exact⟨λh=>⟨h,c⟩,λh=>h.1⟩
   rw[e];exact k
  ·have c2:Vaunia.alike ⟨vr,vp⟩ ⟨xr,xp⟩=false:=bj.mpr c
   have e:decide ((⟨vr,vp⟩:Vaunia.Worth)=⟨xr,xp⟩)=false:=by
    refine az λh=>c ?_
    rw[eL]at h
    unfold Vaunia.alike
    rw[h.2];exact bY _
   rw[e]at k
   exact k
theorem XJ(T:Txt K mg a):Callee P w K mg base 4 "raised" ["worth","power"] (Mc a):=by
 refine T.PH.ok Ly (λvs H Q E h=>?_) (λf h8 A outer s H vs Q E hr h=>?_)
 ·obtain⟨_,_,_,rfl,_⟩:=h
  rfl
 ·obtain⟨p,v,z,rfl,⟨dv,lr,lp,v1,v2,v3⟩,ls,mR,hl,hz,k⟩:=h
  have nd:=Ly.nd
  refine⟨_,g9 (hJ (jk (w9 T) (hr.mono (by decide)) (b_ (hU (Hv T) hr (b_ (hG (pv 0) rfl) (b_ (pv 1) d_))) (b_ (lA (own:=[("each",2)]) rfl nd (kj (hG (pv 0) rfl)) (j_ rfl) (λ_ _ _ _ _=>iT (i:=2) nd rfl (Or.inl rfl)) (λ_ _ _ _ _=>kT)
   (λ_ _ _ _ _=>iH rO (pv 1) (pv 2))) d_)))),?_⟩
  dsimp only[il]
  have hq:=k9.mp mR
  rw[Iq ls]at k
  refine(a_ rfl (hX rfl v1 T.jo.cl T.kM rfl (a_ rfl ⟨lr,v.ratio,z,rfl,v2,ls.2,hq.1,hq.2,hz,λp2 H2 s2 h2=>?_⟩)))
  refine(a_ rfl (hX rfl (s2 _ _ v1) T.jo.cl T.nB rfl ⟨lp,rfl,⟨_,f_.of (s2 _ _ v3)⟩,λD hD=>mq (xs:=v.powers.map V.int) (λi U=>kY H2 D ((v.powers.take i).map λx=>V.int (z*x)) U) (lZ hD) (λi U _ p=>f_.of (p.1 _ _ (s2 _ _ v3))) (λi x U hx p=>?_) (λU p3=>?_)⟩))
  ·obtain⟨y,hy,rfl⟩:=i8 hx
   have hi:=ja hy
   refine(⟨rfl,a_ rfl (a_ rfl (h9 rfl rfl ⟨.inl ⟨by omega,by omega⟩,?_⟩))⟩)
   refine lY hD p (c_.refl _) (by rw[ab,aB];exact iV (by omega)) ?_
   rw[take_snoc hy,au];rfl
  ·have rP:=p3.2
   rw[ab,aP]at rP
   refine⟨rfl,λy dy hy iY iJ=>?_⟩
   have s4:=c_.jc (o:=.ins a.ox dy (uJ [.ref p2,.ref D])) (o':=.own y) hy iY
   refine k y _ ((s2.trans p3.1).trans s4) ⟨dy,p2,D,λq=>q (s2.free hD),e_,(h2.same p3.1).same s4,?_⟩
   show _=some (HO.lst ((v.powers.map λx=>z*x).map V.int))
   rw[s4 _ _ rP,bu];rfl
noncomputable def pQ(v x:Vaunia.Worth):Vaunia.Worth:=⟨Q.of (v.ratio.num*x.ratio.den) (v.ratio.den*x.ratio.num.natAbs),(v.powers.zip x.powers).map λy=>y.1-y.2⟩
noncomputable def Z3(a:hC):Sp:=λvs H R _=>∃p q v x,vs=[.ref p,.ref q]/\jx a H p v/\jx a H q x/\mK v.ratio/\mK x.ratio/\0<v.ratio.den/\0<x.ratio.num/\v.powers.length=x.powers.length/\v.powers.length<=40/\∀p U,c_ H U->jx a U p (pQ v x)->R (.ref p) U
theorem XY(T:Txt K mg a):Callee P w K mg base 5 "without" ["worth","part"] (Z3 a):=by
 refine T.Qa.ok LV (λvs H Q E h=>?_) (λf h8 A outer s H vs Q E hr h=>?_)
 ·obtain⟨_,_,_,_,rfl,_⟩:=h
  rfl
 ·obtain⟨p,q,v,x,rfl,⟨dv,lr,lp,v1,v2,v3⟩,⟨dx,mr,mp,x1,x2,x3⟩,mv,mx,Uk,qC,hlen,ue,k⟩:=h
  have nd:=LV.nd
  refine⟨_,gZ (uX (i:=2) (own:=[("whole",3),("taken",4)]) (g:=q5 K 2 (mf (jL 3) (mf (jL 4) qZ))) (wi:=FZ K (mG (lE K (jb 0) "powers") (mG (lE K (jb 1) "powers") pV))) rfl nd rfl rfl rfl (HS rfl T.vM (b_ (hG (pv 0) rfl) (b_ (hG (pv 1) rfl) d_))) (j_ rfl)
   (λ_ _ _ _ _=>nF rfl (jX (iT (i:=3) nd rfl (Or.inl rfl)) (jX (iT (i:=4) nd rfl (Or.inl rfl)) nG))) (λ_ _ _ _ _=>kT) (λ_ _ _ _ _=>iH xu (pv 3) (pv 4)))
   (g9 (hJ (jk (w9 T) (hr.mono (by decide)) (b_ (hU (xm T) hr (b_ (hG (pv 0) rfl) (b_ (hG (pv 1) rfl) d_))) (b_ (pv 2) d_))))),?_⟩
  dsimp only[il]
  refine(a_ rfl (hX rfl v1 T.jo.cl T.nB rfl (a_ rfl (hX rfl x1 T.jo.cl T.nB rfl ⟨lp,mp,_,a_ rfl ⟨f_.of v3,f_.of x3,λD hD=>Gg (xs:=v.powers.map V.int) (ys:=x.powers.map V.int) v.powers.length (ab _) (by rw[ab,hlen]) (λi U=>kY H D (((v.powers.zip x.powers).take i).map λy=>V.int (y.1-y.2)) U) (lZ hD) (λi U p=>⟨f_.of (p.1 _ _ v3),f_.of (p.1 _ _ x3)⟩) (λi y z U Tt hy hz p hT=>?_) (λU p3=>?_)⟩⟩))))
  ·obtain⟨y1,yY,rfl⟩:=i8 hy
   obtain⟨z1,BS,rfl⟩:=i8 hz
   have hi:=ja yY
   have BQ:(v.powers.zip x.powers)[i]? =some (y1,z1):=by rw[cH];exact⟨yY,BS⟩
   have sT:=c_.new (o:=.tup [V.int y1,V.int z1]) hT
   refine⟨Tt,_,rfl,iO.of e_,rfl,_,_,rfl,_,_,rfl,rfl,rfl,?_⟩
   refine⟨_,rfl,_,rfl,_,_,rfl,rfl,?_⟩
   refine lY hD p sT (by rw[ab,aB];exact iV (by omega)) ?_
   rw[take_snoc BQ,au];rfl
  ·have rP:=p3.2
   rw[cu (by rw[dD];omega)]at rP
   refine(a_ rfl (hX rfl (p3.1 _ _ v1) T.jo.cl T.kM rfl (a_ rfl (hX rfl (p3.1 _ _ x1) T.jo.cl T.kM rfl ⟨lr,mr,v.ratio,x.ratio,rfl,v2.same p3.1,x2.same p3.1,mv,mx,Uk,qC,λp4 H4 s4 h4=>?_⟩))))
   refine(a_ rfl ⟨rfl,λy dy hy iY iJ=>?_⟩)
   have s5:=c_.jc (o:=.ins a.ox dy (uJ [.ref p4,.ref D])) (o':=.own y) hy iY
   refine k y _ ((p3.1.trans s4).trans s5) ⟨dy,p4,D,e_,h4.same s5,?_⟩
   show _=some (HO.lst (((v.powers.zip x.powers).map λy=>y.1-y.2).map V.int))
   rw[s5 _ _ (s4 _ _ rP),bu];rfl
noncomputable def Zj(a:hC):Sp:=λvs H R _=>∃p v,vs=[.ref p]/\jx a H p v/\R (.bl (decide (v.ratio=Vaunia.Q.one/\v.powers.all (λk=>k == 0)=true))) H
theorem Xs(T:Txt K mg a):Callee P w K mg base 1 "is_plain_one" ["worth"] (Zj a):=by
 refine T.O5.ok aaU (λvs H Q E h=>?_) (λf h8 A outer s H vs Q E hr h=>?_)
 ·obtain⟨_,_,rfl,_⟩:=h
  rfl
 ·obtain⟨p,⟨⟨n,d⟩,ks⟩,rfl,⟨dv,lr,lp,v1,⟨de,v2⟩,v3⟩,k⟩:=h
  refine⟨_,g9 (hJ (tq (kF je (hG (hG (pv 0) rfl) rfl) ij (ig _)) (tq (kF je (hG (hG (pv 0) rfl) rfl) ij (ig _)) (pO (Yi (i7 (N5 rfl) (by rfl) T.vL (by decide +kernel) (b_ (hG (pv 0) rfl) d_))))))),?_⟩
  dsimp only[il]
  have ek:decide ((⟨n,d⟩:Vaunia.Q)=Vaunia.Q.one/\ks.all (λk=>k == 0)=true)=(decide (n=1)&&(decide (d=1)&&!(ks.any λk=>k != 0))):=by
   rw[aH]
   simp[Vaunia.Q.one,and_assoc]
  simp only at k
  rw[ek]at k
  refine(a_ rfl (hX rfl v1 T.jo.cl T.kM rfl (hX rfl v2 T.iQ.cl T.jN rfl ⟨rfl,a_ rfl ?_⟩)))
  have e1:decide (V.int n=V.int 1)=decide (n=1):=by
   rw[aH,ak,ak]
   exact⟨λh=>V.int.inj h,λh=>by rw[h]⟩
  have e2:decide (V.int ((d:Nat):Int)=V.int 1)=decide (d=1):=by
   rw[aH,ak,ak,V.int.injEq]
   omega
  simp only[e1,e2]
  refine iU (λc=>?_) (λc=>?_)
  ·rw[c,eI]at k
   refine(a_ rfl (hX rfl v1 T.jo.cl T.kM rfl (hX rfl v2 T.iQ.cl T.jM rfl ⟨rfl,a_ rfl ?_⟩)))
   simp only[e2]
   refine iU (λc=>?_) (λc=>?_)
   ·rw[c,eI]at k
    exact(a_ rfl (hX rfl v1 T.jo.cl T.nB rfl ⟨lp,ks,rfl,f_.of v3,a_ rfl k⟩))
   ·rw[bj.mpr c,fC]at k
    exact k
  ·rw[bj.mpr c,fC]at k
   exact k
end
noncomputable def qh(t:List UInt8):Option Int:=if 500<t.length then some 500 else match lx t with
 | none=>some 0
 | some _=>(jS 0 (ji t)).map λx=>(x.1:Int)
noncomputable def mo(b:Vaunia.Book)(x:Pc):Bool:=decide (x.2.2=[49])||match k6 x.2.2 with
 | some f=>decide (f.1∈b.map (·.name))
 | none=>false
noncomputable def rE(b:Vaunia.Book)(t:List UInt8):Option Int:=((ji t).find? λx=>!mo b x).map λx=>(x.1:Int)
theorem En:∀(ps:List (Bool×List UInt8)) (i place:Nat),i<=20->Vaunia.firstPiece (λp=>(Vaunia.factorOf p).isNone) i place ps=(jS i (placed place ps)).map (·.1)
 | [],i,place,_=>rfl
 | p::r,i,place,hi=>by
  show(if ((Vaunia.factorOf p).isNone||i == Vaunia.MOST_FACTORS)=true then some place else Vaunia.firstPiece _ (i+1) (place+p.2.length+1) r)=Option.map (·.1) (jS i ((place,p)::placed (place+p.2.length+1) r))
  rw[Ep]
  have e1:(Vaunia.factorOf p).isNone=!kD p.2:=by
   rw[<-BX p.1 p.2]
   cases Vaunia.factorOf (p.1,p.2)<;>rfl
  have e2:(i == Vaunia.MOST_FACTORS)=decide (20<=i):=by
   show(i == 20)=decide (20<=i)
   rw[aH,dM,ak];omega
  rw[e1,e2,Bool.or_comm]
  by_cases c:(decide (20<=i)||!kD p.2)=true
  ·rw[aE c,aE c];rfl
  ·rw[aq c,aq c]
   refine En r (i+1) _ ?_
   have:¬20<=i:=λh=>c (by rw[ah h];rfl)
   omega
theorem Eo(bad:Bool×List UInt8->Bool):∀(ps:List (Bool×List UInt8)) (i place:Nat),(ps=[]\/i+ps.length<=20)->Vaunia.firstPiece bad i place ps=((placed place ps).find? λx=>bad x.2).map (·.1)
 | [],i,place,_=>rfl
 | p::r,i,place,hi=>by
  have hi:i+(r.length+1)<=20:=by
   rcases hi with h | h
   ·cases h
   ·rw[ai]at h;exact h
  show(if (bad p||i == Vaunia.MOST_FACTORS)=true then some place else Vaunia.firstPiece bad (i+1) (place+p.2.length+1) r)=Option.map (·.1) (((place,p)::placed (place+p.2.length+1) r).find? λx=>bad x.2)
  have e2:(i == Vaunia.MOST_FACTORS)=false:=by
   show(i == 20)=false
   rw[bX];omega
  rw[e2,Bool.or_false,a8]
  cases hb:bad p with
  | true=>rfl
  | false=>
   show Vaunia.firstPiece bad (i+1) (place+p.2.length+1) r=_
   rw[Eo bad r (i+1) _ (.inr (by omega))]
theorem ab7{b:Vaunia.Book}(h:WF b)(x:Pc)(hf:kD x.2.2=true):Vaunia.unknownPiece (Vaunia.meanings b) x.2=!mo b x:=by
 unfold Vaunia.unknownPiece mo
 rw[show x.2=(x.2.1,x.2.2) from rfl,AR]
 by_cases c:x.2.2=[49]
 ·rw[aE c,ah c];rfl
 ·rw[aq c,az c,dZ]
  cases hn:k6 x.2.2 with
  | none=>unfold kD at hf;rw[az c,hn]at hf;cases hf
  | some f=>
   show(Vaunia.meaningOf (Vaunia.meanings b) f.1).isNone=!decide (f.1∈b.map (·.name))
   rw[sW,Ce]
   by_cases hm:f.1∈b.map (·.name)
   ·obtain⟨w,hw,_⟩:=AW (m:=iE b) (x:=f.1) (by rw[h.names];exact hm)
    rw[hw,ah hm];rfl
   ·rw[Eu (by rw[h.names];exact hm),az hm];rfl
theorem Q3{xs:List Pc}{f:Vaunia.Factor}(h:f∈lL xs):∃x∈xs,∃g,k6 x.2.2=some g/\x.2.2≠[49]/\f.1=g.1:=by
 unfold lL at h
 obtain⟨x,hx,e⟩:=eu.mp h
 unfold qf at e
 split at e
 ·cases e
 ·rename_i c
  cases hn:k6 x.2.2 with
  | none=>rw[hn]at e;cases e
  | some g=>
   rw[hn]at e
   have e:=ae e
   exact⟨x,hx,g,hn,c,by rw[<-e]⟩
theorem acV{xs:List Pc}{x:Pc}{g:Vaunia.Factor}(hx:x∈xs)(hn:k6 x.2.2=some g)(c:x.2.2≠[49]):∃f∈lL xs,f.1=g.1:=by
 refine⟨(g.1,if x.2.1 then -g.2 else g.2),eu.mpr ⟨x,hx,?_⟩,rfl⟩
 unfold qf
 rw[aq c,hn];rfl
theorem Q5{b:Vaunia.Book}(h:WF b)(t:List UInt8):Vaunia.faultOf b t=match qh t with
 | some p=>(1,p.toNat)
 | none=>match Vaunia.quantityOf t with
  | none=>(1,0)
  | some (q,fs)=>if q.num<=0 then (2,0) else match rE b t with
   | some p=>(3,p.toNat)
   | none=>match Vaunia.reading b false t with
    | .error _=>(4,0)
    | .ok _=>(0,0):=by
 unfold Vaunia.faultOf qh
 dsimp only
 by_cases hz:500<t.length
 ·rw[aE (show Vaunia.MOST_TEXT<t.length from hz),aE hz];rfl
 ·rw[aq (show ¬Vaunia.MOST_TEXT<t.length from hz),aq hz,C2 hz]
  have key:∀(nb:Option Q) (ms:Nat) (mt:List UInt8),lx t=nb->mstart t=ms->t.drop ms=mt->
   (match nb with
    | none=>((1:Nat),(0:Nat))
    | some q=>match Vaunia.firstPiece (λp=>(Vaunia.factorOf p).isNone) 0 ms (Vaunia.pieces false [] mt) with
     | some p=>(1,p)
     | none=>
      if q.num<=0 then (2,0)
      else match Vaunia.firstPiece (Vaunia.unknownPiece (Vaunia.meanings b)) 0 ms (Vaunia.pieces false [] mt) with
      | some p=>(3,p)
      | none=>match Vaunia.reading b false t with
       | .error _=>(4,0)
       | .ok _=>(0,0))=match (match lx t with
     | none=>some (0:Int)
     | some _=>(jS 0 (ji t)).map λ(x:Pc)=>(x.1:Int)) with
    | some p=>(1,p.toNat)
    | none=>match (match lx t with
     | none=>none
     | some q=>if (jS 0 (ji t)).isSome then none else some (q,lL (ji t))) with
     | none=>(1,0)
     | some (q,fs)=>if q.num<=0 then (2,0) else match rE b t with
      | some p=>(3,p.toNat)
      | none=>match Vaunia.reading b false t with
       | .error _=>(4,0)
       | .ok _=>(0,0):=by
   rintro nb ms mt rfl rfl rfl
   have e1:=En (Vaunia.pieces false [] (t.drop (mstart t))) 0 (mstart t) (by decide)
   rw[e1]
   have ep:placed (mstart t) (Vaunia.pieces false [] (t.drop (mstart t)))=ji t:=rfl
   rw[ep]
   cases lx t with
   | none=>rfl
   | some q=>
    dsimp only
    cases hw:jS 0 (ji t) with
    | some x=>rfl
    | none=>
     obtain⟨w1,w2⟩:=v7 _ _ hw
     have e2:=Eo (Vaunia.unknownPiece (Vaunia.meanings b)) (Vaunia.pieces false [] (t.drop (mstart t))) 0 (mstart t) (by
      rcases w2 with e | e
      ·left
       have hl:=xA (mstart t) (Vaunia.pieces false [] (t.drop (mstart t)))
       rw[ep,e,bQ]at hl
       exact f9 hl.symm
      ·right
       have hl:=xA (mstart t) (Vaunia.pieces false [] (t.drop (mstart t)))
       rw[ep]at hl
       omega)
     rw[e2,ep]
     have e3:(ji t).find? (λx=>Vaunia.unknownPiece (Vaunia.meanings b) x.2)=(ji t).find? λx=>!mo b x:=by
      have:∀xs:List Pc,(∀x∈xs,kD x.2.2=true)->xs.find? (λx=>Vaunia.unknownPiece (Vaunia.meanings b) x.2)=xs.find? λx=>!mo b x:=by
       intro xs FU
       induction xs with
       | nil=>rfl
       | cons x r ih=>
        rw[a8,a8,ab7 h x (FU x aD),ih λy hy=>FU y (aw _ hy)]
      exact this _ w1
     rw[e3]
     unfold rE
     dsimp only[Option.map,Option.isSome]
     rw[aq ao]
     dsimp only
     split
     ·rfl
     ·cases (ji t).find? λx=>!mo b x with
      | none=>rfl
      | some x=>rfl
  by_cases c:(32:UInt8)∈t
  ·obtain⟨j,h1,h2⟩:=qg c
   have hj:=ja h1
   rw[m_ h1 h2]
   dsimp only
   exact key (Vaunia.numberOf (t.take j)) ((t.take j).length+1) (t.drop (j+1)) (by unfold lx;rw[m_ h1 h2]) (by unfold mstart;rw[m_ h1 h2]) (by rw[aB,cT (aI hj)])
  ·rw[mM c]
   dsimp only
   exact key _ _ _ (by unfold lx;rw[mM c]) (by unfold mstart;rw[mM c]) rfl
section
variable{P:Program}{w:World}{K:Fg}{mg:Str->Option Value}{base:Heap}{a:hC}
theorem om.of{H:Hp}{R:VK}{o:Option Int}(h:∀U,c_ H U->R (oV o) U):om H R o:=by
 cases o with
 | none=>exact h
 | some k=>exact h
noncomputable def Y9(K:Fg):Sp:=λvs H R _=>∃l t,vs=[.ref l]/\f_ K H l (bv t)/\om H R (qh t)
theorem Xk(T:Txt K mg a)(ht:P.given.tree=none):Callee P w K mg base 39 "form_fault" ["text"] (Y9 K):=by
 refine T.OP.ok K_ (λvs H Q E h=>?_) (λf h8 A outer s H vs Q E hr h=>?_)
 ·obtain⟨_,_,rfl,_⟩:=h
  rfl
 ·obtain⟨l,t,rfl,hl,k⟩:=h
  have nd:=K_.nd
  refine⟨_,gZ (iw (iq ly (i7 ka (by rfl) T.jO aV (b_ (pv 0) d_)) (iD T.A6) (ig _)) (g9 (hJ (iD T.A6))) iy)
   (gZ (iw (iq l0 (hU (Hn T ht) hr (b_ (pv 0) d_)) iM (ig _)) (g9 (hJ ij)) iy)
   (gZ (ic (i:=1) nd rfl (Or.inl rfl) (hU (He T) (hr.mono (by decide)) (b_ (hU (CD T) (hr.mono (by decide)) (b_ (pv 0) d_)) d_)))
   (g9 (hJ (mB (iq l0 (pv 1) iM (ig _)) iM (hG (pv 1) rfl)))))),?_⟩
  dsimp only[il]
  refine(a_ rfl ⟨l,a_ rfl ⟨.inl hl,h9 rfl rfl (a_ rfl ?_)⟩⟩)
  rw[i_]
  unfold qh at k
  by_cases hz:500<t.length
  ·rw[aE hz]at k
   rw[ah (show(500:Int)<(t.length:Nat) by omega)]
   exact iu (k _ (c_.refl _))
  ·rw[aq hz]at k
   rw[az (show ¬(500:Int)<(t.length:Nat) by omega)]
   refine iz (a_ rfl ⟨l,t,rfl,hl,lH.of λv H1 s1 hv=>?_⟩)
   cases hn:lx t with
   | none=>
    rw[hn]at k hv
    have hv:v= .ia:=hv
    subst hv
    exact⟨rfl,_,rfl,iu (k _ s1)⟩
   | some q=>
    rw[hn]at k hv
    obtain⟨p,rfl,hp⟩:=hv
    simp only at k
    refine(⟨rfl,a_ rfl (iz (a_ rfl ⟨l,t,rfl,s1.seq hl,by omega,λpp H2 s2 mj=>(⟨pp,a_ rfl ⟨mj,(CO (by omega)).2,λv3 H3 s3 nu=>?_⟩⟩)⟩))⟩)
    have jY:=(s1.trans s2).trans s3
    cases hw:jS 0 (ji t) with
    | none=>
     rw[hw]at k nu
     have nu:v3= .ia:=nu
     subst nu
     exact⟨_,rfl,rfl,_,rfl,iu (k _ jY)⟩
    | some x=>
     rw[hw]at k nu
     obtain⟨p3,rfl,dx,q3,g1,g2⟩:=nu
     exact(a_ rfl ⟨rfl,a_ rfl (iz (a_ rfl (hX rfl g1 T.n9.cl T.Cm rfl (k _ jY))))⟩)
noncomputable def Zh(a:hC):Sp:=λvs H R _=>∃bk d b kvs p x,vs=[.ref bk,.ref p]/\iB a H bk d b kvs/\r9 a H p x/\x.2.2.length<=500/\kD x.2.2=true/\∀U,c_ H U->R (.bl (mo b x)) U
theorem Xq(T:Txt K mg a):Callee P w K mg base 6 "is_known" ["book","piece"] (Zh a):=by
 refine T.O2.ok aaS (λvs H Q E h=>?_) (λf h8 A outer s H vs Q E hr h=>?_)
 ·obtain⟨_,_,_,_,_,_,rfl,_⟩:=h
  rfl
 ·obtain⟨bk,d,b,kvs,p,x,rfl,B,⟨dx,q,h1,h2⟩,hz,hf,k⟩:=h
  refine⟨_,g9 (hJ (xx (kF (zD hr.units) (hG (pv 1) rfl) (iL (b_ (iD T.yA) d_)) (ig _)) (pO (HN (CN (mn hr) (mW y_ (hU (CA T) hr (b_ (hG (pv 1) rfl) d_)) ij (λ_ _=>rfl)) (hG (pv 0) rfl)) (by with_unfolding_all rfl))))),?_⟩
  dsimp only[il]
  refine(a_ rfl (hX rfl h1 T.n9.cl T.uK rfl ⟨by show 1<=sizeLine;decide,λo1 wB=>?_⟩))
  have s4:c_ H (upd H o1 (.lst [.int 49])):=c_.new wB
  refine(⟨.list ((x.2.2.map bz).map .int),.list (([49]:List Int).map .int),.lst (f_.of (s4 _ _ h2)) (by rw[qP];exact oB _),.lst (f_.of e_) (oB [49]),shaped_ints _,shaped_ints _,a_ rfl ?_⟩)
  rw[yt,AI]
  unfold mo at k
  unfold kD at hf
  refine iU (λc=>?_) (λc=>?_)
  ·rw[c,gU]at k
   exact k _ s4
  ·have c:=bj.mpr c
   rw[c,dZ]at k hf
   obtain⟨fa,yJ⟩:=cP.mp hf
   refine(a_ rfl (hX rfl (s4 _ _ h1) T.n9.cl T.uK rfl ⟨q,x.2.2,rfl,f_.of (s4 _ _ h2),hz,?_⟩))
   rw[yJ]at k ⊢
   rintro p5 H5 s5 ⟨n5,h5,h6⟩
   have j7:=s4.trans s5
   obtain⟨Qx,ho⟩:=B.obj
   have B5:=B.same j7
   refine⟨p5,_,_,_,rfl,rfl,iO.of h5,at_of (j:=0) rfl rfl,_,rfl,bk,_,Qx,_,_,rfl,j7 _ _ ho,T.j0.cl,T.ki,rfl,d,_,rfl,j8.tr (k:=nk fa.1) B5.lI (by rw[kd];exact h6),?_⟩
   have k:Q (.bl (decide (fa.1∈b.map (·.name)))) H5:=k _ j7
   rw[<-B.val]at k
   exact k
noncomputable def Zp(K:Fg)(a:hC):Sp:=λvs H R _=>∃bk d b kvs l t,vs=[.ref bk,.ref l]/\iB a H bk d b kvs/\f_ K H l (bv t)/\t.length<=500/\(∀x∈ji t,kD x.2.2=true)/\om H R (rE b t)
theorem Xy(T:Txt K mg a):Callee P w K mg base 7 "name_fault" ["book","text"] (Zp K a):=by
 refine T.Pd.ok Lg (λvs H Q E h=>?_) (λf h8 A outer s H vs Q E hr h=>?_)
 ·obtain⟨_,_,_,_,_,_,rfl,_⟩:=h
  rfl
 ·obtain⟨bk,d,b,kvs,l,t,rfl,B,hl,hz,hf,k⟩:=h
  have nd:=Lg.nd
  refine⟨_,gZ (lC aX rfl (kj (hU (CD T) (hr.mono (by decide)) (b_ (pv 1) d_))) (iT (i:=2) nd rfl (Or.inl rfl))
   (g9 (iw (lD (ju (hU (Xq T) hr (b_ (pv 0) (b_ (pv 2) d_))) (λ_=>rfl))) (g9 (hJ (hG (pv 2) rfl))) iy)))
   (g9 (hJ iM)),?_⟩
  dsimp only[il]
  refine(a_ rfl ⟨l,t,rfl,hl,hz,λpp H1 s1 ⟨ps,mj,zp⟩=>?_⟩)
  have hlen:=zp.1
  unfold rE at k
  have i9:=(CO hz).2
  generalize ji t=xs at k hf zp hlen i9
  refine⟨pp,rfl,⟨_,f_.of mj⟩,qY (K:=K) (a:=pp) (xs:=ps.map V.ref) (λi σ U=>∃r2:Option V,σ=[some (.ref bk),some (.ref l),r2]/\c_ H1 U/\xs.find? (λx=>!mo b x)=(xs.drop i).find? λx=>!mo b x)
   ⟨none,rfl,c_.refl _,rfl⟩ (λi σ U _ ⟨_,_,s2,_⟩=>f_.of (s2 _ _ mj)) ?_ ?_⟩
  ·rintro i x σ U hx ⟨r2,rfl,s2,e⟩
   obtain⟨p,hp,rfl⟩:=i8 hx
   obtain⟨y,hy,oK⟩:=zp.right hp
   rw[o9 hy,a8]at e
   have Fy:=oK.same s2
   have ke:=aG hy
   have iI:=s1.trans s2
   refine⟨_,rfl,_,rfl,bk,d,b,kvs,p,y,rfl,B.same iI,Fy,i9 _ ke,hf _ ke,λH3 s3=>⟨_,rfl,?_⟩⟩
   refine iU (λc=>?_) (λc=>?_)
   ·rw[c]at e
    rw[e]at k
    obtain⟨dx,q,g1,g2⟩:=Fy.same s3
    exact(a_ rfl (hX rfl g1 T.n9.cl T.Cm rfl (k _ (iI.trans s3))))
   ·rw[bj.mpr c]at e
    exact(a_ rfl ⟨s2.trans s3,e⟩)
  ·rintro σ U ⟨r2,rfl,s2,e⟩
   rw[ab,hlen,b0]at e
   rw[e]at k
   exact k _ (s1.trans s2)
noncomputable def Y7(K:Fg)(a:hC):Sp:=λvs H R _=>∃bk d b kvs l t,vs=[.ref bk,.ref l]/\iB a H bk d b kvs/\f_ K H l (bv t)/\∀p U,c_ H U->U p=some (.lst [.int ((Vaunia.faultOf b t).1:Nat),.int ((Vaunia.faultOf b t).2:Nat)])->R (.ref p) U
theorem Xj(T:Txt K mg a)(ht:P.given.tree=none):Callee P w K mg base 40 "fault_of" ["book","text"] (Y7 K a):=by
 refine T.ON.ok K8 (λvs H Q E h=>?_) (λf h8 A outer s H vs Q E hr h=>?_)
 ·obtain⟨_,_,_,_,_,_,rfl,_⟩:=h
  rfl
 ·obtain⟨bk,d,b,kvs,l,t,rfl,B,hl,k⟩:=h
  have nd:=K8.nd
  refine⟨_,gZ (ic (i:=2) nd rfl (Or.inl rfl) (hU (Xk T ht) hr (b_ (pv 1) d_)))
   (gZ (iw (iq zG (pv 2) iM (ig _)) (g9 (hJ (iL (b_ (iD T.Rm) (b_ (pv 2) d_))))) iy)
   (gZ (ic (i:=3) nd rfl (Or.inl rfl) (hU (Hs T ht) hr (b_ (pv 1) d_)))
   (gZ (iw (iq rN (hG (hG (pv 3) rfl) rfl) ij (ig _)) (g9 (hJ (iL (b_ (iD T.RM) (b_ ij d_))))) iy)
   (gZ (ic (i:=2) nd rfl (Or.inl rfl) (hU (Xy T) (hr.mono (by decide)) (b_ (pv 0) (b_ (pv 1) d_))))
   (gZ (iw (iq zG (pv 2) iM (ig _)) (g9 (hJ (iL (b_ (iD T.RC) (b_ (pv 2) d_))))) iy)
   (gZ (iw (iq l0 (hU (Hz T ht) (hr.mono (by decide)) (b_ (pv 0) (b_ (pv 3) d_))) iM (ig _)) (g9 (hJ (iL (b_ (iD T.R0) (b_ ij d_))))) iy)
   (g9 (hJ (iL (b_ (iD T.RI) (b_ ij d_))))))))))),?_⟩
  dsimp only[il]
  rw[Q5 B.ok.wf]at k
  have two:2<=sizeLine:=by decide
  refine(a_ rfl ⟨l,t,rfl,hl,om.of λH1 s1=>?_⟩)
  cases kz:qh t with
  | some z=>
   rw[kz]at k
   have BR:0<=z:=by
    unfold qh at kz
    split at kz
    ·have:=ae kz;omega
    ·split at kz
     ·have:=ae kz;omega
     ·cases hw:jS 0 (ji t) with
      | none=>rw[hw]at kz;cases kz
      | some x=>rw[hw]at kz;have:(x.1:Int)=z:=ae kz;omega
   refine(a_ rfl ⟨rfl,a_ rfl (iu (a_ rfl ⟨two,λp hp=>k p _ (s1.trans (c_.new hp)) ?_⟩))⟩)
   rw[e_]
   show some (HO.lst [V.int 1,V.int z])=some (HO.lst [V.int 1,V.int (z.toNat:Nat)])
   rw[gn BR]
  | none=>
   rw[kz]at k
   have hlen:¬500<t.length:=λh=>by unfold qh at kz;rw[aE h]at kz;cases kz
   obtain⟨q,Fq⟩:∃q,lx t=some q:=by
    unfold qh at kz
    rw[aq hlen]at kz
    cases hn:lx t with
    | none=>rw[hn]at kz;cases kz
    | some q=>exact⟨q,rfl⟩
   have hw:jS 0 (ji t)=none:=by
    unfold qh at kz
    rw[aq hlen,Fq]at kz
    cases hw:jS 0 (ji t) with
    | none=>rfl
    | some x=>rw[hw]at kz;cases kz
   have uq:Vaunia.quantityOf t=some (q,lL (ji t)):=by rw[C2 hlen,Fq,hw];rfl
   rw[uq]at k
   simp only at k
   obtain⟨o1,o2,o3,o4⟩:=C3 uq
   refine(a_ rfl ⟨rfl,a_ rfl (iz (a_ rfl ⟨l,t,rfl,s1.seq hl,?_⟩))⟩)
   rw[uq]
   intro pq H2 s2 hq
   have iI:=s1.trans s2
   have kg:=hq
   obtain⟨dq,n,lf,g1,⟨dn,g2⟩,g3⟩:=hq
   refine(a_ rfl (hX rfl g1 T.n_.cl T.uL rfl (hX rfl g2 T.iQ.cl T.jN rfl (h9 rfl rfl (a_ rfl ?_)))))
   refine iU (λc=>?_) (λc=>?_)
   ·rw[aE (by simpa using c)]at k
    exact⟨two,λp hp=>k p _ (iI.trans (c_.new hp)) e_⟩
   ·rw[aq (by simpa using c)]at k
    have jm:0<q.num:=by
     have:¬q.num<=0:=by simpa using c
     omega
    obtain⟨w1,w2⟩:=v7 _ _ hw
    refine(a_ rfl (a_ rfl ⟨bk,d,b,kvs,l,t,rfl,B.same iI,iI.seq hl,by omega,w1,om.of λH3 s3=>?_⟩))
    have jY:=iI.trans s3
    cases n0:rE b t with
    | some z=>
     rw[n0]at k
     have BR:0<=z:=by
      unfold rE at n0
      cases pj:(ji t).find? λx=>!mo b x with
      | none=>rw[pj]at n0;cases n0
      | some x=>rw[pj]at n0;have:(x.1:Int)=z:=ae n0;omega
     refine(a_ rfl ⟨rfl,a_ rfl (iu (a_ rfl ⟨two,λp hp=>k p _ (jY.trans (c_.new hp)) ?_⟩))⟩)
     rw[e_]
     show some (HO.lst [V.int 3,V.int z])=some (HO.lst [V.int 3,V.int (z.toNat:Nat)])
     rw[gn BR]
    | none=>
     rw[n0]at k
     have jq:∀f∈lL (ji t),f.1∈b.map (·.name):=λf hf=>by
      obtain⟨x,hx,g,hg,yG,e⟩:=Q3 hf
      have pj:(ji t).find? (λx=>!mo b x)=none:=by
       unfold rE at n0
       cases pj:(ji t).find? λx=>!mo b x with
       | none=>rfl
       | some x=>rw[pj]at n0;cases n0
      have pA:=List.find?_eq_none.mp pj x hx
      have pA:mo b x=true:=by simpa using pA
      unfold mo at pA
      rw[az yG,dZ,hg]at pA
      rw[e];exact aL pA
     have pA:Known b (lL (ji t)):=⟨o3,o4,jq⟩
     obtain⟨fw,jZ⟩:=v9 (m:=iE b) (q:=q) (fs:=lL (ji t)) λf hf=>by rw[B.ok.wf.names];exact jq f hf
     rw[zO,uq]at k
     simp only at k
     rw[aq (show ¬(!false&&decide (q.num<=0))=true by simp;omega),jZ]at k
     simp only at k
     refine(a_ rfl ⟨rfl,a_ rfl (iz (a_ rfl (a_ rfl ⟨bk,d,b,kvs,pq,(q,lL (ji t)),fw,rfl,B.same jY,kg.same s3,pA,o2,o1,jZ,λv H4 s4 hv=>?_⟩)))⟩)
     have Dh:=jY.trans s4
     cases lX:Vaunia.tooFar (jf (Vaunia.bases b) fw) with
     | true=>
      rw[lX]at k hv
      have hv:v= .ia:=hv
      subst hv
      exact⟨rfl,_,rfl,iu ⟨two,λp hp=>k p _ (Dh.trans (c_.new hp)) e_⟩⟩
     | false=>
      rw[lX]at k hv
      obtain⟨pw,rfl,_⟩:=hv
      exact(⟨rfl,a_ rfl (iz ⟨two,λp hp=>k p _ (Dh.trans (c_.new hp)) e_⟩)⟩)
end
theorem Zip.insert{α β:Type}{R:α->β->Prop}{xs:List α}{ys:List β}{x:α}{y:β}(h:Zip R xs ys)(r:R x y)(i:Nat):Zip R (xs.take i++x::xs.drop i) (ys.take i++y::ys.drop i):=by
 have hl:=h.1
 refine⟨by simp only[aj,aB,ai,aR];omega,λj u v h1 h2=>?_⟩
 have l1:(xs.take i).length=(ys.take i).length:=by rw[aB,aB,hl]
 by_cases c:j<(xs.take i).length
 ·rw[cg c]at h1
  rw[cg (by omega)]at h2
  rw[aB]at c
  rw[List.getElem?_take_of_lt (by omega)]at h1 h2
  exact h.2 j u v h1 h2
 ·rw[bD (by omega)]at h1
  rw[bD (by omega),<-l1]at h2
  cases hj:j-(xs.take i).length with
  | zero=>
   rw[hj]at h1 h2
   have e1:x=u:=ae h1
   have e2:y=v:=ae h2
   rw[<-e1,<-e2];exact r
  | succ m=>
   rw[hj]at h1 h2
   have h1:(xs.drop i)[m]? =some u:=by simpa using h1
   have h2:(ys.drop i)[m]? =some v:=by simpa using h2
   rw[fq]at h1 h2
   exact h.2 _ u v h1 h2
noncomputable def lB(r:Q):List Q->Nat
 | []=>0
 | q::l=>if r.lt q then 0 else lB r l+1
theorem Ia(r:Q):∀l:List Q,lB r l<=l.length
 | []=>ax _
 | q::l=>by unfold lB;split;exact aU _;have:=Ia r l;rw[ai];omega
theorem zM(x:List UInt8×Vaunia.Worth):∀l:Vaunia.Meaning,Vaunia.putByRatio x l=l.take (lB x.2.ratio (l.map λy=>y.2.ratio))++x::l.drop (lB x.2.ratio (l.map λy=>y.2.ratio))
 | []=>rfl
 | y::r=>by
  unfold Vaunia.putByRatio
  rw[aO]
  unfold lB
  split
  ·rfl
  ·rw[zM x r];rfl
theorem YA{x y:List UInt8×Vaunia.Worth}{l:Vaunia.Meaning}(h:y∈Vaunia.putByRatio x l):y=x\/y∈l:=by
 rw[zM]at h
 rcases bg.mp h with h | h
 ·exact .inr (gb h)
 ·rcases aM.mp h with h | h
  ·exact .inl h
  ·exact .inr (fb h)
theorem Yz(x:List UInt8×Vaunia.Worth)(l:Vaunia.Meaning):(Vaunia.putByRatio x l).length=l.length+1:=by
 rw[zM]
 simp only[aj,aB,ai,aR]
 omega
theorem iB.Cd{a:hC}{H:Hp}{bk d:Addr}{b:Vaunia.Book}{kvs:List (List Key×V)}(B:iB a H bk d b kvs){i:Nat}{k:List Key}{v:V}(h:kvs[i]? =some (k,v)):
 ∃x fw,k=nk x/\(iE b)[i]? =some (x,fw)/\(Vaunia.meanings b)[i]? =some (x,jf (Vaunia.bases b) fw)/\x∈b.map (·.name)/\jG (iE b) x=some fw/\si fw:=by
 obtain⟨⟨e,fw⟩,hx,ek,_⟩:=B.all.right h
 obtain⟨b1,b2⟩:=t_ B.ok.wf hx
 simp only at ek b1 b2
 refine⟨e.name,fw,ek,b2,?_,aQ.mpr ⟨e,aG b1,rfl⟩,Et B.nodup b2,B.ok.ws _ (aG b2)⟩
 rw[sW]
 unfold nI
 rw[bN,b2];rfl
theorem zf{a:hC}{H:Hp}{bk d:Addr}{b:Vaunia.Book}{kvs:List (List Key×V)}(B:iB a H bk d b kvs):(Vaunia.meanings b).length=kvs.length:=by
 rw[sW]
 unfold nI
 rw[ab,B.len]
 have:=cB List.length B.ok.wf.names
 rw[ab,ab]at this
 exact this
theorem jC.unlock{U:Hp}{d q:Addr}{u:HO}{od:Obj}{kvs:List (List Key×V)}{x:List UInt8}(h:jC U q x)(hd:U d=some (.iF od (.dT kvs))):jC (upd U d u) q x:=by
 show upd U d u q=_
 rw[ip (iC h hd (by intro z;cases z))];exact h
section
variable{P:Program}{w:World}{K:Fg}{mg:Str->Option Value}{base:Heap}{a:hC}
noncomputable def Y4(a:hC):Sp:=λvs H R _=>∃bk d b kvs pw v,vs=[.ref bk,.ref pw]/\iB a H bk d b kvs/\H d=some (.dT kvs)/\jx a H pw v/\∀u U,c_ H U->(match Vaunia.firstNamed (Vaunia.meanings b) v with | none=>u= .ia | some x=>∃q,u= .ref q/\jC U q x)->R u U
theorem Xh(T:Txt K mg a):Callee P w K mg base 4 "equal_name" ["book","worth"] (Y4 a):=by
 refine T.OK.ok K5 (λvs H Q E h=>?_) (λf h8 A outer s H vs Q E hr h=>?_)
 ·obtain⟨_,_,_,_,_,_,rfl,_⟩:=h
  rfl
 ·obtain⟨bk,d,b,kvs,pw,v,rfl,B,hd,hw,k⟩:=h
  have nd:=K5.nd
  refine⟨_,gZ (C0 (lC aX rfl (CT (hG (pv 0) rfl)) (iT (i:=2) nd rfl (Or.inl rfl))
   (g9 (iw (ju (hU (WY T) (hr.mono (by decide)) (b_ (hU (Cz T) hr (b_ (pv 0) (b_ (pv 2) d_))) (b_ (pv 1) d_))) (λ_=>rfl)) (g9 (hJ (pv 2))) iy))))
   (g9 (hJ iM)),?_⟩
  dsimp only[il]
  obtain⟨dx,ho⟩:=B.obj
  have uN:=B.zw
  refine⟨d,_,hd,trivial,λod=>?_⟩
  have BL:=B.lock (od:=od) hd
  obtain⟨dx,qy⟩:=BL.obj
  have qA:jx a (upd H d (.iF od (.dT kvs))) pw v:=by
   obtain⟨dw,lr,lp,w1,w2,w3⟩:=hw
   have kp:Kp d H (upd H d (.iF od (.dT kvs))):=Kp.upd
   exact⟨dw,lr,lp,kp _ _ (iC w1 hd (by intro z;cases z)) w1,w2.kp hd kp,kp _ _ (iC w3 hd (by intro z;cases z)) w3⟩
  refine(a_ rfl (hX rfl qy T.j0.cl T.ki rfl ⟨d,od,rfl,.inr ⟨kvs,e_,?_⟩⟩))
  unfold Vaunia.firstNamed at k
  refine Ex (λi σ U=>∃r2:Option V,σ=[some (.ref bk),some (.ref pw),r2]/\c_ (upd H d (.iF od (.dT kvs))) U/\(Vaunia.meanings b).find? (λp=>decide (p.2=v))=((Vaunia.meanings b).drop i).find? λp=>decide (p.2=v)) ⟨none,rfl,c_.refl _,rfl⟩ (λi σ U _ ⟨_,_,s1,_⟩=>s1.locked) ?_ ?_
  ·rintro i kk vv σ U q jr ⟨r2,rfl,s1,e⟩ hq
   obtain⟨x,fw,rfl,_,hm,hx,jT,_⟩:=B.Cd jr
   rw[kd]at hq
   rw[o9 hm,a8]at e
   refine(a_ rfl (a_ rfl ⟨bk,d,b,kvs,q,x,fw,rfl,BL.same s1,hq,hx,jT,λp2 H2 s2 h2=>?_⟩))
   have iI:=s1.trans s2
   refine⟨_,rfl,p2,pw,_,v,rfl,h2,qA.same iI,_,rfl,?_⟩
   refine iU (λc=>?_) (λc=>?_)
   ·have c:decide (jf (Vaunia.bases b) fw=v)=true:=c
    simp only[c]at e
    rw[e]at k
    exact(a_ rfl ⟨iI.locked,k _ _ (iI.unlock hd) ⟨q,rfl,jC.unlock (s2 _ _ hq) iI.locked⟩⟩)
   ·have c:decide (jf (Vaunia.bases b) fw=v)=false:=bj.mpr c
    simp only[c]at e
    exact(a_ rfl ⟨iI,e⟩)
  ·rintro σ U ⟨r2,rfl,s1,e⟩
   rw[<-zf B,b0]at e
   rw[e]at k
   exact⟨s1.locked,k _ _ (s1.unlock hd) rfl⟩
noncomputable def ZC(a:hC):Sp:=λvs H R _=>∃(bk d:Addr) (b:Vaunia.Book) (kvs:List (List Key×V)) (l n:Addr) (x:List UInt8) (fw:FW) (ms:List (List UInt8×FW)),vs=[.ref bk,.ref l,.ref n]/\iB a H bk d b kvs/\p0 H l (ms.map (·.1))/\jC H n x/\x∈b.map (·.name)/\jG (iE b) x=some fw/\(∀y∈ms,y.1∈b.map (·.name)/\jG (iE b) y.1=some y.2)/\∀U,c_ H U->R (.int (lB fw.1 (ms.map λy=>y.2.1):Nat)) U
theorem XF(T:Txt K mg a):Callee P w K mg base 2 "place_by_ratio" ["book","names","name"] (ZC a):=by
 refine T.Pt.ok Lq (λvs H Q E h=>?_) (λf h8 A outer s H vs Q E hr h=>?_)
 ·obtain⟨_,_,_,_,_,_,_,_,_,rfl,_⟩:=h
  rfl
 ·obtain⟨bk,d,b,kvs,l,n,x,fw,ms,rfl,B,⟨ps,hl,zp⟩,hn,hx,jT,qx,k⟩:=h
  have nd:=Lq.nd
  refine⟨_,gZ (ic (i:=3) nd rfl (Or.inl rfl) (hG (uU (mn hr) (hG (pv 0) rfl) (pv 2) (λ_ _=>rfl)) rfl))
   (gZ (lC aX rfl (CS rfl T.Au (b_ (pv 1) d_)) (nF rfl (jX (iT (i:=4) nd rfl (Or.inl rfl)) (jX (iT (i:=5) nd rfl (Or.inl rfl)) nG)))
    (g9 (iw (ju (hU (Hh T) (hr.mono (by decide)) (b_ (pv 3) (b_ (hG (uU (mn hr) (hG (pv 0) rfl) (pv 5) (λ_ _=>rfl)) rfl) d_))) (λ_=>rfl)) (g9 (hJ (pv 4))) iy)))
   (g9 (hJ (i7 ka (by rfl) T.jO aV (b_ (pv 1) d_))))),?_⟩
  dsimp only[il]
  obtain⟨dx,ho⟩:=B.obj
  have hlen:=zp.1
  rw[ab]at hlen
  obtain⟨pe,e0,yy,hv,⟨lK,nv,lf,lr,pd,pk,e1,e2,e3,e4,e5⟩,wm,hw⟩:=B.get hx
  rw[jT]at wm
  have AN:fw=yy:=ae wm
  subst AN
  refine(a_ rfl (hX rfl ho T.j0.cl T.ki rfl (a_ rfl ⟨d,.ref pe,rfl,?_,hX rfl e1 T.lO.cl T.xc rfl ?_⟩)))
  ·rw[<-hv]
   exact j8.tr (k:=nk x) B.lI (by rw[kd];exact hn)
  refine(a_ rfl ⟨l,a_ rfl ⟨f_.of hl,AX (K:=K) (a:=l) (xs:=ps.map V.ref) (λi σ U=>∃r4 r5:Option V,σ=[some (.ref bk),some (.ref l),some (.ref n),some (.ref lr),r4,r5]/\c_ H U/\lB fw.1 (ms.map λy=>y.2.1)=i+lB fw.1 ((ms.drop i).map λy=>y.2.1))
   ⟨none,none,rfl,c_.refl _,by rw[fN,gT]⟩ (λi σ U _ ⟨_,_,_,s1,_⟩=>f_.of (s1 _ _ hl)) ?_ ?_⟩⟩)
  ·rintro i v σ U Tt uA ⟨r4,r5,rfl,s1,e⟩ hT
   obtain⟨p,hp,rfl⟩:=i8 uA
   obtain⟨y1,yY,sN⟩:=zp.right hp
   obtain⟨y,hy,rfl⟩:=i8 yY
   have sT:c_ U (upd U Tt (.tup [.int (i:Nat),.ref p])):=c_.new hT
   have oU:=s1.trans sT
   obtain⟨Ut,Uu⟩:=qx y (aG hy)
   have B1:=B.same oU
   obtain⟨HL,e02,A1,BN,⟨QH,nv2,lf2,zd,CP,pk2,g1,g2,g3,g4,g5⟩,E8,Um⟩:=B1.get Ut
   rw[Uu]at E8
   have QK:y.2=A1:=ae E8
   subst QK
   rw[o9 hy,aO]at e
   refine⟨Tt,_,rfl,iO.of e_,rfl,_,_,rfl,_,_,rfl,rfl,?_⟩
   refine⟨_,rfl,_,rfl,bk,_,dx,_,_,rfl,oU _ _ ho,T.j0.cl,T.ki,rfl,_,rfl,d,.ref HL,rfl,?_,HL,_,QH,_,_,rfl,g1,T.lO.cl,T.xc,rfl,lr,zd,fw.1,y.2.1,rfl,e4.same oU,g4,nA hw.2.1,nA Um.2.1,_,rfl,?_⟩
   ·rw[<-BN]
    exact j8.tr (k:=nk y.1) B1.lI (by rw[kd];exact oU _ _ sN)
   refine iU (λc=>?_) (λc=>?_)
   ·have ep:lB fw.1 (y.2.1::(ms.drop (i+1)).map λy=>y.2.1)=0:=by unfold lB;rw[aE c]
    rw[ep,Nat.add_zero]at e
    rw[e]at k
    exact(a_ rfl (k _ oU))
   ·have ep:lB fw.1 (y.2.1::(ms.drop (i+1)).map λy=>y.2.1)=lB fw.1 ((ms.drop (i+1)).map λy=>y.2.1)+1:=by conv=>lhs;unfold lB;rw[aq c]
    exact(⟨_,a_ rfl ⟨oU,by rw[e,ep];omega⟩⟩)
  ·rintro σ U ⟨r4,r5,rfl,s1,e⟩
   rw[ab,hlen,b0]at e
   have e:lB fw.1 (ms.map λy=>y.2.1)=ms.length:=e
   rw[e]at k
   refine(a_ rfl ⟨l,a_ rfl ⟨.inl (f_.of (s1 _ _ hl)),?_⟩⟩)
   rw[ab,hlen]
   exact k _ s1
noncomputable def YD(a:hC):Sp:=λvs H R _=>∃bk d b kvs pw v,vs=[.ref bk,.ref pw]/\iB a H bk d b kvs/\H d=some (.dT kvs)/\jx a H pw v/\∀l U,c_ H U->p0 U l (Vaunia.kinOf (Vaunia.meanings b) v)->R (.ref l) U
theorem WV(T:Txt K mg a):Callee P w K mg base 4 "alike_names" ["book","worth"] (YD a):=by
 refine T.Oc.ok KE (λvs H Q E h=>?_) (λf h8 A outer s H vs Q E hr h=>?_)
 ·obtain⟨_,_,_,_,_,_,rfl,_⟩:=h
  rfl
 ·obtain⟨bk,d,b,kvs,pw,v,rfl,B,hd,hw,k⟩:=h
  have nd:=KE.nd
  refine⟨_,gZ (ic (i:=2) nd rfl (Or.inl rfl) (iL d_)) (gZ (C0 (lC aX rfl (CT (hG (pv 0) rfl)) (iT (i:=3) nd rfl (Or.inl rfl))
   (g9 (iw (ju (hU (zx T) (hr.mono (by decide)) (b_ (hU (Cz T) hr (b_ (pv 0) (b_ (pv 3) d_))) (b_ (pv 1) d_))) (λ_=>rfl))
    (g9 (lR (lP aT PySem.F.slot_list_insert PySem.F.type_list_insert V3 (pv 2) (b_ (hU (XF T) (hr.mono (by decide)) (b_ (pv 0) (b_ (pv 2) (b_ (pv 3) d_)))) (b_ (pv 3) d_))))) iy))))
   (g9 (hJ (pv 2)))),?_⟩
  dsimp only[il]
  refine⟨aU _,λln um=>?_⟩
  have s0:=c_.new (o:=.lst []) um
  have ph:=s0 _ _ hd
  refine⟨d,_,ph,trivial,λod=>?_⟩
  have BL:=B.lock (od:=od) hd
  obtain⟨dx,qy⟩:=BL.obj
  have Cs:ln≠d:=λz=>by rw[z,hd]at um;cases um
  have Tc:upd H d (.iF od (.dT kvs)) ln=none:=by rw[ip Cs];exact um
  have B_:Kp d H (upd H d (.iF od (.dT kvs))):=Kp.upd
  have qA:jx a (upd H d (.iF od (.dT kvs))) pw v:=by
   obtain⟨dw,lr,lp,w1,w2,w3⟩:=hw
   exact⟨dw,lr,lp,B_ _ _ (iC w1 hd (by intro z;cases z)) w1,w2.kp hd B_,B_ _ _ (iC w3 hd (by intro z;cases z)) w3⟩
  have sB:c_ (upd H d (.iF od (.dT kvs))) (upd (upd H ln (.lst [])) d (.iF od (.dT kvs))):=λy o hy=>by
   by_cases c:y=d
   ·subst c;rw[e_]at hy ⊢;exact hy
   ·rw[ip c]at hy ⊢
    exact s0 _ _ hy
  have VA:upd (upd H ln (.lst [])) d (.iF od (.dT kvs)) ln=some (.lst []):=by rw[ip Cs,e_]
  refine(a_ rfl (hX rfl (sB _ _ qy) T.j0.cl T.ki rfl ⟨d,od,rfl,.inr ⟨kvs,e_,?_⟩⟩))
  let acc:Nat->Vaunia.Meaning:=λi=>(((Vaunia.meanings b).take i).filter λp=>Vaunia.alike p.2 v).foldl (λl p=>Vaunia.putByRatio p l) []
  have Nq:∀(i:Nat) (p:List UInt8×Vaunia.Worth),(Vaunia.meanings b)[i]? =some p->acc (i+1)=if Vaunia.alike p.2 v then Vaunia.putByRatio p (acc i) else acc i:=λi p hp=>by
   show(((Vaunia.meanings b).take (i+1)).filter λp=>Vaunia.alike p.2 v).foldl _ []=_
   rw[take_snoc hp,bT,gz,aY,eG]
   split<;>rfl
  refine Ex (λi σ U=>∃(r3:Option V) (ms:List (List UInt8×FW)),σ=[some (.ref bk),some (.ref pw),some (.ref ln),r3]/\c_ (upd H d (.iF od (.dT kvs))) U/\p0 U ln (ms.map (·.1))/\ms.length<=i/\(∀y∈ms,y.1∈b.map (·.name)/\jG (iE b) y.1=some y.2)/\acc i=ms.map λy=>(y.1,jf (Vaunia.bases b) y.2))
   ⟨none,[],rfl,sB,⟨[],VA,Zip.nil⟩,ax _,λy hy=>(by cases hy),rfl⟩ (λi σ U _ ⟨_,_,_,s1,_⟩=>s1.locked) ?_ ?_
  ·rintro i kk vv σ U q jr ⟨r3,ms,rfl,s1,⟨ps,jQ,jI⟩,pB,qx,yp⟩ hq
   obtain⟨x,fw,rfl,_,hm,hx,jT,wJ⟩:=B.Cd jr
   rw[kd]at hq
   have wx:=ja jr
   have acL:=B.ok.mO
   have wu:=B.len
   have B1:=BL.same s1
   have w1:=qA.same s1
   have uf:=s1.locked
   refine(a_ rfl (a_ rfl ⟨bk,d,b,kvs,q,x,fw,rfl,B1,hq,hx,jT,λp2 H2 s2 h2=>?_⟩))
   refine⟨_,rfl,p2,pw,_,v,rfl,h2,w1.same s2,_,rfl,?_⟩
   have eS:=Nq i _ hm
   refine iU (λc=>?_) (λc=>?_)
   ·simp only[c,dQ]at eS
    have Bz:=s2 _ _ jQ
    have M8:Zip (jC H2) ps (ms.map (·.1)):=jI.mono λy z r=>s2 _ _ r
    refine(a_ rfl ⟨.inl ⟨rfl,_,f_.of Bz⟩,a_ rfl (a_ rfl (a_ rfl ⟨bk,d,b,kvs,ln,q,x,fw,ms,rfl,B1.same s2,⟨ps,Bz,M8⟩,s2 _ _ hq,hx,jT,qx,λH3 s3=>?_⟩))⟩)
    have BA:=s3 _ _ Bz
    have i9:=jI.1
    rw[ab]at i9
    have FC:=Ia fw.1 (ms.map λy=>y.2.1)
    rw[ab]at FC
    generalize mj:lB fw.1 (ms.map λy=>y.2.1)=pp at FC
    refine(a_ rfl ⟨ln,_,pp,a_ rfl ⟨rfl,BA,by rw[ab];omega,by rw[ab];exact iV (by omega),?_⟩⟩)
    have uE:Kp ln H3 (upd H3 ln (.lst ((ps.map V.ref).take pp++V.ref q::(ps.map V.ref).drop pp))):=Kp.upd
    refine⟨_,ms.take pp++(x,fw)::ms.drop pp,rfl,Kp.same s1 Tc ((s2.kp.trans s3.kp).trans uE),⟨ps.take pp++q::ps.drop pp,?_,?_⟩,?_,λy hy=>?_,?_⟩
    ·rw[e_,au,aO,fg,d5]
    ·rw[au,aO,fg,d5]
     refine Zip.insert (M8.mono λy z r=>uE _ _ (iC (s3 _ _ r) BA (by intro z;cases z)) (s3 _ _ r)) ?_ pp
     exact uE _ _ (iC (s3 _ _ (s2 _ _ hq)) BA (by intro z;cases z)) (s3 _ _ (s2 _ _ hq))
    ·simp only[aj,aB,ai,aR];omega
    ·rcases bg.mp hy with hy | hy
     ·exact qx y (gb hy)
     ·rcases aM.mp hy with hy | hy
      ·rw[hy];exact⟨hx,jT⟩
      ·exact qx y (fb hy)
    ·rw[eS,zM,yp,bu]
     have er:(λy:List UInt8×Vaunia.Worth=>y.2.ratio)∘(λy:List UInt8×FW=>(y.1,jf (Vaunia.bases b) y.2))=λy=>y.2.1:=rfl
     rw[er]
     show(ms.map _).take (lB fw.1 _)++_::(ms.map _).drop (lB fw.1 _)=_
     rw[mj,au,aO,fg,d5]
   ·have c:=bj.mpr c
    simp only[c]at eS
    refine⟨_,ms,rfl,s1.trans s2,⟨ps,s2 _ _ jQ,jI.mono λy z r=>s2 _ _ r⟩,by omega,qx,?_⟩
    rw[eS,aq ao];exact yp
  ·rintro σ U ⟨r3,ms,rfl,s1,⟨ps,jQ,jI⟩,pB,qx,yp⟩
   have uf:=s1.locked
   refine(⟨uf,a_ rfl (k ln _ (s1.unlock hd) ?_)⟩)
   ·have ek:Vaunia.kinOf (Vaunia.meanings b) v=ms.map (·.1):=by
     unfold Vaunia.kinOf
     have:acc kvs.length=((Vaunia.meanings b).filter λp=>Vaunia.alike p.2 v).foldl (λl p=>Vaunia.putByRatio p l) []:=by
      show(((Vaunia.meanings b).take kvs.length).filter _).foldl _ []=_
      rw[<-zf B,aP]
     rw[<-this,yp,bu];rfl
    rw[ek]
    exact⟨ps,by rw[ip Cs];exact jQ,jI.mono λy z r=>jC.unlock r uf⟩
end
structure Aq(b:Vaunia.Book)(v:Vaunia.Worth):Prop where
 pos:Pos v.ratio
 near:Vaunia.near v.ratio=true
 len:v.powers.length=(Vaunia.bases b).length
 pw:∀k∈v.powers,k.natAbs<=99
theorem C9{b:Vaunia.Book}(h:lg b){sg:Bool}{t:List UInt8}{v:Vaunia.Worth}(e:Vaunia.reading b sg t= .ok v):
 ∃q fs fw,Vaunia.quantityOf t=some (q,fs)/\(sg=false->0<q.num)/\fs.length<=20/\(∀f∈fs,rZ f)/\(∀f∈fs,f.1∈b.map (·.name))/\kX q/\Vaunia.near q=true/\jJ (iE b) q fs=some fw/\Vaunia.tooFar (jf (Vaunia.bases b) fw)=false/\v=jf (Vaunia.bases b) fw:=by
 rw[zO]at e
 cases hq:Vaunia.quantityOf t with
 | none=>rw[hq]at e;cases e
 | some x=>
  obtain⟨q,fs⟩:=x
  obtain⟨o1,o2,o3,o4⟩:=C3 hq
  rw[hq]at e
  simp only at e o1 o2 o3 o4
  split at e
  ·cases e
  ·rename_i c
   cases jZ:jJ (iE b) q fs with
   | none=>rw[jZ]at e;cases e
   | some fw=>
    rw[jZ]at e
    simp only at e
    split at e
    ·cases e
    ·rename_i ct
     injection e with e
     refine⟨q,fs,fw,rfl,λhs=>?_,o3,o4,λf hf=>?_,o2,o1,jZ,bj.mpr ct,e.symm⟩
     ·subst hs
      have:¬q.num<=0:=by simpa using c
      omega
     ·refine cj λz=>?_
      rw[A2 ⟨f,hf,by rw[h.wf.names];exact z⟩]at jZ
      cases jZ
theorem xE{b:Vaunia.Book}(h:lg b){x:List UInt8}(hx:x∈b.map (·.name)):Pos (j6 (iE b) x):=by
 obtain⟨w,hw,hm⟩:=AW (m:=iE b) (x:=x) (by rw[h.wf.names];exact hx)
 unfold j6
 rw[hw]
 exact(h.ws _ hm).1
theorem rS{b:Vaunia.Book}(h:lg b){t:List UInt8}{v:Vaunia.Worth}(e:Vaunia.reading b false t= .ok v):Aq b v:=by
 obtain⟨q,fs,fw,_,hq,ra,hf,hn,hc,mR,jZ,lX,rfl⟩:=C9 h e
 rw[zY]at lX
 obtain⟨t1,t2⟩:=eV.mp lX
 refine⟨?_,by simpa using t2,ab _,λk hk=>?_⟩
 ·show Pos fw.1
  rw[v8 hc (λf hf=>xE h (hn f hf)) jZ]
  have yV:=hq rfl
  refine CZ (bL hc.1 (tP λg hg=>xE h (hn g hg))) (Int.mul_pos yV ?_)
  have:=Ai (m:=iE b) (fs:=fs) λg hg=>xE h (hn g hg)
  omega
 ·have hh:¬(List.map (λk:Int=>decide (99<k.natAbs)) (jf (Vaunia.bases b) fw).powers).any id=true:=by rw[t1];exact ao
  rw[cZ]at hh
  refine cj λz=>hh ⟨true,aQ.mpr ⟨k,hk,ah (by omega)⟩,rfl⟩
theorem aaj{b:Vaunia.Book}(h:lg b){sg:Bool}{t:List UInt8}{v:Vaunia.Worth}(e:Vaunia.reading b sg t= .ok v):kX v.ratio/\Vaunia.near v.ratio=true:=by
 obtain⟨q,fs,fw,_,hq,ra,hf,hn,hc,mR,jZ,lX,rfl⟩:=C9 h e
 rw[zY]at lX
 obtain⟨t1,t2⟩:=eV.mp lX
 refine⟨?_,by simpa using t2⟩
 show kX fw.1
 rw[v8 hc (λf hf=>xE h (hn f hf)) jZ]
 exact oR _ (bL hc.1 (tP λg hg=>xE h (hn g hg)))
theorem Cy(n:Int){d:Nat}(h:0<d):(Q.of n d).num.natAbs<=n.natAbs/\(Q.of n d).den<=d:=by
 obtain⟨g,hg,e1,e2,_⟩:=rJ n h
 refine⟨?_,?_⟩
 ·have:n.natAbs=(Q.of n d).num.natAbs*g:=by conv=>lhs;rw[e1,cN,bS]
  rw[this];exact fA _ hg
 ·conv=>rhs;rw[e2]
  exact fA _ hg
theorem abk{x r:Q}(hx:kX x)(hr:Pos r):let t:=Q.of (x.num*r.den) (x.den*r.num.natAbs)
 let k:=t.num/(t.den:Int)
 k=(Q.div x r).floor/\Q.of (x.num*r.den-k*r.num*x.den) (x.den*r.den)=Q.sub x ((Q.ofInt k).mul r)/\0<=x.num*r.den-k*r.num*x.den/\x.num*r.den-k*r.num*x.den<r.num*x.den:=by
 intro t k
 have ht:t=Q.div x r:=(yl hx hr).symm
 have rk:(r.num.natAbs:Int)=r.num:=by have:=hr.2;omega
 have ph:0<x.den*r.num.natAbs:=bL hx.1 (by have:=hr.2;omega)
 have htd:0<t.den:=pL ph
 have hv:t.num*((x.den*r.num.natAbs:Nat):Int)=x.num*r.den*t.den:=pM (x.num*r.den) ph
 rw[aW,rk]at hv
 have qB:(0:Int)<x.den:=by have:=hx.1;omega
 have T3:=hr.2
 have FP:(0:Int)<t.den:=by omega
 have k1:k*t.den<=t.num:=Int.ediv_mul_le _ (by omega)
 have k2:t.num<(k+1)*t.den:=Int.lt_ediv_add_one_mul_self _ FP
 have p1:(0:Int)<x.den*r.num:=Int.mul_pos qB T3
 refine⟨by rw[<-ht];rfl,?_,?_,?_⟩
 ·
  have uu:0<r.den:=hr.1.1
  unfold Q.sub Q.add Q.mul Q.neg Q.ofInt
  have hb:=pM (k*r.num) (d:=1*r.den) (by omega)
  have EW:=pL (n:=k*r.num) (d:=1*r.den) (by omega)
  generalize Q.of (k*r.num) (1*r.den)=m at hb EW
  dsimp only
  refine uR (bL hx.1 uu) (bL hx.1 EW) ?_
  have hb:m.num*(r.den:Int)=k*r.num*m.den:=by rw[Nat.one_mul]at hb;exact hb
  rw[aW,aW]
  have e1:(x.num*r.den-k*r.num*x.den)*((x.den:Int)*m.den)=x.num*r.den*(x.den*m.den)-(k*r.num*m.den)*(x.den*x.den):=by
   rw[Int.sub_mul]
   congr 1
   ac_rfl
  have e2:(x.num*m.den + -m.num*x.den)*((x.den:Int)*r.den)=x.num*r.den*(x.den*m.den)-(m.num*r.den)*(x.den*x.den):=by
   rw[Int.add_mul,gY,gY,Int.sub_eq_add_neg]
   congr 1
   ·ac_rfl
   ·congr 1;ac_rfl
  rw[e1,e2,hb]
 ·have h1:k*t.den*(x.den*r.num)<=t.num*(x.den*r.num):=Int.mul_le_mul_of_nonneg_right k1 (by omega)
  rw[hv]at h1
  have h2:(k*(x.den*r.num))*t.den<=(x.num*r.den)*t.den:=by
   have e:k*t.den*(x.den*r.num)=k*(x.den*r.num)*t.den:=by ac_rfl
   rw[<-e];exact h1
  have h3:=Int.le_of_mul_le_mul_right h2 FP
  have e:k*r.num*x.den=k*(x.den*r.num):=by ac_rfl
  rw[e];omega
 ·have h1:t.num*(x.den*r.num)<(k+1)*t.den*(x.den*r.num):=eM k2 p1
  rw[hv]at h1
  have h2:(x.num*r.den)*t.den<((k+1)*(x.den*r.num))*t.den:=by
   have e:(k+1)*t.den*(x.den*r.num)=(k+1)*(x.den*r.num)*t.den:=by ac_rfl
   rw[<-e];exact h1
  have h3:=eU h2 (by omega)
  rw[Int.add_mul,Int.one_mul]at h3
  have e:k*r.num*x.den=k*(x.den*r.num):=by ac_rfl
  have e2:r.num*x.den=(x.den:Int)*r.num:=by ac_rfl
  rw[e,e2];omega
theorem ac1{x:Q}{y:Q}(hx:0<x.den)(hy:0<y.den):kX (Q.sub x y):=oR _ (bL hx hy)
theorem Mg(x r s:Q)(l:List Q):Vaunia.splitBy x (r::s::l)=((Q.div x r).floor::(Vaunia.splitBy (Q.sub x ((Q.ofInt (Q.div x r).floor).mul r)) (s::l)).1,(Vaunia.splitBy (Q.sub x ((Q.ofInt (Q.div x r).floor).mul r)) (s::l)).2):=rfl
theorem N_(xs:List V)(v:V):i5 (xs++[v]) none (some (-1))=xs:=by
 unfold i5
 rw[HT.u0]
 have e:HT.iS (xs++[v]).length (xs++[v]).length (some (-1))=xs.length:=by
  unfold HT.iS
  rw[aj,aA]
  simp
  omega
 rw[e,fN,Nat.sub_zero,List.take_left']
 rfl
theorem ac0:∀(ri:List Q) (rl x:Q) (done:List Int),∃(i:Nat),i=ri.length:=λri _ _ _=>⟨_,rfl⟩
theorem zI{i:Nat}(h:i<=10):(10:Nat)^(40*(i+1))<=10^1000:=a0 (by decide) (by omega)
section
variable{P:Program}{w:World}{K:Fg}{mg:Str->Option Value}{base:Heap}{a:hC}
noncomputable def Zz(a:hC):Sp:=λvs H R _=>∃p l q rs,vs=[.ref p,.ref l]/\iN a H p q/\m7 a H l rs/\Pos q/\Vaunia.near q=true/\rs≠[]/\rs.length<=10/\(∀r∈rs,Pos r/\Vaunia.near r=true)/\
 ∀m U,c_ H U->U m=some (.lst (((Vaunia.splitBy q rs).1++[(Vaunia.splitBy q rs).2.num,((Vaunia.splitBy q rs).2.den:Int)]).map V.int))->R (.ref m) U
theorem XE(T:Txt K mg a):Callee P w K mg base 5 "parts_of" ["whole","ratios"] (Zz a):=by
 refine T.Pq.ok Lo (λvs H Q E h=>?_) (λf h8 A outer s H vs Q E hr h=>?_)
 ·obtain⟨_,_,_,_,rfl,_⟩:=h
  rfl
 ·obtain⟨p,l,q,rs,rfl,hp,⟨ps,hl,zp⟩,hq,kR,iJ,EL,uv,k⟩:=h
  have nd:=Lo.nd
  refine⟨_,gZ (ic (i:=2) nd rfl (Or.inl rfl) (iL d_)) (gZ (ic (i:=3) nd rfl (Or.inl rfl) (pv 0))
   (gZ (lC aX rfl (kj (lQ mF (pv 1) mC (k_ (uV vc ij)))) (iT (i:=4) nd rfl (Or.inl rfl))
    (gZ (ic (i:=5) nd rfl (Or.inl rfl) (hU (xm T) hr (b_ (pv 3) (b_ (pv 4) d_))))
    (gZ (ic (i:=6) nd rfl (Or.inl rfl) (iH zE (hG (pv 5) rfl) (hG (pv 5) rfl)))
    (gZ (lR (lP aT bV bW rC (pv 2) (b_ (pv 6) d_)))
    (g9 (ic (i:=3) nd rfl (Or.inl rfl) (hU (Xf T) hr (b_ (pv 3) (b_ (jk (pJ T) (hr.mono (by decide)) (b_ (iH mw (pv 6) (hG (pv 4) rfl)) (b_ (hG (pv 4) rfl) d_))) d_)))))))))
   (gZ (ic (i:=7) nd rfl (Or.inl rfl) (hU (xm T) hr (b_ (pv 3) (b_ (mW pE (pv 1) (uV vc ij) (λ_ _=>rfl)) d_))))
   (g9 (hJ (iH kS (pv 2) (iL (b_ (hG (pv 7) rfl) (b_ (hG (pv 7) rfl) d_))))))))),?_⟩
  dsimp only[il]
  obtain⟨ri,rl,rfl⟩:∃ri rl,rs=ri++[rl]:=⟨rs.dropLast,rs.getLast iJ,(dE iJ).symm⟩
  have Bw:=zp.1
  rw[aj,aA]at Bw EL
  have rh:ps≠[]:=λz=>by rw[z,bQ]at Bw;omega
  obtain⟨pi,pl,rfl⟩:∃pi pl,ps=pi++[pl]:=⟨ps.dropLast,ps.getLast rh,(dE rh).symm⟩
  rw[aj,aA]at Bw
  have FA:pi.length=ri.length:=by omega
  have zi:∀i x,pi[i]? =some x->∃y,ri[i]? =some y/\iN a H x y:=λi x hx=>by
   have hi:=ja hx
   obtain⟨y,hy,e⟩:=zp.right (i:=i) (x:=x) (by rw[cg hi];exact hx)
   rw[cg (by omega)]at hy
   exact⟨y,hy,e⟩
  have zl:iN a H pl rl:=zp.2 pi.length pl rl (by rw[bD (ax _),eC];rfl) (by rw[FA,bD (ax _),eC];rfl)
  rw[au]at hl
  refine⟨aU _,λpt pC=>?_⟩
  have s0:=c_.new (o:=.lst []) pC
  refine(a_ rfl (a_ rfl (a_ rfl (a_ rfl ⟨l,a_ rfl ⟨f_.of (s0 _ _ hl),λsl qz=>?_⟩⟩))))
  rw[show i5 (pi.map V.ref++[pl].map V.ref) none (some (-1))=pi.map V.ref from N_ _ _]
  have s1:=c_.new (o:=.lst (pi.map V.ref)) qz
  have IA:=s0.trans s1
  refine⟨sl,rfl,⟨_,f_.of e_⟩,qY (K:=K) (a:=sl) (xs:=pi.map V.ref) (λi σ U=>∃(px:Addr) (x:Vaunia.Q) (done:List Int) (r4 r5 r6:Option V),σ=[some (.ref p),some (.ref l),some (.ref pt),some (.ref px),r4,r5,r6,none]/\c_ H U/\U sl=some (.lst (pi.map V.ref))/\U pt=some (.lst (done.map V.int))/\iN a U px x/\
   kX x/\0<=x.num/\x.num.natAbs<=10^(40*(i+1))/\x.den<=10^(40*(i+1))/\done.length=i/\i<=ri.length/\Vaunia.splitBy q (ri++[rl])=(done++(Vaunia.splitBy x (ri.drop i++[rl])).1,(Vaunia.splitBy x (ri.drop i++[rl])).2))
   ⟨p,q,[],none,none,none,rfl,IA,e_,s1 _ _ e_,hp.same IA,hq.1,by have:=hq.2;omega,aI (k9.mp kR).1,aI (k9.mp kR).2,rfl,aU _,rfl⟩ (λi σ U _ ⟨_,_,_,_,_,_,_,_,e,_⟩=>f_.of e) ?_ ?_⟩
  ·rintro i v σ U hx ⟨px,x,done,r4,r5,r6,rfl,s2,BJ,rj,uo,rq,wL,qC,qB,qu,Bj,e⟩
   obtain⟨pr,oN,rfl⟩:=i8 hx
   obtain⟨r,BE,FG⟩:=zi i pr oN
   have hi:=ja BE
   obtain⟨rm,rk⟩:=uv r (di _ (aG BE))
   have wF:=k9.mp rk
   have jR:=FG.same s2
   have wQ:i<=10:=by omega
   have mx:mK x:=⟨aN qC (zI wQ),aN qB (zI wQ)⟩
   have st:=abk rq rm
   dsimp only at st
   obtain⟨k1,k2,k3,k4⟩:=st
   refine(a_ rfl (a_ rfl ⟨px,pr,x,r,rfl,uo,jR,mx,nA rk,rq.1,rm.2,λp3 H3 s3 h3=>?_⟩))
   have ph:0<x.den*r.num.natAbs:=bL rq.1 (by have:=rm.2;omega)
   have tn:=Cy (x.num*r.den) ph
   have td:=pL (n:=x.num*r.den) ph
   generalize ht:Vaunia.Q.of (x.num*r.den) (x.den*r.num.natAbs)=t at h3 k1 k2 k3 k4 tn td
   obtain⟨d3,h3⟩:=h3
   have hA:(10:Nat)^(40*(i+1))*10^40=10^(40*(i+2)):=by rw[<-gD,show 40*(i+1)+40=40*(i+2) by omega]
   have abP:t.den<=10^(40*(i+2)):=by
    refine aN tn.2 ?_
    rw[<-hA];exact cW qB (aI wF.1)
   have MG:t.num.natAbs<=10^(40*(i+2)):=by
    refine aN tn.1 ?_
    rw[<-hA,cN,bS];exact cW qC (aI wF.2)
   refine(a_ rfl (hX rfl h3 T.iQ.cl T.jN rfl (a_ rfl (hX rfl h3 T.iQ.cl T.jM rfl (h9 rfl rfl ⟨⟨by show(0:Int)<(t.den:Int);omega,CK abP (by omega)⟩,?_⟩)))))
   dsimp only[jL]
   generalize hk:t.num/(t.den:Int)=kk at k1 k2 k3 k4 ⊢
   have jK:=s2.trans s3
   refine(a_ rfl ⟨.inl ⟨rfl,_,f_.of (s3 _ _ rj)⟩,a_ rfl ⟨pt,h9 rfl rfl ⟨s3 _ _ rj,by rw[ab];exact iV (by omega),?_⟩⟩⟩)
   have kp:Kp pt U (upd H3 pt (.lst (done.map V.int++[V.int kk]))):=s3.kp.trans Kp.upd
   have s4:c_ H (upd H3 pt (.lst (done.map V.int++[V.int kk]))):=Kp.same s2 pC kp
   obtain⟨d2,FH⟩:=FG.same s4
   have TX:=uo.uF rj kp
   have kb:kk.natAbs<=t.num.natAbs:=by rw[<-hk];exact Int.natAbs_ediv_le_natAbs _ _
   have hB:(10:Nat)^(40*(i+2))*10^40=10^(40*(i+3)):=by rw[<-gD,show 40*(i+2)+40=40*(i+3) by omega]
   have kr:(kk*r.num).natAbs<=10^(40*(i+3)):=by
    rw[cN,<-hB];exact cW (aN kb MG) (aI wF.1)
   have VI:(10:Nat)^(40*(i+3))<=10^1000:=a0 (by decide) (by omega)
   have VJ:(10:Nat)^(40*(i+2))<=10^1000:=a0 (by decide) (by omega)
   refine(a_ rfl (a_ rfl (a_ rfl (hX rfl FH T.iQ.cl T.jN rfl (h9 rfl rfl ⟨rB (aN (aN kb MG) VJ) (nA rk).1,a_ rfl (hX rfl FH T.iQ.cl T.jM rfl ⟨rfl,λy dy hy iY Bo=>?_⟩)⟩)))))
   have s5:=c_.jc (o:=.ins a.ow dy (sX [.int (kk*r.num),.int (r.den:Int)])) (o':=.own y) hy iY
   refine⟨px,y,x,⟨kk*r.num,r.den⟩,rfl,TX.same s5,⟨dy,e_⟩,mx,⟨aN kr VI,(nA rk).2⟩,rq.1,rm.1.1,λp6 H6 s6 h6=>?_⟩
   have yP:x.num*((r.den:Nat):Int)-kk*r.num*((x.den:Nat):Int)=x.num*r.den-kk*r.num*x.den:=rfl
   have h6:iN a H6 p6 (Vaunia.Q.of (x.num*r.den-kk*r.num*x.den) (x.den*r.den)):=h6
   have mi:0<x.den*r.den:=bL rq.1 rm.1.1
   have bn:=Cy (x.num*r.den-kk*r.num*x.den) mi
   have So:=oR (x.num*r.den-kk*r.num*x.den) mi
   have T8:0<=(Vaunia.Q.of (x.num*r.den-kk*r.num*x.den) (x.den*r.den)).num:=by
    obtain⟨g,hg,e1,_,_⟩:=rJ (x.num*r.den-kk*r.num*x.den) mi
    refine Int.not_lt.mp λz=>?_
    have:(Vaunia.Q.of (x.num*r.den-kk*r.num*x.den) (x.den*r.den)).num*(g:Int)<0:=Int.mul_neg_of_neg_of_pos z (by omega)
    omega
   have aao:=(s4.trans s5).trans s6
   have TU:H6 pt=some (.lst ((done++[kk]).map V.int)):=by
    rw[s6 _ _ (s5 _ _ e_),au];rfl
   refine(⟨p6,_,done++[kk],_,_,a_ rfl ⟨aao,?_,TU,h6,So,T8,?_,?_,by rw[aj,aA,qu],hi,?_⟩⟩)
   ·exact(s5.trans s6) _ _ (kp _ _ (iC BJ rj (by
     intro z
     have z:pi.map V.ref=done.map V.int:=by injection z
     cases mj:pi with
     | nil=>rw[mj]at oN;simp at oN
     | cons u v=>rw[mj]at z;cases done with
      | nil=>simp at z
      | cons _ _=>simp at z)) BJ)
   ·refine aN bn.1 ?_
    have hle:(x.num*r.den-kk*r.num*x.den).natAbs<=(r.num*x.den).natAbs:=by omega
    refine aN hle ?_
    rw[cN,bS,Nat.mul_comm,show 40*(i+1+1)=40*(i+2) by omega,<-hA]
    exact cW qB (aI wF.1)
   ·refine aN bn.2 ?_
    rw[show 40*(i+1+1)=40*(i+2) by omega,<-hA]
    exact cW qB (aI wF.2)
   ·rw[e,o9 BE]
    have e2:∃s2 l2,ri.drop (i+1)++[rl]=s2::l2:=by
     cases ri.drop (i+1) with
     | nil=>exact⟨_,_,rfl⟩
     | cons _ _=>exact⟨_,_,rfl⟩
    obtain⟨s2',l2',e2⟩:=e2
    rw[List.cons_append,e2,Mg,<-k1,<-k2,bR];rfl
  ·rintro σ U ⟨px,x,done,r4,r5,r6,rfl,s2,BJ,rj,uo,rq,wL,qC,qB,qu,Bj,e⟩
   rw[ab,FA]at qC qB qu e
   have wQ:ri.length<=10:=by omega
   have mx:mK x:=⟨aN qC (zI wQ),aN qB (zI wQ)⟩
   obtain⟨rm,rk⟩:=uv rl (bP _ (bA.mpr rfl))
   rw[b0]at e
   have e:Vaunia.splitBy q (ri++[rl])=(done++[],Vaunia.Q.div x rl):=e
   rw[cv]at e
   rw[e]at k
   refine⟨_,rfl,_,rfl,_,rfl,l,_,_,_,rfl,rfl,f_.of (s2 _ _ hl),DP _ _,px,pl,x,rl,rfl,uo,zl.same s2,mx,nA rk,rq.1,rm.2,λp3 H3 s3 h3=>?_⟩
   rw[<-yl rq rm]at h3
   obtain⟨d3,h3⟩:=h3
   refine(a_ rfl (a_ rfl (hX rfl h3 T.iQ.cl T.jN rfl (a_ rfl (hX rfl h3 T.iQ.cl T.jM rfl ⟨by show 2<=sizeLine;decide,λo ho=>?_⟩)))))
   have s4:=c_.new (o:=.lst [V.int (Vaunia.Q.div x rl).num,V.int ((Vaunia.Q.div x rl).den:Int)]) ho
   refine(⟨pt,o,h9 rfl rfl ⟨s4 _ _ (s3 _ _ rj),e_,?_,λy hy=>k y _ (((s2.trans s3).trans s4).trans (c_.new hy)) ?_⟩⟩)
   ·rw[ab]
    show done.length+2<=sizeLine
    exact aI (iV (by omega))
   ·rw[e_,au];rfl
end
noncomputable def xT(H:Hp)(l:Addr)(ts:List (List UInt8)):Prop:=∃ps:List Addr,H l=some (.lst (ps.map V.ref))/\Zip (λp t=>H p=some (.lst (bv t))) ps ts
noncomputable def Nf(a:hC)(H:Hp)(p:Addr):Except Int (List Q)->Prop
 | .error e=>∃dx,H p=some (.ins a.sv dx [("refusal",.int e),("ratios",.ia)])
 | .ok rs=>∃dx lr,H p=some (.ins a.sv dx [("refusal",.int 0),("ratios",.ref lr)])/\m7 a H lr rs
noncomputable def glue(rs:List Q):Except Int (List Q)->Except Int (List Q)
 | .error e=>.error e
 | .ok l=>.ok (rs++l)
theorem C7(b:Vaunia.Book)(v:Vaunia.Worth)(o:Option Q)(t:List UInt8)(r:List (List UInt8)):Vaunia.ratiosOf b v o (t::r)=match Vaunia.reading b false t with
 | .error e=>.error e
 | .ok u=>
  if !Vaunia.alike u v then .error (-10)
  else if (match o with
   | some q=>!u.ratio.lt q
   | none=>false) then .error (-14)
  else match Vaunia.ratiosOf b v (some u.ratio) r with
  | .error e=>.error e
  | .ok l=>.ok (u.ratio::l):=rfl
theorem EK(rs:List Q)(x:Q)(r:Except Int (List Q)):glue rs (match r with | .error e=>.error e | .ok l=>.ok (x::l))=glue (rs++[x]) r:=by
 cases r with
 | error e=>rfl
 | ok l=>show Except.ok (rs++x::l)=Except.ok (rs++[x]++l);rw[bR];rfl
section
variable{P:Program}{w:World}{K:Fg}{mg:Str->Option Value}{base:Heap}{a:hC}
noncomputable def Gy(us:List V):List (Str×V):=[("refusal",us.getD 0 .ia),("ratios",us.getD 1 .ia)]
theorem zh(T:Txt K mg a):Maker P w K mg base "MeasuresReading" a.sv 2 Gy:=by
 refine T.sS.maker aau rfl λf h8 A outer s H p us dx Q E hr hl hp q=>?_
 match us,hl with
 | [u,v],_=>
  refine⟨_,gZ (jH (pv 0) (pv 1) rfl) (g9 (jH (pv 0) (pv 2) rfl)),?_⟩
  dsimp only[il]
  refine(a_ rfl (a_ rfl ⟨p,_,dx,a_ rfl ⟨hp,T.sS.cl,T.zr,(by show 0<1000;decide),?_⟩⟩))
  refine(a_ rfl (a_ rfl ⟨p,_,dx,a_ rfl ⟨e_,T.sS.cl,T.GN,(by show 1<1000;decide),?_⟩⟩))
  rw[kn]
  exact q
noncomputable def Zo(a:hC):Sp:=λvs H R _=>∃bk d b kvs l ts pw v,vs=[.ref bk,.ref l,.ref pw]/\iB a H bk d b kvs/\xT H l ts/\ts.length<=10/\jx a H pw v/\∀p U,c_ H U->Nf a U p (Vaunia.ratiosOf b v none ts)->R (.ref p) U
theorem Xx(T:Txt K mg a)(ht:P.given.tree=none):Callee P w K mg base 41 "measures_reading_of" ["book","texts","worth"] (Zo a):=by
 refine T.Pb.ok Lf (λvs H Q E h=>?_) (λf h8 A outer s H vs Q E hr h=>?_)
 ·obtain⟨_,_,_,_,_,_,_,_,rfl,_⟩:=h
  rfl
 ·obtain⟨bk,d,b,kvs,l,ts,pw,v,rfl,B,⟨ps,hl,zp⟩,EL,hw,k⟩:=h
  have nd:=Lf.nd
  have jR:jy 2 _:=hr.mono (by decide)
  refine⟨_,gZ (ic (i:=3) nd rfl (Or.inl rfl) (iL d_))
   (gZ (lC aX rfl (kj (pv 1)) (iT (i:=4) nd rfl (Or.inl rfl))
    (gZ (ic (i:=5) nd rfl (Or.inl rfl) (hU (oT T ht) hr (b_ (pv 0) (b_ (pv 4) (b_ l6 d_)))))
    (gZ (iw (iq kN (hG (pv 5) rfl) ij (ig _)) (g9 (hJ (jk (zh T) jR (b_ (hG (pv 5) rfl) (b_ iM d_))))) iy)
    (gZ (iw (lD (ju (hU (zx T) (hr.mono (by decide)) (b_ (hG (pv 5) rfl) (b_ (pv 2) d_))) (λ_=>rfl))) (g9 (hJ (jk (zh T) jR (b_ (iD T.EF) (b_ iM d_))))) iy)
    (gZ (iw (xC (iq ly (i7 ka (by rfl) T.jO aV (b_ (pv 3) d_)) ij (ig _)) (xD (lD (ju (hU (Hh T) (hr.mono (by decide)) (b_ (hG (hG (pv 5) rfl) rfl) (b_ (mW pE (pv 3) (uV vc ij) (λ_ _=>rfl)) d_))) (λ_=>rfl))))).pt
     (g9 (hJ (jk (zh T) jR (b_ (iD T.RH) (b_ iM d_))))) iy)
    (g9 (lR (lP aT bV bW rC (pv 3) (b_ (hG (hG (pv 5) rfl) rfl) d_)))))))))
   (g9 (hJ (jk (zh T) jR (b_ ij (b_ (pv 3) d_)))))),?_⟩
  dsimp only[il]
  have hlen:=zp.1
  refine⟨aU _,λlr Fj=>?_⟩
  have s0:=c_.new (o:=.lst []) Fj
  refine(a_ rfl ⟨l,rfl,⟨_,f_.of (s0 _ _ hl)⟩,qY (K:=K) (a:=l) (xs:=ps.map V.ref) (λi σ U=>∃(rs:List Vaunia.Q) (r4 r5:Option V),σ=[some (.ref bk),some (.ref l),some (.ref pw),some (.ref lr),r4,r5]/\c_ H U/\m7 a U lr rs/\rs.length=i/\(∀r∈rs,Pos r/\Vaunia.near r=true)/\Vaunia.ratiosOf b v none ts=glue rs (Vaunia.ratiosOf b v rs.getLast? (ts.drop i)))
   ⟨[],none,none,rfl,s0,⟨[],e_,Zip.nil⟩,rfl,λr hr=>(by cases hr),?_⟩ (λi σ U _ ⟨_,_,_,_,s1,_⟩=>f_.of (s1 _ _ hl)) ?_ ?_⟩)
  ·show Vaunia.ratiosOf b v none ts=glue [] (Vaunia.ratiosOf b v none ts)
   cases Vaunia.ratiosOf b v none ts<;>rfl
  ·rintro i x σ U hx ⟨rs,r4,r5,rfl,s1,uv,oO,h_,e⟩
   obtain⟨pt,pC,rfl⟩:=i8 hx
   have ⟨t,hy,rj⟩:=zp.right pC
   have hi:=ja hy
   rw[o9 hy,C7]at e
   refine(a_ rfl (a_ rfl ⟨bk,d,b,kvs,pt,t,false,rfl,B.same s1,f_.of (s1 _ _ rj),λp1 H1 s2 h1=>?_⟩))
   have iI:=s1.trans s2
   cases e1:Vaunia.reading b false t with
   | error er=>
    rw[e1]at e h1
    have ⟨dx,h1⟩:=h1
    have jP:=mY e1
    refine(a_ rfl (hX rfl h1 T.iR.cl T.jt rfl (h9 rfl rfl (a_ rfl ?_))))
    rw[ah jP]
    refine iu (a_ rfl (hX rfl h1 T.iR.cl T.jt rfl ⟨rfl,λy dy hy iY iJ=>k _ _ (iI.trans (c_.jc hy iY)) ?_⟩))
    rw[e];exact⟨dy,e_⟩
   | ok u=>
    rw[e1]at e h1
    have vd:=rS B.ok e1
    have ⟨dx,pq,pu,y,h1,h2,h3,h4⟩:=h1
    have qk:=h4
    have ⟨du,ur,up,u1,u2,u3⟩:=h4
    refine(a_ rfl (hX rfl h1 T.iR.cl T.jt rfl (h9 rfl rfl (a_ rfl (iz ?_)))))
    refine⟨_,rfl,p1,_,dx,_,_,rfl,h1,T.iR.cl,T.k8,rfl,_,rfl,pu,pw,u,v,rfl,qk,hw.same iI,_,rfl,?_⟩
    simp only at e
    cases qo:Vaunia.alike u v with
    | false=>
     rw[qo]at e
     refine iu ⟨rfl,λy dy hy iY iJ=>k _ _ (iI.trans (c_.jc hy iY)) ?_⟩
     rw[e];exact⟨dy,e_⟩
    | true=>
     rw[qo]at e
     simp only[cf,aK,bq]at e
     have T5:=uv.same s2
     have ⟨qs,jn,jv⟩:=T5
     have kL:=jv.1
     have acR:qs.length=i:=by rw[kL,oO]
     have e0:(some (V.ref pu))=some (V.ref pu):=rfl
     have last:Vaunia.ratiosOf b v none ts=glue (rs++[u.ratio]) (Vaunia.ratiosOf b v (some u.ratio) (ts.drop (i+1)))->∃acc,H1 lr=some (.lst acc)/\acc.length<sizeLine/\∃(xF:List Vaunia.Q) (r4 r5:Option V),[some (V.ref bk),some (V.ref l),some (V.ref pw),some (V.ref lr),some (V.ref pt),some (V.ref p1)]=[some (.ref bk),some (.ref l),some (.ref pw),some (.ref lr),r4,r5]/\c_ H (upd H1 lr (.lst (acc++[.ref ur])))/\m7 a (upd H1 lr (.lst (acc++[.ref ur]))) lr xF/\xF.length=i+1/\(∀r∈xF,Pos r/\Vaunia.near r=true)/\Vaunia.ratiosOf b v none ts=glue xF (Vaunia.ratiosOf b v xF.getLast? (ts.drop (i+1))):=λe=>by
      refine(⟨_,jn,by rw[ab];exact iV (by omega),rs++[u.ratio],_,a_ rfl ⟨Kp.same s1 Fj (s2.kp.trans Kp.upd),m7.snoc ⟨qs,jn,jv⟩ (c_.refl _) u2 jn,by rw[aj,aA,oO],λr hr=>?_,?_⟩⟩)
      ·rcases bg.mp hr with h | h
       ·exact h_ r h
       ·rw[bA.mp h];exact⟨vd.pos,vd.near⟩
      ·rw[List.getLast?_append,List.getLast?_singleton];exact e
     by_cases Bq:rs=[]
     ·subst Bq
      have hz:qs.length=0:=kL
      refine iz (a_ rfl ⟨lr,a_ rfl ⟨.inl (f_.of jn),h9 rfl rfl (a_ rfl ?_)⟩⟩)
      rw[ab,hz]
      refine iz (iz ?_)
      rw[show List.getLast? ([]:List Vaunia.Q)=none from rfl]at e
      simp only[aK,bq]at e
      rw[EK]at e
      have ⟨acc,a1,a2,a3⟩:=last e
      exact(a_ rfl ⟨.inl ⟨rfl,_,f_.of jn⟩,a_ rfl (hX rfl h1 T.iR.cl T.k8 rfl (hX rfl u1 T.jo.cl T.kM rfl ⟨lr,acc,a_ rfl ⟨rfl,a1,a2,a3⟩⟩))⟩)
     ·obtain⟨ri,rl,rfl⟩:∃ri rl,rs=ri++[rl]:=⟨rs.dropLast,rs.getLast Bq,(dE Bq).symm⟩
      have rh:qs≠[]:=λz=>by rw[z,bQ,aj,aA]at kL;omega
      obtain⟨qi,ql,rfl⟩:∃qi ql,qs=qi++[ql]:=⟨qs.dropLast,qs.getLast rh,(dE rh).symm⟩
      have TZ:qi.length=ri.length:=by rw[aj,aA,aj,aA]at kL;omega
      have zl:iN a H1 ql rl:=jv.2 qi.length ql rl (by rw[bD (ax _),eC];rfl) (by rw[TZ,bD (ax _),eC];rfl)
      have FF:=jn
      rw[au]at FF
      refine iz (a_ rfl ⟨lr,a_ rfl ⟨.inl (f_.of jn),h9 rfl rfl (a_ rfl ?_)⟩⟩)
      rw[ab,aj,aA,ah (show(0:Int)<((qi.length+1:Nat):Int) by omega)]
      refine iu ⟨_,rfl,p1,_,dx,_,_,rfl,h1,T.iR.cl,T.k8,rfl,pu,_,du,_,_,rfl,u1,T.jo.cl,T.kM,rfl,_,rfl,_,rfl,lr,_,_,_,rfl,rfl,f_.of FF,DP _ _,ur,ql,u.ratio,rl,rfl,u2,zl,nA vd.near,nA (h_ rl (bP _ (bA.mpr rfl))).2,_,rfl,?_⟩
      have SO:(ri++[rl]).getLast? =some rl:=by simp
      rw[SO]at e
      have e:Vaunia.ratiosOf b v none ts=glue (ri++[rl]) (if (!u.ratio.lt rl)=true then .error (-14) else match Vaunia.ratiosOf b v (some u.ratio) (ts.drop (i+1)) with
       | .error e=>.error e
       | .ok l=>.ok (u.ratio::l)):=e
      refine iU (λc=>?_) (λc=>?_)
      ·have c':u.ratio.lt rl=false:=by simpa using c
       rw[aE c]at e
       refine⟨rfl,λy dy hy iY iJ=>k _ _ (iI.trans (c_.jc hy iY)) ?_⟩
       rw[e];exact⟨dy,e_⟩
      ·have c':u.ratio.lt rl=true:=by simpa using c
       rw[aq c,EK]at e
       have ⟨acc,a1,a2,a3⟩:=last e
       exact(a_ rfl ⟨.inl ⟨rfl,_,f_.of jn⟩,a_ rfl (hX rfl h1 T.iR.cl T.k8 rfl (hX rfl u1 T.jo.cl T.kM rfl ⟨lr,acc,a_ rfl ⟨rfl,a1,a2,a3⟩⟩))⟩)
  ·rintro σ U ⟨rs,r4,r5,rfl,s1,uv,oO,h_,e⟩
   rw[ab,hlen,b0]at e
   have e:Vaunia.ratiosOf b v none ts= .ok (rs++[]):=e
   rw[cv]at e
   refine(a_ rfl ⟨rfl,λy dy hy iY iJ=>?_⟩)
   have s4:=c_.jc (o:=.ins a.sv dy (Gy [.int 0,.ref lr])) (o':=.own y) hy iY
   refine k _ _ (s1.trans s4) ?_
   rw[e];exact⟨dy,lr,e_,uv.same s4⟩
end
theorem Ic{k x y:Nat}(hk:0<k)(h:x<y):x^k<y^k:=Nat.pow_lt_pow_left h (by omega)
theorem uH{k x y:Nat}(h:x^k<y^k):x<y:=Nat.lt_of_not_le λc=>by have:=dF c k;omega
theorem acZ{k x y:Nat}(hk:0<k)(h:x^k=y^k):x=y:=by
 rcases Nat.lt_trichotomy x y with c | c | c
 ·have:=Ic hk c;omega
 ·exact c
 ·have:=Ic hk c;omega
theorem Bb{k n:Nat}(hk:0<k):∀(f lo hi:Nat),lo^k<=n->n<hi^k->hi-lo<=2^f->(Vaunia.halving k n f lo hi)^k<=n/\n<(Vaunia.halving k n f lo hi+1)^k
 | 0,lo,hi,h1,h2,h3=>by
  have iP:lo<hi:=uH (k:=k) (by omega)
  have e:hi=lo+1:=by rw[Nat.pow_zero]at h3;omega
  subst e
  exact⟨h1,h2⟩
 | f+1,lo,hi,h1,h2,h3=>by
  have iP:lo<hi:=uH (k:=k) (by omega)
  unfold Vaunia.halving
  rw[gS]at h3
  split
  ·have e:hi=lo+1:=by omega
   subst e
   exact⟨h1,h2⟩
  ·split
   ·rename_i c;exact Bb hk f _ _ c h2 (by omega)
   ·rename_i c;exact Bb hk f _ _ h1 (by omega) (by omega)
theorem V9{k n r:Nat}(hk:2<=k)(hn:n<10^40)(h1:r^k<=n)(h2:n<(r+1)^k):Vaunia.natRoot k n=if r^k=n then some r else none:=by
 have hb:n<(10^20)^k:=by
  have:(10:Nat)^40=(10^20)^2:=by decide
  have h3:((10:Nat)^20)^2<=(10^20)^k:=a0 (by decide) hk
  omega
 obtain⟨a1,a2⟩:=Bb (k:=k) (n:=n) (by omega) 70 0 (10^20) (by rw[Nat.zero_pow (by omega)];exact aU _) hb (by decide)
 unfold Vaunia.natRoot
 dsimp only
 generalize Vaunia.halving k n 70 0 (10^20)=s at a1 a2
 have e:s=r:=by
  have c1:s<r+1:=uH (k:=k) (by omega)
  have c2:r<s+1:=uH (k:=k) (by omega)
  omega
 rw[e]
theorem Dd{x:Nat}(h:x<=10^21):intBits (x:Int)<=140:=nH h (by decide)
theorem N4{a b k:Nat}(hk:0<k)(h:Nat.gcd (a^k) (b^k)=1):Nat.gcd a b=1:=by
 obtain⟨j,rfl⟩:∃j,k=j+1:=⟨k-1,by omega⟩
 have d1:Nat.gcd a b ∣ a^(j+1):=Nat.dvd_trans (Nat.gcd_dvd_left a b) (by rw[gS];exact Nat.dvd_mul_left _ _)
 have d2:Nat.gcd a b ∣ b^(j+1):=Nat.dvd_trans (Nat.gcd_dvd_right a b) (by rw[gS];exact Nat.dvd_mul_left _ _)
 have d:=Nat.dvd_gcd d1 d2
 rw[h]at d
 exact Nat.dvd_one.mp d
theorem DN(k:Int):∀ks:List Int,(ks.map λz=>!(z % k == 0)).any id=!(ks.all λz=>z % k == 0)
 | []=>rfl
 | z::r=>by
  show(!(z % k == 0)||(r.map λz=>!(z % k == 0)).any id)=!((z % k == 0)&&r.all λz=>z % k == 0)
  rw[DN k r,Bool.not_and]
section
variable{P:Program}{w:World}{K:Fg}{mg:Str->Option Value}{base:Heap}{a:hC}
noncomputable def Z2:Sp:=λvs H R _=>∃n k:Nat,vs=[.int n,.int k]/\0<n/\n<10^40/\2<=k/\k<=9/\R (oV (Option.map (λr:Nat=>(r:Int)) (Vaunia.natRoot k n))) H
theorem Hx(T:Txt K mg a):Callee P w K mg base 2 "whole_root" ["number","k"] (Z2):=by
 refine T.P_.ok LU (λvs H Q E h=>?_) (λf h8 A outer s H vs Q E hr h=>?_)
 ·obtain⟨_,_,rfl,_⟩:=h
  rfl
 ·obtain⟨n,k,rfl,Fn,hn,sI,wt,kk⟩:=h
  have nd:=LU.nd
  refine⟨_,gZ (ic (i:=2) nd rfl (Or.inl rfl) ij)
   (gZ (uY aX (iq rN (hU (tf T) hr (b_ (pv 2) (b_ (pv 1) d_))) (pv 0) (ig _)) (g9 (ic (i:=2) nd rfl (Or.inl rfl) (iH rO (pv 2) ij))))
   (gZ (ic (i:=3) nd rfl (Or.inl rfl) ij)
   (gZ (uY aX (iq ly (iH xu (pv 2) (pv 3)) ij (ig _))
    (gZ (ic (i:=4) nd rfl (Or.inl rfl) (iH CH (iH mV (pv 3) (pv 2)) ij))
    (g9 (iw (iq rN (hU (tf T) hr (b_ (pv 4) (b_ (pv 1) d_))) (pv 0) (ig _)) (g9 (ic (i:=3) nd rfl (Or.inl rfl) (pv 4))) (g9 (ic (i:=2) nd rfl (Or.inl rfl) (pv 4)))))))
   (g9 (hJ (mB (iq je (hU (tf T) hr (b_ (pv 3) (b_ (pv 1) d_))) (pv 0) (ig _)) (pv 3) iM)))))),?_⟩
  have EV:∀{x:Nat},x^k<=n->x<10^20:=λ{x} hx=>by
   have:(10:Nat)^40=(10^20)^2:=by decide
   have h3:((10:Nat)^20)^2<=(10^20)^k:=a0 (by decide) sI
   exact uH (k:=k) (by omega)
  have Ee:∀x:Nat,decide (((x:Int))^k<=(n:Int))=decide (x^k<=n):=λx=>by
   rw[aH,ak,ak,<-bH,Int.ofNat_le]
  have ra:(10:Nat)^20<=10^21:=by decide
  have acH:2*(10:Nat)^20<=10^21:=by decide
  refine⟨λm σ U=>∃h:Nat,σ=[some (.int n),some (.int k),some (.int ((2*h:Nat):Int)),none,none]/\U=H/\0<h/\h^k<=n/\m=10^20-h,⟨_,1,rfl,rfl,by decide,by rw[Nat.one_pow];exact Fn,rfl⟩,?_⟩
  rintro m σ U ⟨h,rfl,rfl,h0,hh,rfl⟩
  have acK:=EV hh
  refine(a_ rfl (a_ rfl ⟨((2*h:Nat):Int),k,rfl,Dd (by omega),by omega,a_ rfl (h9 rfl rfl (a_ rfl ?_))⟩))
  rw[Ee]
  refine iU (λc=>?_) (λc=>?_)
  ·have c:=aL c
   have:=EV c
   refine(⟨_,λik U n=>n,a_ rfl (h9 rfl rfl ⟨.inr ⟨by decide,by decide⟩,10^20-2*h,by omega,2*h,?_,rfl,by omega,c,rfl⟩)⟩)
   show[some (V.int n),some (V.int k),some (V.int (((2*h:Nat):Int)*2)),none,none]=_
   rw[show((2*h:Nat):Int)*2=((2*(2*h):Nat):Int) by omega]
  ·have c:n<(2*h)^k:=by
    have:¬(2*h)^k<=n:=λz=>c (ah z)
    omega
   refine⟨λm σ H2=>∃(x y:Nat) (r:Option V),σ=[some (.int n),some (.int k),some (.int (y:Nat)),some (.int (x:Nat)),r]/\H2=U/\x^k<=n/\n<y^k/\y<=2*10^20/\m=y-x,⟨_,1,2*h,none,rfl,rfl,by rw[Nat.one_pow];exact Fn,c,by omega,rfl⟩,?_⟩
   rintro m σ H2 ⟨x,y,r,rfl,rfl,hx,hy,wM,rfl⟩
   have Uq:x<y:=uH (k:=k) (by omega)
   refine(a_ rfl (a_ rfl (h9 rfl rfl (h9 rfl rfl (a_ rfl ?_)))))
   refine iU (λc=>?_) (λc=>?_)
   ·have c:x+1<y:=by have:=aL c;omega
    refine(⟨_,λik U n=>n,a_ rfl (a_ rfl (h9 rfl rfl (h9 rfl rfl ⟨⟨by decide,by decide⟩,?_⟩)))⟩)
    dsimp only[jL]
    rw[show((x:Int)+(y:Int))/2=(((x+y)/2:Nat):Int) by omega]
    refine(a_ rfl (a_ rfl ⟨(((x+y)/2:Nat):Int),k,rfl,Dd (by omega),by omega,a_ rfl (h9 rfl rfl (a_ rfl ?_))⟩))
    rw[Ee]
    refine iU (λc2=>?_) (λc2=>?_)
    ·exact(a_ rfl ⟨y-(x+y)/2,by omega,(x+y)/2,y,a_ rfl ⟨rfl,aL c2,hy,wM,rfl⟩⟩)
    ·have c2:n<((x+y)/2)^k:=by
      have:¬((x+y)/2)^k<=n:=λz=>c2 (ah z)
      omega
     exact(a_ rfl ⟨(x+y)/2-x,by omega,x,(x+y)/2,a_ rfl ⟨rfl,hx,c2,by omega,rfl⟩⟩)
   ·have c:y=x+1:=by
     have:¬(1:Int)<(y:Int)-(x:Int):=λz=>c (ah z)
     omega
    subst c
    rw[V9 sI hn hx hy]at kk
    refine(a_ rfl (a_ rfl ⟨(x:Int),k,rfl,Dd (by omega),by omega,a_ rfl ⟨rfl,a_ rfl ?_⟩⟩))
    have e:decide (V.int ((x:Int)^k)=V.int (n:Int))=decide (x^k=n):=by
     rw[aH,ak,ak,V.int.injEq,<-bH]
     omega
    rw[e]
    refine iU (λc3=>?_) (λc3=>?_)
    ·rw[aE (aL c3)]at kk
     exact(a_ rfl kk)
    ·rw[aq (λz=>c3 (ah z))]at kk
     exact kk
theorem GR{k n r:Nat}(h:Vaunia.natRoot k n=some r):r^k=n:=by
 unfold Vaunia.natRoot at h
 dsimp only at h
 split at h
 ·rename_i c
  rw[<-ae h];exact c
 ·cases h
noncomputable def Y_(a:hC):Sp:=λvs H R _=>∃p q k,vs=[.ref p,.int (k:Nat)]/\iN a H p q/\Pos q/\Vaunia.near q=true/\2<=k/\k<=9/\lH a H R (match Vaunia.natRoot k q.num.natAbs,Vaunia.natRoot k q.den with | some x,some y=>some (Q.of x y) | _,_=>none)
theorem Xl(T:Txt K mg a):Callee P w K mg base 3 "fraction_root" ["fraction","k"] (Y_ a):=by
 refine T.OQ.ok La (λvs H Q E h=>?_) (λf h8 A outer s H vs Q E hr h=>?_)
 ·obtain⟨_,_,_,rfl,_⟩:=h
  rfl
 ·obtain⟨p,q,k,rfl,⟨dx,hp⟩,ls,mR,sI,wt,kk⟩:=h
  have nd:=La.nd
  refine⟨_,gZ (ic (i:=2) nd rfl (Or.inl rfl) (hU (Hx T) hr (b_ (hG (pv 0) rfl) (b_ (pv 1) d_))))
   (gZ (ic (i:=3) nd rfl (Or.inl rfl) (hU (Hx T) hr (b_ (hG (pv 0) rfl) (b_ (pv 1) d_))))
   (gZ (iw (mD (iq l0 (pv 2) iM (ig _)) (mE (iq l0 (pv 3) iM (ig _)))).pt (g9 (hJ iM)) iy)
   (g9 (hJ (jk (pJ T) hr (b_ (pv 2) (b_ (pv 3) d_))))))),?_⟩
  dsimp only[il]
  have hq:=k9.mp mR
  have en:V.int q.num=V.int ((q.num.natAbs:Nat):Int):=by congr 1;have:=ls.2;omega
  refine(a_ rfl (hX rfl hp T.iQ.cl T.jN rfl (a_ rfl ⟨q.num.natAbs,k,by rw[<-en];rfl,by have:=ls.2;omega,hq.1,sI,wt,?_⟩)))
  refine(a_ rfl (hX rfl hp T.iQ.cl T.jM rfl (a_ rfl ⟨q.den,k,rfl,ls.1.1,hq.2,sI,wt,?_⟩)))
  cases e1:Vaunia.natRoot k q.num.natAbs with
  | none=>
   rw[e1]at kk
   exact⟨_,rfl,rfl,_,rfl,iu (iu (kk _ (c_.refl _)))⟩
  | some x=>
   refine(a_ rfl ⟨rfl,a_ rfl (iz (a_ rfl ⟨rfl,a_ rfl ?_⟩))⟩)
   cases e2:Vaunia.natRoot k q.den with
   | none=>
    rw[e1,e2]at kk
    exact iu (kk _ (c_.refl _))
   | some y=>
    rw[e1,e2]at kk
    have hx:=GR e1
    have hy:=GR e2
    have Sw:Nat.gcd x y=1:=N4 (k:=k) (by omega) (by rw[hx,hy];exact ls.1.2)
    have Ur:0<y:=by
     rcases cn y with z | z
     ·rw[z,Nat.zero_pow (by omega)]at hy;have:=ls.1.1;omega
     ·exact z
    have eo:Vaunia.Q.of (x:Int) y=⟨(x:Int),y⟩:=rK (q:=⟨(x:Int),y⟩) ⟨Ur,Sw⟩
    simp only[eo]at kk
    exact iz (a_ rfl (a_ rfl ⟨rfl,λz dz hz yH iJ=>kk z _ (c_.jc hz yH) ⟨dz,e_⟩⟩))
noncomputable def Z6(a:hC):Sp:=λvs H R _=>∃p v k,vs=[.ref p,.int (k:Nat)]/\jx a H p v/\Pos v.ratio/\Vaunia.near v.ratio=true/\v.powers.length<=40/\2<=k/\k<=9/\xZ a H R (Vaunia.rootOf k v)
theorem X0(T:Txt K mg a):Callee P w K mg base 4 "worth_root" ["worth","k"] (Z6 a):=by
 refine T.Qe.ok LX (λvs H Q E h=>?_) (λf h8 A outer s H vs Q E hr h=>?_)
 ·obtain⟨_,_,_,rfl,_⟩:=h
  rfl
 ·obtain⟨p,v,k,rfl,⟨dv,lr,lp,v1,v2,v3⟩,ls,mR,ue,sI,wt,kk⟩:=h
  have nd:=LX.nd
  refine⟨_,gZ (iw (ju (i7 (yj rfl) (by rfl) T.vL (by decide +kernel) (b_ (lA (own:=[("power",2)]) rfl nd (kj (hG (pv 0) rfl)) (j_ rfl) (λ_ _ _ _ _=>iT (i:=2) nd rfl (Or.inl rfl)) (λ_ _ _ _ _=>kT)
   (λ_ _ _ _ _=>kF CI (iH xt (pv 2) (pv 1)) ij (ig _))) d_)) (λ_=>rfl)) (g9 (hJ iM)) iy)
   (gZ (ic (i:=3) nd rfl (Or.inl rfl) (hU (Xl T) hr (b_ (hG (pv 0) rfl) (b_ (pv 1) d_))))
   (gZ (iw (iq l0 (pv 3) iM (ig _)) (g9 (hJ iM)) iy)
   (g9 (hJ (jk (w9 T) (hr.mono (by decide)) (b_ (pv 3) (b_ (lA (own:=[("power",2)]) rfl nd (kj (hG (pv 0) rfl)) (j_ rfl) (λ_ _ _ _ _=>iT (i:=2) nd rfl (Or.inl rfl)) (λ_ _ _ _ _=>kT)
    (λ_ _ _ _ _=>iH CH (pv 2) (pv 1))) d_))))))),?_⟩
  dsimp only[il]
  have wq:(0:Int)<(k:Int):=by omega
  generalize sJ:v.powers=ks at v3 ue
  have v3:xQ H lp ks:=v3
  refine(a_ rfl (hX rfl v1 T.jo.cl T.nB rfl ⟨lp,rfl,⟨_,f_.of v3⟩,λD hD=>mq (xs:=ks.map V.int) (λi U=>kY H D ((ks.take i).map λz=>V.bl (!(z % (k:Int) == 0))) U) (lZ hD) (λi U _ p=>f_.of (p.1 _ _ v3)) (λi x U hx p=>?_) (λH1 p1=>?_)⟩))
  ·obtain⟨z,hz,rfl⟩:=i8 hx
   have hi:=ja hz
   refine(⟨rfl,a_ rfl (a_ rfl (h9 rfl rfl ⟨wq,rfl,?_⟩))⟩)
   refine lY hD p (c_.refl _) (by rw[ab,aB];exact iV (by omega)) ?_
   rw[take_snoc hz,au]
   have e:(!decide (V.int (z % (k:Int))=V.int 0))=!(z % (k:Int) == 0):=by
    congr 1
    rw[aH,ak,dM,V.int.injEq]
   simp only[aO,dY,<-e]
  ·have HD:=p1.2
   rw[ab,aP]at HD
   refine⟨D,ks.map λz=>!(z % (k:Int) == 0),rfl,f_.of (by rw[HD,bu];rfl),_,rfl,?_⟩
   have QE:=DN (k:Int) ks
   rw[QE]
   unfold Vaunia.rootOf at kk
   rw[sJ]at kk
   cases jq:ks.all λz=>z % (k:Int) == 0 with
   | false=>
    rw[jq,aq ao]at kk
    exact iu (kk _ _ p1.1 rfl)
   | true=>
    rw[jq,aE rfl]at kk
    refine iz (a_ rfl (hX rfl (p1.1 _ _ v1) T.jo.cl T.kM rfl (a_ rfl ⟨lr,v.ratio,k,rfl,v2.same p1.1,ls,mR,sI,wt,lH.of λvv H2 s2 hv=>?_⟩)))
    have iI:=p1.1.trans s2
    cases jV:(match Vaunia.natRoot k v.ratio.num.natAbs,Vaunia.natRoot k v.ratio.den with | some x,some y=>some (Vaunia.Q.of x y) | _,_=>none) with
    | none=>
     rw[jV]at hv
     have hv:vv= .ia:=hv
     subst hv
     have kk:xZ a H Q none:=by
      cases e1:Vaunia.natRoot k v.ratio.num.natAbs with
      | none=>rw[e1]at kk;exact kk
      | some x=>
       cases e2:Vaunia.natRoot k v.ratio.den with
       | none=>rw[e1,e2]at kk;exact kk
       | some y=>rw[e1,e2]at jV;cases jV
     exact⟨_,rfl,rfl,_,rfl,iu (kk _ _ iI rfl)⟩
    | some q=>
     rw[jV]at hv
     have kk:xZ a H Q (some ⟨q,ks.map λx=>x/(k:Int)⟩):=by
      cases e1:Vaunia.natRoot k v.ratio.num.natAbs with
      | none=>rw[e1]at jV;cases jV
      | some x=>
       cases e2:Vaunia.natRoot k v.ratio.den with
       | none=>rw[e1,e2]at jV;cases jV
       | some y=>
        rw[e1,e2]at jV kk
        rw[<-ae jV];exact kk
     obtain⟨pr,rfl,oN⟩:=hv
     refine(a_ rfl ⟨rfl,a_ rfl (iz (a_ rfl (a_ rfl (hX rfl (iI _ _ v1) T.jo.cl T.nB rfl ⟨lp,rfl,⟨_,f_.of (iI _ _ v3)⟩,λD2 nW=>mq (xs:=ks.map V.int) (λi U=>kY H2 D2 ((ks.take i).map λz=>V.int (z/(k:Int))) U) (lZ nW) (λi U _ p=>f_.of (p.1 _ _ (iI _ _ v3))) (λi x U hx p=>?_) (λH3 p3=>?_)⟩))))⟩)
     ·obtain⟨z,hz,rfl⟩:=i8 hx
      have hi:=ja hz
      refine(⟨rfl,a_ rfl (a_ rfl (h9 rfl rfl ⟨⟨wq,by omega⟩,?_⟩))⟩)
      refine lY nW p (c_.refl _) (by rw[ab,aB];exact iV (by omega)) ?_
      rw[take_snoc hz,au];rfl
     ·have rP:=p3.2
      rw[ab,aP]at rP
      refine⟨rfl,λy dy hy iY iJ=>?_⟩
      have s4:=c_.jc (o:=.ins a.ox dy (uJ [.ref pr,.ref D2])) (o':=.own y) hy iY
      refine kk _ _ ((iI.trans p3.1).trans s4) ⟨y,rfl,dy,pr,D2,e_,(oN.same p3.1).same s4,?_⟩
      show _=some (HO.lst ((ks.map λx=>x/(k:Int)).map V.int))
      rw[s4 _ _ rP,bu];rfl
end
noncomputable def kh(v:Vaunia.Worth):K3:=(v.ratio.num,(v.ratio.den:Int),v.powers)
theorem F_{v u:Vaunia.Worth}(h:kh v=kh u):v=u:=by
 obtain⟨⟨n,d⟩,ks⟩:=v
 obtain⟨⟨m,e⟩,js⟩:=u
 unfold kh at h
 simp only[Prod.mk.injEq]at h
 obtain⟨h1,h2,h3⟩:=h
 have h2:d=e:=by omega
 rw[h1,h2,h3]
noncomputable def oE(v:Vaunia.Worth)(k:K3):Option Int:=Vaunia.POWERS.find? λi=>decide (kh (Vaunia.raised v i)=k)
theorem AU{α β:Type}(p:α->Bool)(f:α->β):∀l:List α,(l.findSome? λx=>if p x=true then some (f x) else none)=(l.find? p).map f
 | []=>rfl
 | x::r=>by
  rw[fe,a8]
  cases h:p x with
  | true=>rw[aE rfl];rfl
  | false=>rw[aq ao];exact AU p f r
theorem ub{α β:Type}{f g:α->Option β}:∀{l:List α},(∀x∈l,f x=g x)->l.findSome? f=l.findSome? g
 | [],_=>rfl
 | x::r,h=>by
  rw[fe,fe,h x aD,ub λy hy=>h y (aw _ hy)]
theorem aa8(m:Vaunia.Meaning)(w:Vaunia.Worth):Vaunia.shortOne m w=m.findSome? λp=>(oE p.2 (kh w)).map λi=>[(p.1,i)]:=by
 unfold Vaunia.shortOne
 refine ub λp _=>?_
 unfold oE
 rw[<-AU]
 refine ub λi _=>?_
 by_cases c:Vaunia.raised p.2 i=w
 ·rw[aE c,aE (ah (by rw[c]))]
 ·rw[aq c,aq (λz=>c (F_ (aL z)))]
theorem V5{A B W:Q}(hA:Pos A)(hB:Pos B)(hW:Pos W):Q.mul A B=W↔B=Q.of (W.num*A.den) (W.den*A.num.natAbs):=by
 have EM:(A.num.natAbs:Int)=A.num:=by have:=hA.2;omega
 have d1:0<A.den*B.den:=bL hA.1.1 hB.1.1
 have d2:0<W.den*A.num.natAbs:=bL hW.1.1 (by have:=hA.2;omega)
 constructor
 ·intro h
  have hv:=pM (A.num*B.num) d1
  have h:Q.of (A.num*B.num) (A.den*B.den)=W:=h
  rw[h,aW]at hv
  rw[<-rK hB.1]
  refine uR hB.1.1 d2 ?_
  rw[aW,EM]
  have e1:B.num*((W.den:Int)*A.num)=A.num*B.num*W.den:=by ac_rfl
  have e2:W.num*(A.den:Int)*B.den=W.num*(A.den*B.den):=by ac_rfl
  rw[e1,e2,hv]
 ·intro h
  have h2:Q.of B.num B.den=Q.of (W.num*A.den) (W.den*A.num.natAbs):=by rw[rK hB.1];exact h
  have hi:=WM hB.1.1 d2 h2
  rw[aW,EM]at hi
  show Q.of (A.num*B.num) (A.den*B.den)=W
  rw[<-rK hW.1]
  refine uR d1 hW.1.1 ?_
  rw[aW]
  have e1:A.num*B.num*(W.den:Int)=B.num*(W.den*A.num):=by ac_rfl
  have e2:W.num*((A.den:Int)*B.den)=W.num*A.den*B.den:=by ac_rfl
  rw[e1,e2,hi]
theorem M0:∀{a b w:List Int},a.length=b.length->w.length=a.length->(List.zipWith (λ(x y:Int)=>x+y) a b=w↔b=(w.zip a).map λy=>y.1-y.2)
 | [],[],[],_,_=>⟨λ_=>rfl,λ_=>rfl⟩
 | x::a,y::b,z::w,h1,h2=>by
  have ih:=M0 (a:=a) (b:=b) (w:=w) (by simpa using h1) (by simpa using h2)
  simp only[List.zipWith_cons_cons,List.zip_cons_cons,aO,fk]
  rw[ih]
  constructor
  ·rintro⟨p,q⟩;exact⟨by omega,q⟩
  ·rintro⟨p,q⟩;exact⟨by omega,q⟩
 | [],_::_,_,h,_=>by simp at h
 | _::_,[],_,h,_=>by simp at h
 | [],[],_::_,_,h=>by simp at h
 | _::_,_::_,[],_,h=>by simp at h
theorem abR{a b w:Vaunia.Worth}(ha:Pos a.ratio)(hb:Pos b.ratio)(hw:Pos w.ratio)(h1:a.powers.length=b.powers.length)(h2:w.powers.length=a.powers.length):Vaunia.times a b=w↔kh b=kh (pQ w a):=by
 have e:Vaunia.times a b=w↔b=pQ w a:=by
  obtain⟨ar,ap⟩:=a
  obtain⟨br,bp⟩:=b
  obtain⟨wr,wp⟩:=w
  unfold Vaunia.times pQ
  rw[eL,eL]
  exact and_congr (V5 ha hb hw) (M0 h1 h2)
 rw[e]
 exact⟨λh=>by rw[h],λh=>F_ h⟩
structure vB(n:Nat)(v:Vaunia.Worth):Prop where
 pos:Pos v.ratio
 near:Vaunia.near v.ratio=true
 len:v.powers.length=n
theorem C6{v:Vaunia.Worth}(h:Pos v.ratio)(k:Int):Pos (Vaunia.raised v k).ratio:=zpow_pos h k
theorem zN(v:Vaunia.Worth)(k:Int):(Vaunia.raised v k).powers.length=v.powers.length:=ab _
theorem aa9{n:Nat}{p:List UInt8×Vaunia.Worth}{later:Vaunia.Meaning}{w:Vaunia.Worth}(hp:vB n p.2)(hl:∀q∈later,vB n q.2)(hw:vB n w):
 Vaunia.shortWith p later w=later.findSome? λq=>Vaunia.POWERS.findSome? λi=>(oE q.2 (kh (pQ w (Vaunia.raised p.2 i)))).map λj=>[(p.1,i),(q.1,j)]:=by
 unfold Vaunia.shortWith
 refine ub λq hq=>ub λi _=>?_
 unfold oE
 rw[<-AU]
 refine ub λj _=>?_
 have hq:=hl q hq
 have e:=abR (a:=Vaunia.raised p.2 i) (b:=Vaunia.raised q.2 j) (w:=w) (C6 hp.pos i) (C6 hq.pos j) hw.pos (by rw[zN,zN,hp.len,hq.len]) (by rw[zN,hp.len,hw.len])
 by_cases c:Vaunia.times (Vaunia.raised p.2 i) (Vaunia.raised q.2 j)=w
 ·rw[aE c,aE (ah (e.mp c))]
 ·rw[aq c,aq (λz=>c (e.mpr (aL z)))]
theorem Em{α:Type}(p:α->Bool)(l:List α)(x:α):(l++[x]).find? p=(l.find? p).or (if p x then some x else none):=by
 rw[List.find?_append]
 congr 1
 rw[a8,List.find?_nil]
 cases p x<;>rfl
theorem aca(xs:L3)(k k':K3)(b:Addr)(i:Int):mZ (xs++[(k,b,i)]) k'=(mZ xs k').or (if k=k' then some i else none):=by
 unfold mZ
 rw[Em]
 cases xs.find? λx=>decide (x.1=k') with
 | some x=>rfl
 | none=>
  show Option.map _ (if decide (k=k')=true then some (k,b,i) else none)=if k=k' then some i else none
  by_cases c:k=k'
  ·rw[aE c,aE (ah c)];rfl
  ·rw[aq c,aq (λz=>c (aL z))];rfl
theorem ko.uE{P:Program}{w:World}{H U:Hp}{d p:Addr}{k:K3}{xs:L3}(h:ko H p k)(hd:H d=some (D3 P w d xs))(kp:Kp d H U):ko U p k:=by
 obtain⟨q,h1,h2⟩:=h
 exact⟨q,kp _ _ (iC h1 hd (by intro z;cases z)) h1,kp _ _ (iC h2 hd (by intro z;cases z)) h2⟩
noncomputable def xU(a:hC)(H:Hp)(l:Addr)(vs:List Vaunia.Worth):Prop:=∃ps:List Addr,H l=some (.lst (ps.map V.ref))/\Zip (jx a H) ps vs
theorem xU.same{a:hC}{H U:Hp}{l:Addr}{vs:List Vaunia.Worth}(h:xU a H l vs)(s:c_ H U):xU a U l vs:=by
 obtain⟨ps,h1,h2⟩:=h
 exact⟨ps,s _ _ h1,h2.mono λx y r=>r.same s⟩
noncomputable def qL(P:Program)(w:World)(a:hC)(H:Hp)(p:Addr)(x:List UInt8×Vaunia.Worth):Prop:=
 ∃dx n lw pd xs,H p=some (.ins a.qR dx [("name",.ref n),("worths",.ref lw),("powers",.ref pd)])/\jC H n x.1/\xU a H lw (Vaunia.POWERS.map (Vaunia.raised x.2))/\l_ P w H pd xs/\∀k,mZ xs k=oE x.2 k
theorem qL.same{P:Program}{w:World}{a:hC}{H U:Hp}{p:Addr}{x:List UInt8×Vaunia.Worth}(h:qL P w a H p x)(s:c_ H U):qL P w a U p x:=by
 obtain⟨dx,n,lw,pd,xs,h1,h2,h3,h4,h5⟩:=h
 exact⟨dx,n,lw,pd,xs,s _ _ h1,s _ _ h2,h3.same s,h4.same s,h5⟩
noncomputable def tN(P:Program)(w:World)(a:hC)(H:Hp)(l:Addr)(m:Vaunia.Meaning):Prop:=∃ps:List Addr,H l=some (.lst (ps.map V.ref))/\Zip (qL P w a H) ps m
theorem tN.same{P:Program}{w:World}{a:hC}{H U:Hp}{l:Addr}{m:Vaunia.Meaning}(h:tN P w a H l m)(s:c_ H U):tN P w a U l m:=by
 obtain⟨ps,h1,h2⟩:=h
 exact⟨ps,s _ _ h1,h2.mono λx y r=>r.same s⟩
section
variable{P:Program}{w:World}{K:Fg}{mg:Str->Option Value}{base:Heap}{a:hC}
noncomputable def GC(us:List V):List (Str×V):=[("name",us.getD 0 .ia),("worths",us.getD 1 .ia),("powers",us.getD 2 .ia)]
theorem V0(T:Txt K mg a):Maker P w K mg base "Tried" a.qR 3 GC:=by
 refine T.oa.maker aaA rfl λf h8 A outer s H p us dx Q E hr hl hp q=>?_
 match us,hl with
 | [u,v,x],_=>
  refine⟨_,gZ (jH (pv 0) (pv 1) rfl) (gZ (jH (pv 0) (pv 2) rfl) (g9 (jH (pv 0) (pv 3) rfl))),?_⟩
  dsimp only[il]
  refine(a_ rfl (a_ rfl ⟨p,_,dx,a_ rfl ⟨hp,T.oa.cl,T.zu,(by show 0<1000;decide),?_⟩⟩))
  refine(a_ rfl (a_ rfl ⟨p,_,dx,a_ rfl ⟨e_,T.oa.cl,T.GQ,(by show 1<1000;decide),?_⟩⟩))
  refine(a_ rfl (a_ rfl ⟨p,_,dx,a_ rfl ⟨e_,T.oa.cl,T.xg,(by show 2<1000;decide),?_⟩⟩))
  rw[kn,kn]
  exact q
noncomputable def Mb(a:hC):Sp:=λvs H R _=>∃p v,vs=[.ref p]/\jx a H p v/\∀q U,c_ H U->ko U q (kh v)->R (.ref q) U
theorem CC(T:Txt K mg a):Callee P w K mg base 1 "key_of" ["worth"] (Mb a):=by
 refine T.O8.ok aaW (λvs H Q E h=>?_) (λf h8 A outer s H vs Q E hr h=>?_)
 ·obtain⟨_,_,rfl,_⟩:=h
  rfl
 ·obtain⟨p,v,rfl,⟨dv,lr,lp,v1,⟨de,v2⟩,v3⟩,k⟩:=h
  refine⟨_,g9 (hJ (rQ (b_ (hG (hG (pv 0) rfl) rfl) (b_ (hG (hG (pv 0) rfl) rfl) (b_ (l7 t5 (by rfl) T.tU (by decide +kernel) (b_ (hG (pv 0) rfl) d_)) d_))))),?_⟩
  dsimp only[il]
  refine(a_ rfl (hX rfl v1 T.jo.cl T.kM rfl (hX rfl v2 T.iQ.cl T.jN rfl ?_)))
  refine(a_ rfl (hX rfl v1 T.jo.cl T.kM rfl (hX rfl v2 T.iQ.cl T.jM rfl ?_)))
  refine(a_ rfl (hX rfl v1 T.jo.cl T.nB rfl ⟨lp,a_ rfl (.inl ⟨f_.of v3,λq hq=>?_⟩)⟩))
  refine⟨by show 3<=sizeLine;decide,λq2 kK=>k q2 _ ((c_.new hq).trans (c_.new kK)) ⟨q,e_,(c_.new kK) _ _ e_⟩⟩
end
noncomputable def m8(P:Program)(w:World)(a:hC)(bad:Addr->Prop)(H:Hp)(p:Addr)(x:List UInt8×Vaunia.Worth):Prop:=
 ∃dx n lw pd xs,∃qs:List Addr,¬bad lw/\H p=some (.ins a.qR dx [("name",.ref n),("worths",.ref lw),("powers",.ref pd)])/\jC H n x.1/\H lw=some (.lst (qs.map V.ref))/\Zip (mJ a bad H) qs (Vaunia.POWERS.map (Vaunia.raised x.2))/\l_ P w H pd xs/\∀k,mZ xs k=oE x.2 k
theorem m8.UM{P:Program}{w:World}{a:hC}{bad:Addr->Prop}{H:Hp}{p:Addr}{x:List UInt8×Vaunia.Worth}(h:m8 P w a bad H p x):qL P w a H p x:=by
 obtain⟨dx,n,lw,pd,xs,qs,_,h1,h2,h3,h4,h5,h6⟩:=h
 exact⟨dx,n,lw,pd,xs,h1,h2,⟨qs,h3,h4.mono λx y r=>r.F6⟩,h5,h6⟩
theorem m8.same{P:Program}{w:World}{a:hC}{bad:Addr->Prop}{H U:Hp}{p:Addr}{x:List UInt8×Vaunia.Worth}(h:m8 P w a bad H p x)(s:c_ H U):m8 P w a bad U p x:=by
 obtain⟨dx,n,lw,pd,xs,qs,b,h1,h2,h3,h4,h5,h6⟩:=h
 exact⟨dx,n,lw,pd,xs,qs,b,s _ _ h1,s _ _ h2,s _ _ h3,h4.mono λx y r=>r.same s,h5.same s,h6⟩
theorem m8.mono{P:Program}{w:World}{a:hC}{bad vN:Addr->Prop}{H:Hp}{p:Addr}{x:List UInt8×Vaunia.Worth}(h:m8 P w a bad H p x)(m:∀b,vN b->bad b):m8 P w a vN H p x:=by
 obtain⟨dx,n,lw,pd,xs,qs,b,h1,h2,h3,h4,h5,h6⟩:=h
 exact⟨dx,n,lw,pd,xs,qs,λz=>b (m _ z),h1,h2,h3,h4.mono λx y r=>r.mono m,h5,h6⟩
theorem l_.uF{P:Program}{w:World}{H U:Hp}{d l:Addr}{xs:L3}{ys:List V}(h:l_ P w H d xs)(hl:H l=some (.lst ys))(k:Kp l H U):l_ P w U d xs:=by
 refine⟨k _ _ (iC h.1 hl (by intro z;cases z)) h.1,λx hx=>?_⟩
 obtain⟨q,h1,h2⟩:=h.2 x hx
 exact⟨q,k _ _ (iC h1 hl (by intro z;cases z)) h1,k _ _ (iC h2 hl (by intro z;cases z)) h2⟩
theorem m8.kp{P:Program}{w:World}{a:hC}{bad:Addr->Prop}{H U:Hp}{p d:Addr}{x:List UInt8×Vaunia.Worth}{ys:List V}(h:m8 P w a bad H p x)(hb:bad d)(hd:H d=some (.lst ys))(k:Kp d H U):m8 P w a bad U p x:=by
 obtain⟨dx,n,lw,pd,xs,qs,b,h1,h2,h3,h4,h5,h6⟩:=h
 exact⟨dx,n,lw,pd,xs,qs,b,k _ _ (iC h1 hd (by intro z;cases z)) h1,k _ _ (iC h2 hd (by intro z;cases z)) h2,k _ _ (λz=>b (z▸hb)) h3,h4.mono λx y r=>r.kp hb hd k,l_.uF h5 hd k,h6⟩
noncomputable def Me(P:Program)(w:World)(a:hC):Sp:=λvs H R _=>∃bk d b kvs n x fw,vs=[.ref bk,.ref n]/\iB a H bk d b kvs/\jC H n x/\x∈b.map (·.name)/\jG (iE b) x=some fw/\si fw/\∀p U,c_ H U->m8 P w a (λb=>H b≠none) U p (x,jf (Vaunia.bases b) fw)->R (.ref p) U
theorem HC{α:Type}(p:α->Bool){l:List α}{i:Nat}{x:α}(h:l[i]? =some x):(l.take (i+1)).find? p=((l.take i).find? p).or (if p x then some x else none):=by
 rw[take_snoc h,Em]
section
variable{P:Program}{w:World}{K:Fg}{mg:Str->Option Value}{base:Heap}{a:hC}
theorem XU(T:Txt K mg a):Callee P w K mg base 5 "tried_of" ["book","name"] (Me P w a):=by
 refine T.P5.ok LO (λvs H Q E h=>?_) (λf h8 A outer s H vs Q E hr h=>?_)
 ·obtain⟨_,_,_,_,_,_,_,rfl,_⟩:=h
  rfl
 ·obtain⟨bk,d,b,kvs,n,x,fw,rfl,B,hn,hx,jT,wJ,k⟩:=h
  have nd:=LO.nd
  obtain⟨pp,yU,pC⟩:=T.EH
  refine⟨_,gZ (ic (i:=2) nd rfl (Or.inr rfl) (hU (Cz T) (hr.mono (by decide)) (b_ (pv 0) (b_ (pv 1) d_))))
   (gZ (uX (i:=3) (own:=[("power",4)]) (g:=jL 4) (wi:=FY K (tC (.ref pp))) (te:=tG (Mc a) [] E0 (mG (jb 2) (mG (jb 4) pV))) rfl nd rfl rfl rfl (Yn (zH (v:=.ref pp) (by rfl) yU rfl)) (j_ rfl) (λ_ _ _ _ _=>iT (i:=4) nd rfl (Or.inl rfl)) (λ_ _ _ _ _=>kT)
    (λ_ _ _ _ _=>hU (XJ T) hr (b_ (pv 2) (b_ (pv 4) d_))))
   (gZ (ic (i:=5) nd rfl (Or.inl rfl) Yc)
   (gZ (lC aX rfl (HU rfl T.vM (b_ (zH (v:=.ref pp) (by rfl) yU rfl) (b_ (pv 3) d_))) (nF rfl (jX (iT (i:=4) nd rfl (Or.inl rfl)) (jX (iT (i:=6) nd rfl (Or.inl rfl)) nG)))
    (g9 (lR (Yj hr.units (pv 5) (hU (CC T) (hr.mono (by decide)) (b_ (pv 6) d_)) (pv 4) ⟨rfl,rfl,rfl,rfl⟩))))
   (g9 (hJ (jk (V0 T) (hr.mono (by decide)) (b_ (pv 1) (b_ (pv 3) (b_ (pv 5) d_))))))))),?_⟩
  dsimp only[il]
  refine(a_ rfl (a_ rfl ⟨bk,d,b,kvs,n,x,fw,rfl,B,hn,hx,jT,λp1 H1 s1 h1=>?_⟩))
  have ni:=sm B
  generalize hv:jf (Vaunia.bases b) fw=v at h1 k
  have ach:Pos v.ratio:=by rw[<-hv];exact wJ.1
  have vi:Vaunia.near v.ratio=true:=by rw[<-hv];exact wJ.2.1
  have acg:v.powers.length<=40:=by rw[<-hv];show((Vaunia.bases b).map fw.2).length<=40;rw[ab];exact ni
  have hP:∀H,iO K H pp (Vaunia.POWERS.map V.int):=pC
  have R6:∀z∈Vaunia.POWERS,z.natAbs<=99:=by decide
  have hb6:Vaunia.POWERS.length=6:=rfl
  refine⟨pp,rfl,⟨_,hP _⟩,λD hD=>Vw (xs:=Vaunia.POWERS.map V.int) (λi U=>c_ H1 U/\∃qs:List Addr,U D=some (.lst (qs.map V.ref))/\Zip (mJ a (λb=>b=D\/H b≠none) U) qs ((Vaunia.POWERS.take i).map (Vaunia.raised v))) ⟨c_.new hD,[],e_,Zip.nil⟩ (λi U _ _=>hP _) (λi y U hy p=>?_) (λH2 p=>?_)⟩
  ·obtain⟨s2,qs,jn,jv⟩:=p
   obtain⟨z,hz,rfl⟩:=i8 hy
   have hi:=ja hz
   refine(⟨rfl,a_ rfl (a_ rfl ⟨p1,v,z,rfl,h1.same s2,ach,vi,acg,R6 z (aG hz),λp3 H3 s3 h3=>?_⟩)⟩)
   have ug:=s3 _ _ jn
   have kL:=jv.1
   rw[ab,aB]at kL
   refine⟨_,ug,by rw[ab,kL];exact iV (by omega),Kp.same s2 hD (s3.kp.trans Kp.upd),qs++[p3],by rw[e_,au];rfl,?_⟩
   rw[take_snoc hz,au]
   refine(jv.mono λx y r=>(r.same s3).kp (.inl rfl) ug Kp.upd).snoc ((h3.mono ?_).kp (.inl rfl) ug Kp.upd)
   rintro c (e | e)
   ·rw[e,jn];exact λz=>by cases z
   ·intro hc
    have Sn:H c=none:=(s1.trans s2).free hc
    exact e Sn
  ·obtain⟨s2,qs,jn,jv⟩:=p
   rw[ab,aP]at jv
   have kL:=jv.1
   rw[ab]at kL
   have iI:=s1.trans s2
   intro pd oM
   have s3:=c_.new (o:=D3 P w pd []) oM
   refine(a_ rfl ⟨pp,D,_,a_ rfl ⟨hP _,f_.of (s3 _ _ jn),Ey (K:=K) (a:=pp) (b:=D) (xs:=Vaunia.POWERS.map V.int) (ys:=qs.map V.ref) (by rw[ab,ab,kL]) (λi σ U=>∃(xs:L3) (r4 r6:Option V),σ=[some (.ref bk),some (.ref n),some (.ref p1),some (.ref D),r4,some (.ref pd),r6]/\c_ H2 U/\l_ P w U pd xs/\xs.length<=i/\∀k,mZ xs k=(Vaunia.POWERS.take i).find? λj=>decide (kh (Vaunia.raised v j)=k))
    ⟨[],none,none,rfl,s3,⟨e_,λx hx=>(by cases hx)⟩,ax _,λk=>rfl⟩ (λi σ U ⟨_,_,_,_,s4,_⟩=>⟨hP _,f_.of (s4 _ _ jn)⟩) ?_ ?_⟩⟩)
   ·rintro i y y2 σ U Tt hy wM ⟨xs,r4,r6,rfl,s4,h3,Up,wI⟩ hT
    obtain⟨z,hz,rfl⟩:=i8 hy
    obtain⟨q,hq,rfl⟩:=i8 wM
    have hi:=ja hz
    obtain⟨u,hu,BC⟩:=jv.right hq
    obtain⟨z2,ny,rfl⟩:=i8 hu
    rw[hz]at ny
    have e2:z=z2:=ae ny
    subst e2
    have sT:=c_.new (o:=.tup [V.int z,V.ref q]) hT
    refine⟨Tt,_,rfl,iO.of e_,rfl,_,_,rfl,_,_,rfl,rfl,?_⟩
    refine⟨_,rfl,pd,xs,rfl,h3.same sT,_,rfl,q,_,rfl,(BC.F6.same (s4.trans sT)),λp5 H5 s5 h5=>?_⟩
    have Dj:=sT.trans s5
    have a5:=h3.same Dj
    have j7:=s4.trans Dj
    refine(a_ rfl ⟨p5,kh (Vaunia.raised v z),xs,z,rfl,rfl,a5,h5,by omega,λj hj=>?_,λhn=>?_⟩)
    ·refine(⟨xs,_,a_ rfl ⟨j7,a5,by omega,λk=>?_⟩⟩)
     rw[HC _ hz,<-wI k]
     by_cases c:kh (Vaunia.raised v z)=k
     ·rw[<-c,hj];rfl
     ·rw[az c,aq ao,Option.or_none]
    ·have kp:Kp pd H5 (upd H5 pd (D3 P w pd (xs++[(kh (Vaunia.raised v z),p5,z)]))):=Kp.upd
     refine(⟨_,_,a_ rfl ⟨Kp.same s4 oM (Dj.kp.trans kp),⟨e_,λy hy=>?_⟩,by rw[aj,aA];omega,λk=>?_⟩⟩)
     ·rcases bg.mp hy with hy | hy
      ·exact ko.uE (a5.2 y hy) a5.1 kp
      ·rw[bA.mp hy];exact ko.uE h5 a5.1 kp
     ·rw[aca,HC _ hz,<-wI k]
      congr 1
      by_cases c:kh (Vaunia.raised v z)=k
      ·rw[aE c,aE (ah c)]
      ·rw[aq c,aq (λq=>c (aL q))]
   ·rintro σ U ⟨xs,r4,r6,rfl,s4,h3,Up,wI⟩
    rw[ab,aP]at wI
    refine(a_ rfl (a_ rfl (a_ rfl ⟨rfl,λy dy hy iY iJ=>?_⟩)))
    have s5:=c_.jc (o:=.ins a.qR dy (GC [.ref n,.ref D,.ref pd])) (o':=.own y) hy iY
    have j7:=s4.trans s5
    refine k y _ ((iI.trans s4).trans s5) ⟨dy,n,D,pd,xs,qs,λz=>z (s1.free hD),e_,(iI.trans j7) _ _ hn,j7 _ _ jn,jv.mono λx y r=>(r.mono λc hc=>.inr hc).same j7,h3.same s5,wI⟩
end
noncomputable def tQ(H:Hp)(v:V):Option (List Vaunia.Factor)->Prop
 | none=>v= .ia
 | some fs=>∃p,v= .ref p/\j9 H p fs
theorem tQ.same{H U:Hp}{v:V}{o:Option (List Vaunia.Factor)}(h:tQ H v o)(s:c_ H U):tQ U v o:=by
 cases o with
 | none=>exact h
 | some fs=>obtain⟨p,e,h⟩:=h;exact⟨p,e,h.same s⟩
theorem acE{f:Int->Bool}{i:Int}(h:Vaunia.POWERS.find? f=some i):i∈Vaunia.POWERS:=dS h
noncomputable def Mf(a:hC):Sp:=λvs H R _=>∃p q v x,vs=[.ref p,.ref q]/\jx a H p v/\jx a H q x/\mK v.ratio/\mK x.ratio/\0<v.ratio.den/\0<x.ratio.num/\v.powers.length=x.powers.length/\v.powers.length<=40/\∀p U,c_ H U->jx a U p (pQ v x)->R (.ref p) U
noncomputable def tL(H:Hp)(l:Addr)(ks:List K3):Prop:=∃ps:List Addr,H l=some (.lst (ps.map V.ref))/\Zip (ko H) ps ks
theorem tL.same{H U:Hp}{l:Addr}{ks:List K3}(h:tL H l ks)(s:c_ H U):tL U l ks:=by
 obtain⟨ps,h1,h2⟩:=h
 exact⟨ps,s _ _ h1,h2.mono λx y r=>ko.same r s⟩
theorem VR{v:Vaunia.Worth}(h:Pos v.ratio)(hn:Vaunia.near v.ratio=true){k:Int}(hk:k.natAbs<=3):mK (Vaunia.raised v k).ratio:=by
 rw[Iq h]
 have hq:=k9.mp hn
 have key:∀x:Nat,x<10^40->x^k.natAbs<=10^1000:=λx hx=>by
  have h1:x^k.natAbs<=(10^40)^k.natAbs:=dF (aI hx) _
  rw[<-gC]at h1
  exact aN h1 (a0 (by decide) (by omega))
 constructor
 ·show(((above v.ratio k:Nat):Int)).natAbs<=10^1000
  rw[bS]
  unfold above
  split
  ·exact key _ hq.1
  ·exact key _ hq.2
 ·show below v.ratio k<=10^1000
  unfold below
  split
  ·exact key _ hq.2
  ·exact key _ hq.1
theorem AS{α β:Type}{f:α->Option β}{l:List α}{i:Nat}{x:α}(h:l[i]? =some x):(l.drop i).findSome? f=(f x).or ((l.drop (i+1)).findSome? f):=by
 rw[o9 h,fe]
 cases f x<;>rfl
section
variable{P:Program}{w:World}{K:Fg}{mg:Str->Option Value}{base:Heap}{a:hC}
noncomputable def Zx(P:Program)(w:World)(a:hC):Sp:=λvs H R _=>∃l pw m v,vs=[.ref l,.ref pw]/\tN P w a H l m/\jx a H pw v/\∀u U,c_ H U->tQ U u (Vaunia.shortOne m v)->R u U
theorem XD(T:Txt K mg a):Callee P w K mg base 2 "one_factor" ["all_tried","worth"] (Zx P w a):=by
 refine T.Po.ok Lm (λvs H Q E h=>?_) (λf h8 A outer s H vs Q E hr h=>?_)
 ·obtain⟨_,_,_,_,rfl,_⟩:=h
  rfl
 ·obtain⟨l,pw,m,v,rfl,⟨ps,hl,zp⟩,hw,k⟩:=h
  have nd:=Lm.nd
  refine⟨_,gZ (ic (i:=2) nd rfl (Or.inl rfl) (hU (CC T) hr (b_ (pv 1) d_)))
   (gZ (lC aX rfl (kj (pv 0)) (iT (i:=3) nd rfl (Or.inl rfl))
    (g9 (iw (zK (HK hr.units (pv 2) (hG (pv 3) rfl)) (by with_unfolding_all rfl))
     (g9 (hJ (iL (b_ (rQ (b_ (hG (pv 3) rfl) (b_ (HP hr.units (hG (pv 3) rfl) (pv 2) (λ_ _=>rfl)) d_))) d_)))) iy)))
   (g9 (hJ iM))),?_⟩
  dsimp only[il]
  have hlen:=zp.1
  rw[aa8]at k
  refine(a_ rfl ⟨pw,v,rfl,hw,λkp H1 s1 hk=>?_⟩)
  refine(a_ rfl ⟨l,rfl,⟨_,f_.of (s1 _ _ hl)⟩,qY (K:=K) (a:=l) (xs:=ps.map V.ref) (λi σ U=>∃r3:Option V,σ=[some (.ref l),some (.ref pw),some (.ref kp),r3]/\U=H1/\(m.findSome? λp=>(oE p.2 (kh v)).map λi=>[(p.1,i)])=((m.drop i).findSome? λp=>(oE p.2 (kh v)).map λi=>[(p.1,i)]))
   ⟨none,rfl,rfl,rfl⟩ (λi σ U _ ⟨_,_,e,_⟩=>e▸f_.of (s1 _ _ hl)) ?_ ?_⟩)
  ·rintro i x σ U hx ⟨r3,rfl,rfl,e⟩
   obtain⟨p,hp,rfl⟩:=i8 hx
   obtain⟨y,hy,pC⟩:=zp.right hp
   obtain⟨dx,n,lw,pd,xs,g1,g2,g3,g4,g5⟩:=pC.same s1
   rw[AS hy]at e
   refine(a_ rfl (a_ rfl (hX rfl g1 T.oa.cl T.xg rfl ⟨pd,kp,kh v,xs,rfl,rfl,g4,hk,a_ rfl ?_⟩)))
   rw[g5]
   cases hf:oE y.2 (kh v) with
   | none=>
    rw[hf]at e
    exact iz ⟨_,rfl,rfl,e⟩
   | some j=>
    rw[hf]at e
    refine iu (a_ rfl (hX rfl g1 T.oa.cl T.zu rfl (a_ rfl (hX rfl g1 T.oa.cl T.xg rfl (a_ rfl ⟨pd,kp,kh v,xs,j,rfl,rfl,g4,hk,by rw[g5];exact hf,by show 2<=sizeLine;decide,λp2 jA=>⟨by show 1<=sizeLine;decide,λl2 jd=>?_⟩⟩)))))
    have s2:=c_.new (o:=.tup [V.ref n,V.int j]) jA
    have s3:=c_.new (o:=.lst [V.ref p2]) jd
    refine k _ _ ((s1.trans s2).trans s3) ?_
    rw[e]
    exact⟨l2,rfl,[p2],e_,Zip.snoc (xs:=[]) (ys:=[]) Zip.nil ⟨n,s3 _ _ e_,(s2.trans s3) _ _ g2⟩⟩
  ·rintro σ U ⟨r3,rfl,rfl,e⟩
   rw[ab,hlen,b0]at e
   refine k _ _ s1 ?_
   rw[e];rfl
theorem XZ(T:Txt K mg a):Callee P w K mg base 5 "without" ["worth","part"] (Mf a):=XY T
end
noncomputable def oW(v:Vaunia.Worth)(p q:List UInt8×Vaunia.Worth)(i:Int):Option (List Vaunia.Factor):=(oE q.2 (kh (pQ v (Vaunia.raised p.2 i)))).map λj=>[(p.1,i),(q.1,j)]
theorem L0(v:Vaunia.Worth)(p:List UInt8×Vaunia.Worth)(r:Vaunia.Meaning):Vaunia.shortTwo v (p::r)=(Vaunia.shortWith p r v).or (Vaunia.shortTwo v r):=by
 show(match Vaunia.shortWith p r v with
  | some fs=>some fs
  | none=>Vaunia.shortTwo v r)=_
 cases Vaunia.shortWith p r v<;>rfl
section
variable{P:Program}{w:World}{K:Fg}{mg:Str->Option Value}{base:Heap}{a:hC}
noncomputable def ZZ(P:Program)(w:World)(a:hC):Sp:=λvs H R _=>∃l pw m v n,vs=[.ref l,.ref pw]/\tN P w a H l m/\jx a H pw v/\n<=40/\m.length<=40/\(∀x∈m,vB n x.2)/\vB n v/\∀u U,c_ H U->tQ U u (Vaunia.shortTwo v m)->R u U
theorem XX(T:Txt K mg a):Callee P w K mg base 6 "two_factors" ["all_tried","worth"] (ZZ P w a):=by
 refine T.P7.ok LQ (λvs H Q E h=>?_) (λf h8 A outer s H vs Q E hr h=>?_)
 ·obtain⟨_,_,_,_,_,rfl,_⟩:=h
  rfl
 ·obtain⟨l,pw,m,v,n,rfl,⟨ps,hl,zp⟩,hw,Tq,acN,hm,hv,k⟩:=h
  have nd:=LQ.nd
  have ⟨pp,yU,pC⟩:=T.EH
  have hP:∀H,iO K H pp (Vaunia.POWERS.map V.int):=pC
  refine⟨_,gZ (lC aX rfl (CS rfl T.Au (b_ (pv 0) d_)) (nF rfl (jX (iT (i:=2) nd rfl (Or.inl rfl)) (jX (iT (i:=3) nd rfl (Or.inl rfl)) nG)))
   (gZ (uX (i:=4) (own:=[("part",5)]) (g:=jL 5) (wi:=BU K (lE K (jb 3) "worths")) (te:=tG (Mb a) [] E0 (mG (tG (Mf a) [] E0 (mG (jb 1) (mG (jb 5) pV))) pV)) rfl nd rfl rfl rfl (kj (hG (pv 3) rfl)) (j_ rfl) (λ_ _ _ _ _=>iT (i:=5) nd rfl (Or.inl rfl)) (λ_ _ _ _ _=>kT)
    (λ_ _ _ _ _=>hU (CC T) (hr.mono (by decide)) (b_ (hU (XZ T) hr (b_ (pv 1) (b_ (pv 5) d_))) d_)))
   (g9 (lC aX rfl (kj (lQ mF (pv 0) (k_ (iH mV (pv 2) ij)) mC)) (iT (i:=6) nd rfl (Or.inl rfl))
    (g9 (lC aX rfl (HU rfl T.vM (b_ (zH (v:=.ref pp) (by rfl) yU rfl) (b_ (pv 4) d_))) (nF rfl (jX (iT (i:=7) nd rfl (Or.inl rfl)) (jX (iT (i:=8) nd rfl (Or.inl rfl)) nG)))
     (g9 (iw (zK (HK hr.units (pv 8) (hG (pv 6) rfl)) (by with_unfolding_all rfl))
      (g9 (hJ (iL (b_ (rQ (b_ (hG (pv 3) rfl) (b_ (pv 7) d_))) (b_ (rQ (b_ (hG (pv 6) rfl) (b_ (HP hr.units (hG (pv 6) rfl) (pv 8) (λ_ _=>rfl)) d_))) d_))))) iy))))))))
   (g9 (hJ iM)),?_⟩
  dsimp only[il]
  have hlen:=zp.1
  refine(a_ rfl ⟨l,a_ rfl ⟨f_.of hl,AX (K:=K) (a:=l) (xs:=ps.map V.ref) (λi σ U=>∃r2 r3 r4 r5 r6 r7 r8:Option V,σ=[some (.ref l),some (.ref pw),r2,r3,r4,r5,r6,r7,r8]/\c_ H U/\Vaunia.shortTwo v m=Vaunia.shortTwo v (m.drop i))
   ⟨none,none,none,none,none,none,none,rfl,c_.refl _,rfl⟩ (λi σ U _ ⟨_,_,_,_,_,_,_,_,s1,_⟩=>f_.of (s1 _ _ hl)) ?_ ?_⟩⟩)
  ·rintro i x σ U Tt hx ⟨r2,r3,r4,r5,r6,r7,r8,rfl,s1,e⟩ hT
   obtain⟨p,hp,rfl⟩:=i8 hx
   have ⟨y,hy,TR⟩:=zp.right hp
   have hi:=ja hy
   have xN:=hm y (aG hy)
   have sT:=c_.new (o:=.tup [V.int (i:Nat),V.ref p]) hT
   have oU:=s1.trans sT
   obtain⟨dx,nn,lw,pd,xs,g1,g2,⟨qs,g3,jv⟩,g4,g5⟩:=TR.same oU
   rw[o9 hy,L0,aa9 xN (λq hq=>hm q (fb hq)) hv]at e
   refine⟨Tt,_,rfl,iO.of e_,rfl,_,_,rfl,_,_,rfl,rfl,?_⟩
   have kL:=jv.1
   rw[ab]at kL
   have h3:∀z∈Vaunia.POWERS,z.natAbs<=3:=by decide
   generalize hH1:upd U Tt (HO.tup [V.int (i:Nat),V.ref p])=H1 at oU g1 g2 g3 jv g4
   refine(a_ rfl (hX rfl g1 T.oa.cl T.GQ rfl ⟨lw,rfl,⟨_,f_.of g3⟩,λD hD=>mq (xs:=qs.map V.ref) (λj H2=>c_ H1 H2/\tL H2 D ((Vaunia.POWERS.take j).map λz=>kh (pQ v (Vaunia.raised y.2 z)))) ⟨c_.new hD,[],e_,Zip.nil⟩ (λj H2 _ pq=>f_.of (pq.1 _ _ g3)) (λj u H2 hu pq=>?_) (λH2 pq=>?_)⟩))
   ·have ⟨s2,ks,sJ,vj⟩:=pq
    obtain⟨q,hq,rfl⟩:=i8 hu
    have ⟨u1,Uh,BC⟩:=jv.right hq
    obtain⟨z,hz,rfl⟩:=i8 Uh
    have hj:=ja hz
    have Ux:=h3 z (aG hz)
    have wx:=vj.1
    rw[ab,aB]at wx
    have hj6:j<6:=hj
    refine(⟨rfl,a_ rfl (a_ rfl ⟨pw,q,v,a_ rfl ⟨hw.same (oU.trans s2),BC.same s2,nA hv.near,VR xN.pos xN.near Ux,hv.pos.1.1,(C6 xN.pos z).2,by rw[zN,hv.len,xN.len],by rw[hv.len];exact Tq,λp3 H3 s3 mP=>?_⟩⟩)⟩)
    refine(⟨p3,a_ rfl ⟨mP,λp4 H4 s4 h4=>?_⟩⟩)
    have nL:=s3.trans s4
    have A_:=nL _ _ sJ
    refine⟨_,A_,by rw[ab,wx];exact iV (by omega),Kp.same s2 hD (nL.kp.trans Kp.upd),ks++[p4],by rw[e_,au];rfl,?_⟩
    rw[take_snoc hz,au]
    have kk:∀{pq:Addr} {kx:K3},ko H4 pq kx->ko (upd H4 D (.lst (ks.map V.ref++[V.ref p4]))) pq kx:=λ{pq kx} h=>by
     have ⟨q0,a1,a2⟩:=h
     exact⟨q0,(Kp.upd (l:=D)) _ _ (iC a1 A_ (by intro z;cases z)) a1,(Kp.upd (l:=D)) _ _ (iC a2 A_ (by intro z;cases z)) a2⟩
    exact(vj.mono λx y r=>kk (ko.same r nL)).snoc (kk h4)
   ·have ⟨s2,ks,sJ,vj⟩:=pq
    rw[ab,kL,aP]at vj
    have wx:=vj.1
    rw[ab]at wx
    have iI:=oU.trans s2
    refine(a_ rfl (a_ rfl (h9 rfl rfl (a_ rfl ⟨l,a_ rfl ⟨f_.of (iI _ _ hl),λsl qz=>?_⟩⟩))))
    have ec:i5 (ps.map V.ref) (some ((i:Int)+1)) none=(ps.drop (i+1)).map V.ref:=by
     rw[show((i:Int)+1)=((i+1:Nat):Int) by omega,qd (by rw[ab];omega),d5]
    rw[ec]
    have s3:=c_.new (o:=.lst ((ps.drop (i+1)).map V.ref)) qz
    have jY:=iI.trans s3
    have jK:=s2.trans s3
    have BK:upd H2 sl (.lst ((ps.drop (i+1)).map V.ref)) sl=some (.lst ((ps.drop (i+1)).map V.ref)):=e_
    generalize upd H2 sl (.lst ((ps.drop (i+1)).map V.ref))=H3 at s3 jY jK BK
    have Rc:=jK _ _ g1
    have Rf:=jK _ _ g2
    have U_:tL H3 D (Vaunia.POWERS.map λz=>kh (pQ v (Vaunia.raised y.2 z))):=tL.same ⟨ks,sJ,vj⟩ s3
    have ⟨Va,Fh,M4⟩:=U_
    refine⟨sl,rfl,⟨_,f_.of BK⟩,qY (K:=K) (a:=sl) (xs:=(ps.drop (i+1)).map V.ref) (λj σ H4=>∃r6 r7 r8:Option V,σ=[some (.ref l),some (.ref pw),some (.int (i:Nat)),some (.ref p),some (.ref D),r5,r6,r7,r8]/\c_ H3 H4/\((m.drop (i+1)).findSome? λq=>Vaunia.POWERS.findSome? λz=>oW v y q z)=(((m.drop (i+1)).drop j).findSome? λq=>Vaunia.POWERS.findSome? λz=>oW v y q z))
     (⟨_,_,a_ rfl ⟨c_.refl _,rfl⟩⟩) (λj σ H4 _ ⟨_,_,_,_,s4,_⟩=>f_.of (s4 _ _ BK)) ?_ ?_⟩
    ·rintro j u σ H4 hu ⟨r6,r7,r8,rfl,s4,e4⟩
     obtain⟨q,hq,rfl⟩:=i8 hu
     rw[fq]at hq
     have ⟨y2,wM,kK⟩:=zp.right hq
     have Us:(m.drop (i+1))[j]? =some y2:=by rw[fq];exact wM
     have Dh:=jY.trans s4
     rw[AS Us]at e4
     refine(a_ rfl ⟨pp,D,_,a_ rfl ⟨hP _,f_.of (s4 _ _ Fh),Ey (K:=K) (a:=pp) (b:=D) (xs:=Vaunia.POWERS.map V.int) (ys:=Va.map V.ref) (by rw[ab,ab,M4.1,ab]) (λo σ H5=>∃r7 r8:Option V,σ=[some (.ref l),some (.ref pw),some (.int (i:Nat)),some (.ref p),some (.ref D),r5,some (.ref q),r7,r8]/\c_ H4 H5/\(Vaunia.POWERS.findSome? λz=>oW v y y2 z)=((Vaunia.POWERS.drop o).findSome? λz=>oW v y y2 z))
      (⟨_,a_ rfl ⟨c_.refl _,rfl⟩⟩) (λo σ H5 ⟨_,_,_,s5,_⟩=>⟨hP _,f_.of (s5 _ _ (s4 _ _ Fh))⟩) ?_ ?_⟩⟩)
     ·rintro o a1 a2 σ H5 T2 yC yD ⟨r7,r8,rfl,s5,e5⟩ qm
      obtain⟨z,hz,rfl⟩:=i8 yC
      obtain⟨kq,S6,rfl⟩:=i8 yD
      have ⟨kx,S7,yQ⟩:=M4.right S6
      obtain⟨z2,ny,rfl⟩:=i8 S7
      rw[hz]at ny
      have e2:z=z2:=ae ny
      subst e2
      have sT2:=c_.new (o:=.tup [V.int z,V.ref kq]) qm
      have IC:=s5.trans sT2
      have xH:=s4.trans IC
      rw[AS hz]at e5
      have ⟨Qw,G3,lw2,CP,MU,f1,f2,f3,f4,f5⟩:=kK.same (jY.trans xH)
      have Fe:=ko.same yQ xH
      refine⟨T2,_,rfl,iO.of e_,rfl,_,_,rfl,_,_,rfl,rfl,?_⟩
      refine⟨_,rfl,_,rfl,q,_,Qw,_,_,rfl,f1,T.oa.cl,T.xg,rfl,CP,kq,_,MU,rfl,rfl,f4,Fe,_,rfl,?_⟩
      rw[f5]
      unfold oW at e5
      cases hf:oE y2.2 (kh (pQ v (Vaunia.raised y.2 z))) with
      | none=>
       rw[hf]at e5
       exact iz ⟨_,_,rfl,IC,e5⟩
      | some jj=>
       rw[hf]at e5
       have QC:Vaunia.shortTwo v m=some [(y.1,z),(y2.1,jj)]:=by
        have e6:(Vaunia.POWERS.findSome? λz=>oW v y y2 z)=some [(y.1,z),(y2.1,jj)]:=e5
        rw[e6]at e4
        have e7:((m.drop (i+1)).findSome? λq=>Vaunia.POWERS.findSome? λz=>oW v y q z)=some [(y.1,z),(y2.1,jj)]:=e4
        rw[e]
        unfold oW at e7
        rw[e7];rfl
       rw[QC]at k
       have R4:=xH _ _ Rc
       refine iu (a_ rfl (hX rfl R4 T.oa.cl T.zu rfl (a_ rfl ⟨by show 2<=sizeLine;decide,λt1 ux=>?_⟩)))
       have xI:=c_.new (o:=.tup [V.ref nn,V.int z]) ux
       refine(a_ rfl (hX rfl (xI _ _ f1) T.oa.cl T.zu rfl (a_ rfl (hX rfl (xI _ _ f1) T.oa.cl T.xg rfl (a_ rfl ⟨CP,kq,_,MU,jj,rfl,rfl,f4.same xI,ko.same Fe xI,by rw[f5];exact hf,by show 2<=sizeLine;decide,λt2 sP=>⟨by show 2<=sizeLine;decide,λl2 jd=>?_⟩⟩)))))
       have u7:=c_.new (o:=.tup [V.ref G3,V.int jj]) sP
       have tE:=c_.new (o:=.lst [V.ref t1,V.ref t2]) jd
       have Mi:=u7.trans tE
       have Dr:=xI.trans Mi
       refine k _ _ ((jY.trans xH).trans Dr) ⟨l2,rfl,[t1,t2],e_,Zip.snoc (xs:=[t1]) (ys:=[(y.1,z)]) (Zip.snoc (xs:=[]) (ys:=[]) Zip.nil ⟨nn,Mi _ _ e_,Dr _ _ (xH _ _ Rf)⟩) ⟨G3,tE _ _ e_,Dr _ _ f2⟩⟩
     ·rintro σ H5 ⟨r7,r8,rfl,s5,e5⟩
      rw[ab,b0]at e5
      have e5:(Vaunia.POWERS.findSome? λz=>oW v y y2 z)=none:=e5
      rw[e5]at e4
      exact(⟨_,_,a_ rfl ⟨s4.trans s5,e4⟩⟩)
    ·rintro σ H4 ⟨r6,r7,r8,rfl,s4,e4⟩
     have qu:((ps.drop (i+1)).map V.ref).length=(m.drop (i+1)).length:=by rw[ab,aR,aR,hlen]
     rw[qu,b0]at e4
     have e4:((m.drop (i+1)).findSome? λq=>Vaunia.POWERS.findSome? λz=>oW v y q z)=none:=e4
     refine(⟨_,_,_,_,_,_,a_ rfl ⟨jY.trans s4,?_⟩⟩)
     rw[e]
     unfold oW at e4
     rw[e4];rfl
  ·rintro σ U ⟨r2,r3,r4,r5,r6,r7,r8,rfl,s1,e⟩
   rw[ab,hlen,b0]at e
   have e:Vaunia.shortTwo v m=none:=e
   refine k _ _ s1 ?_
   rw[e];rfl
end
theorem qL.pI{P:Program}{w:World}{a:hC}{H U:Hp}{p d:Addr}{od:Obj}{u:HO}{x:List UInt8×Vaunia.Worth}(h:qL P w a H p x)(hd:H d=some (.iF od u))(k:Kp d H U):qL P w a U p x:=by
 have kx:∀{p:Addr} {q:Q},iN a H p q->iN a U p q:=λh=>by
  obtain⟨dx,h⟩:=h
  exact⟨dx,k _ _ (iC h hd (by intro z;cases z)) h⟩
 obtain⟨dx,n,lw,pd,xs,h1,h2,⟨qs,h3,h4⟩,h5,h6⟩:=h
 refine⟨dx,n,lw,pd,xs,k _ _ (iC h1 hd (by intro z;cases z)) h1,k _ _ (iC h2 hd (by intro z;cases z)) h2,⟨qs,k _ _ (iC h3 hd (by intro z;cases z)) h3,h4.mono λx y r=>?_⟩,⟨k _ _ (iC h5.1 hd (by intro z;cases z)) h5.1,λx hx=>?_⟩,h6⟩
 ·obtain⟨dw,lr,lp,w1,w2,w3⟩:=r
  exact⟨dw,lr,lp,k _ _ (iC w1 hd (by intro z;cases z)) w1,kx w2,k _ _ (iC w3 hd (by intro z;cases z)) w3⟩
 ·obtain⟨q,q1,q2⟩:=h5.2 x hx
  exact⟨q,k _ _ (iC q1 hd (by intro z;cases z)) q1,k _ _ (iC q2 hd (by intro z;cases z)) q2⟩
section
variable{P:Program}{w:World}{K:Fg}{mg:Str->Option Value}{base:Heap}{a:hC}
noncomputable def ZM(a:hC):Sp:=λvs H R _=>∃bk d b kvs pw v,vs=[.ref bk,.ref pw]/\iB a H bk d b kvs/\H d=some (.dT kvs)/\jx a H pw v/\Aq b v/\∀u U,c_ H U->tQ U u (Vaunia.shortOf (Vaunia.meanings b) v)->R u U
theorem XN(T:Txt K mg a):Callee P w K mg base 7 "shortest_factors" ["book","worth"] (ZM a):=by
 refine T.PM.ok LB (λvs H Q E h=>?_) (λf h8 A outer s H vs Q E hr h=>?_)
 ·obtain⟨_,_,_,_,_,_,rfl,_⟩:=h
  rfl
 ·obtain⟨bk,d,b,kvs,pw,v,rfl,B,hd,hw,kW,k⟩:=h
  have nd:=LB.nd
  refine⟨_,gZ (iw (ju (hU (Xs T) (hr.mono (by decide)) (b_ (pv 1) d_)) (λ_=>rfl)) (g9 (hJ (iL d_))) iy)
   (gZ (C0 (uX (i:=2) (own:=[("name",3)]) (g:=jL 3) (wi:=FX (lE K (jb 0) "entries")) (te:=tG (Me P w a) [] E0 (mG (jb 0) (mG (jb 3) pV))) rfl nd rfl rfl rfl (CT (hG (pv 0) rfl)) (j_ rfl) (λ_ _ _ _ _=>iT (i:=3) nd rfl (Or.inl rfl)) (λ_ _ _ _ _=>kT)
    (λ_ _ _ _ _=>hU (XU T) (hr.mono (by decide)) (b_ (pv 0) (b_ (pv 3) d_)))))
   (gZ (ic (i:=4) nd rfl (Or.inl rfl) (hU (XD T) (hr.mono (by decide)) (b_ (pv 2) (b_ (pv 1) d_))))
   (g9 (hJ (mB (iq l0 (pv 4) iM (ig _)) (hU (XX T) hr (b_ (pv 2) (b_ (pv 1) d_))) (pv 4)))))),?_⟩
  dsimp only[il]
  unfold Vaunia.shortOf at k
  refine⟨_,rfl,pw,v,rfl,hw,_,rfl,iU (λc=>?_) (λc=>?_)⟩
  ·rw[aE (aL c)]at k
   exact⟨aU _,λl hl=>k _ _ (c_.new hl) ⟨l,rfl,[],e_,Zip.nil⟩⟩
  ·rw[aq (λz=>c (ah z))]at k
   refine⟨d,_,hd,trivial,λod=>?_⟩
   have BL:=B.lock (od:=od) hd
   obtain⟨dx,qy⟩:=BL.obj
   have pB:=zf B
   have ue:=B.ok.mO
   have wu:=B.len
   refine(a_ rfl (hX rfl qy T.j0.cl T.ki rfl ⟨d,od,rfl,.inr ⟨kvs,e_,λD hD=>Vt (λi U=>c_ (upd H d (.iF od (.dT kvs))) U/\∃ps:List Addr,U D=some (.lst (ps.map V.ref))/\Zip (m8 P w a (λb=>b=D) U) ps ((Vaunia.meanings b).take i)) ⟨c_.new hD,[],e_,Zip.nil⟩ (λi U _ p=>p.1.locked) (λi kk vv U q jr p hq=>?_) (λH1 p=>?_)⟩⟩))
   ·obtain⟨s1,ps,jQ,jI⟩:=p
    obtain⟨x,fw,rfl,_,hm,hx,jT,wJ⟩:=B.Cd jr
    rw[kd]at hq
    have hi:=ja jr
    have i9:=jI.1
    rw[aB]at i9
    refine(⟨rfl,a_ rfl (a_ rfl ⟨bk,d,b,kvs,q,x,fw,rfl,BL.same s1,hq,hx,jT,wJ,λp2 H2 s2 h2=>?_⟩)⟩)
    have nW:=s2 _ _ jQ
    refine⟨_,nW,by rw[ab,i9];exact iV (by omega),Kp.same s1 hD (s2.kp.trans Kp.upd),ps++[p2],by rw[e_,au];rfl,?_⟩
    rw[take_snoc hm]
    refine(jI.mono λx y r=>(r.same s2).kp rfl nW Kp.upd).snoc ((h2.mono ?_).kp rfl nW Kp.upd)
    intro c hc hn
    rw[hc,jQ]at hn
    cases hn
   ·obtain⟨s1,ps,jQ,jI⟩:=p
    rw[<-pB,aP]at jI
    have uf:=s1.locked
    have xb:D≠d:=λz=>by rw[z,e_]at hD;cases hD
    refine⟨uf,?_⟩
    have kp:Kp d H1 (upd H1 d (.dT kvs)):=Kp.upd
    have s2:c_ H (upd H1 d (.dT kvs)):=s1.unlock hd
    have rV:tN P w a (upd H1 d (.dT kvs)) D (Vaunia.meanings b):=⟨ps,kp _ _ xb jQ,jI.mono λx y r=>r.UM.pI uf kp⟩
    generalize upd H1 d (.dT kvs)=H2 at s2 rV
    refine(a_ rfl (a_ rfl ⟨D,pw,_,v,rfl,rV,hw.same s2,λu H3 s3 hu=>?_⟩))
    have jK:=s2.trans s3
    cases ro:Vaunia.shortOne (Vaunia.meanings b) v with
    | some fs=>
     rw[ro]at hu k
     obtain⟨pu,rfl,sR⟩:=hu
     exact⟨_,rfl,rfl,_,rfl,iz (a_ rfl (k _ _ jK ⟨pu,rfl,sR⟩))⟩
    | none=>
     rw[ro]at hu k
     have hu:u= .ia:=hu
     subst hu
     refine(a_ rfl ⟨rfl,a_ rfl (iu (a_ rfl (a_ rfl ⟨D,pw,Vaunia.meanings b,v,(Vaunia.bases b).length,rfl,rV.same s3,hw.same jK,sm B,by rw[pB,wu];exact ue,λy hy=>?_,⟨kW.pos,kW.near,kW.len⟩,λu H4 s4 Ui=>k _ _ (jK.trans s4) Ui⟩)))⟩)
     rw[sW]at hy
     obtain⟨z,hz,rfl⟩:=aQ.mp hy
     have:=B.ok.ws z hz
     exact⟨this.1,this.2.1,ab _⟩
end
noncomputable def kP(a:hC)(H:Hp)(R:VK)(bk d:Addr)(b:Vaunia.Book)(c:Vaunia.Call):Prop:=∀p U lu,Kp d H U->U d=some (.dT lu)->iB a U bk d (Vaunia.step ⟨b⟩ c).1.book lu->
 U p=some (.lst ((VauniaNeutral.encode (Vaunia.step ⟨b⟩ c).2).map V.int))->(VauniaNeutral.encode (Vaunia.step ⟨b⟩ c).2).length<=20000->R (.ref p) U
theorem kP.ask{a:hC}{H:Hp}{R:VK}{bk d:Addr}{b:Vaunia.Book}{c:Vaunia.Call}{kvs:List (List Key×V)}(k:kP a H R bk d b c)(B:iB a H bk d b kvs)(hd:H d=some (.dT kvs))(hb:(Vaunia.step ⟨b⟩ c).1=⟨b⟩){ans:List Int}(he:VauniaNeutral.encode (Vaunia.step ⟨b⟩ c).2=ans){p:Addr}{U:Hp}(s:c_ H U)(hp:U p=some (.lst (ans.map V.int)))(hl:ans.length<=20000):R (.ref p) U:=
 k p U kvs s.kp (s _ _ hd) (by rw[hb];exact B.same s) (by rw[he];exact hp) (by rw[he];exact hl)
theorem kP.no{a:hC}{H:Hp}{R:VK}{bk d:Addr}{b:Vaunia.Book}{c:Vaunia.Call}{kvs:List (List Key×V)}{z:Int}(k:kP a H R bk d b c)(B:iB a H bk d b kvs)(hd:H d=some (.dT kvs))(hs:Vaunia.step ⟨b⟩ c=(⟨b⟩,.refused z)){p:Addr}{U:Hp}(s:c_ H U)(hp:U p=some (.lst [.int z])):R (.ref p) U:=
 k.ask B hd (by rw[hs]) (ans:=[z]) (by rw[hs];rfl) s hp (by show 1<=20000;decide)
noncomputable def pP(b:Vaunia.Book)(t:List UInt8):Int:=if !Vaunia.isName t then -1 else if Vaunia.isIn b t then -2 else if 40<=b.length then -3 else 0
theorem Az(t:List UInt8):(VauniaNeutral.ofText t).map V.int=bv t:=by
 unfold VauniaNeutral.ofText bv
 rw[bu];rfl
theorem sZ(t:List UInt8):(VauniaNeutral.ofText t).length=t.length:=ab _
theorem uM{x:List UInt8}(h:Vaunia.isName x=true):x.length<=12/\x≠[]:=by
 unfold Vaunia.isName at h
 cases x with
 | nil=>cases h
 | cons c r=>
  simp only[aZ,eN]at h
  exact⟨h.2,by simp⟩
theorem qJ{b:Vaunia.Book}{sg:Bool}{t:List UInt8}{e:Int}{f:Vaunia.Worth->Vaunia.Answer}(h:Vaunia.reading b sg t= .error e):Vaunia.withWorth b sg t f= .refused e:=by unfold Vaunia.withWorth;rw[h]
theorem oj{b:Vaunia.Book}{sg:Bool}{t:List UInt8}{v:Vaunia.Worth}{f:Vaunia.Worth->Vaunia.Answer}(h:Vaunia.reading b sg t= .ok v):Vaunia.withWorth b sg t f=f v:=by unfold Vaunia.withWorth;rw[h]
section
variable{P:Program}{w:World}{K:Fg}{mg:Str->Option Value}{base:Heap}{a:hC}
noncomputable def Zu(K:Fg)(a:hC):Sp:=λvs H R _=>∃bk d b kvs l t,vs=[.ref bk,.ref l]/\iB a H bk d b kvs/\f_ K H l (bv t)/\∀U,c_ H U->R (.int (pP b t)) U
theorem Hm(T:Txt K mg a):Callee P w K mg base 4 "new_name_refusal" ["book","text"] (Zu K a):=by
 refine T.Pj.ok aaY (λvs H Q E h=>?_) (λf h8 A outer s H vs Q E hr h=>?_)
 ·obtain⟨_,_,_,_,_,_,rfl,_⟩:=h
  rfl
 ·obtain⟨bk,d,b,kvs,l,t,rfl,B,hl,k⟩:=h
  refine⟨_,gZ (iw (lD (ju (hU (Hj T) hr (b_ (pv 1) d_)) (λ_=>rfl))) (g9 (hJ (iD T.RJ))) iy)
   (gZ (iw (zK (CN (mn hr) (l7 t5 (by rfl) T.tU (by decide +kernel) (b_ (pv 1) d_)) (hG (pv 0) rfl)) (by with_unfolding_all rfl)) (g9 (hJ (iD T.RD))) iy)
   (gZ (iw (ju (hU (Xp T) (hr.mono (by decide)) (b_ (pv 0) d_)) (λ_=>rfl)) (g9 (hJ (iD T.ED))) iy)
   (g9 (hJ ij)))),?_⟩
  dsimp only[il]
  unfold pP at k
  refine⟨_,rfl,l,t,rfl,hl,λH1 s1=>⟨_,rfl,?_⟩⟩
  cases hn:Vaunia.isName t with
  | false=>
   rw[hn]at k
   exact iu (k _ s1)
  | true=>
   rw[hn]at k
   refine iz (a_ rfl ⟨l,a_ rfl (.inl ⟨s1.seq hl,λq hq=>?_⟩)⟩)
   have s2:=c_.new (o:=.tup (bv t)) hq
   have iI:=s1.trans s2
   have B2:=B.same iI
   obtain⟨dx,ho⟩:=B2.obj
   refine(a_ rfl (hX rfl ho T.j0.cl T.ki rfl ⟨d,a_ rfl ⟨j8.tr (k:=nk t) B2.lI (by rw[kd];exact e_),a_ rfl ?_⟩⟩))
   rw[B.val,<-wV]
   cases hi:Vaunia.isIn b t with
   | true=>
    rw[hi]at k
    exact iu (k _ iI)
   | false=>
    rw[hi]at k
    refine iz ⟨_,rfl,bk,d,b,kvs,rfl,B2,_,rfl,?_⟩
    refine iU (λc=>?_) (λc=>?_)
    ·have k:=k _ iI
     simp only[cf,aK,bq,aE (aL c)]at k
     exact k
    ·have k:=k _ iI
     simp only[cf,aK,bq,aq (λz=>c (ah z))]at k
     exact k
theorem acY{H:Hp}{z:Int}{R:VK}(k:∀p,H p=none->R (.ref p) (upd H p (.lst [.int z]))):1<=sizeLine/\∀p,H p=none->R (.ref p) (upd H p (.lst [.int z])):=⟨by decide,k⟩
noncomputable def YK(K:Fg)(a:hC):Sp:=λvs H R _=>∃bk d b kvs l t,vs=[.ref bk,.ref l]/\iB a H bk d b kvs/\H d=some (.dT kvs)/\f_ K H l (bv t)/\kP a H R bk d b (.base t)
theorem W0(T:Txt K mg a):Callee P w K mg base 5 "call_base" ["book","name"] (YK K a):=by
 refine T.Om.ok KL (λvs H Q E h=>?_) (λf h8 A outer s H vs Q E hr h=>?_)
 ·obtain⟨_,_,_,_,_,_,rfl,_⟩:=h
  rfl
 ·obtain⟨bk,d,b,kvs,l,t,rfl,B,hd,hl,k⟩:=h
  have nd:=KL.nd
  refine⟨_,gZ (ic (i:=2) nd rfl (Or.inl rfl) (hU (Hm T) hr (b_ (pv 0) (b_ (pv 1) d_))))
   (gZ (iw (iq kN (pv 2) ij (ig _)) (g9 (hJ (iL (b_ (pv 2) d_)))) iy)
   (gZ (iw (ju (hU (Xm T) (hr.mono (by decide)) (b_ (pv 0) d_)) (λ_=>rfl)) (g9 (hJ (iL (b_ (iD T.ED) d_)))) iy)
   (gZ (lR (hU (WT T) (hr.mono (by decide)) (b_ (pv 0) (b_ (l7 t5 (by rfl) T.tU (by decide +kernel) (b_ (pv 1) d_)) d_))))
   (g9 (hJ (iL (b_ ij d_))))))),?_⟩
  dsimp only[il]
  have one:1<=sizeLine:=by decide
  refine(a_ rfl (a_ rfl ⟨bk,d,b,kvs,l,t,rfl,B,hl,λH1 s1=>?_⟩))
  refine(a_ rfl (h9 rfl rfl (a_ rfl ?_)))
  have iK:Vaunia.step ⟨b⟩ (.base t)=(⟨(Vaunia.doBase b t).1⟩,(Vaunia.doBase b t).2):=rfl
  by_cases c:pP b t<0
  ·rw[ah c]
   have e:Vaunia.doBase b t=(b,.refused (pP b t)):=by
    unfold Vaunia.doBase
    unfold pP at c ⊢
    cases hn:Vaunia.isName t with
    | false=>rfl
    | true=>
     rw[hn]at c
     cases hi:Vaunia.isIn b t with
     | true=>rfl
     | false=>
      rw[hi]at c
      by_cases h4:40<=b.length
      ·simp[h4,Vaunia.MOST_ENTRIES]
      ·simp[h4]at c
   refine iu (a_ rfl ⟨one,λp hp=>k.no B hd (by rw[iK,e]) (s1.trans (c_.new hp)) e_⟩)
  ·rw[az c]
   have Bh:Vaunia.isName t=true/\Vaunia.isIn b t=false/\¬40<=b.length:=by
    unfold pP at c
    cases hn:Vaunia.isName t with
    | false=>rw[hn]at c;exact absurd (by simp) c
    | true=>
     rw[hn]at c
     cases hi:Vaunia.isIn b t with
     | true=>rw[hi]at c;exact absurd (by simp) c
     | false=>
      rw[hi]at c
      refine⟨rfl,rfl,λh4=>c ?_⟩
      simp[h4]
   obtain⟨hn,hi,h4⟩:=Bh
   refine iz ⟨_,rfl,bk,d,b,kvs,rfl,B.same s1,λH2 s2=>⟨_,rfl,?_⟩⟩
   have iI:=s1.trans s2
   refine iU (λc8=>?_) (λc8=>?_)
   ·have e:Vaunia.doBase b t=(b,.refused (-3)):=by
     unfold Vaunia.doBase
     rw[hn,hi]
     simp only[cf,aK,bq]
     rw[aE (.inl (aL c8))]
    exact⟨one,λp hp=>k.no B hd (by rw[iK,e]) (iI.trans (c_.new hp)) e_⟩
   ·have e:Vaunia.doBase b t=(b++[⟨t,true,Vaunia.Q.one,[]⟩],.done):=by
     unfold Vaunia.doBase
     rw[hn,hi]
     simp only[cf,aK,bq]
     rw[aq (λz=>z.elim (λz=>c8 (ah z)) h4)]
    refine(a_ rfl (a_ rfl ⟨l,a_ rfl (.inl ⟨iI.seq hl,λq hq=>?_⟩)⟩))
    have s3:=c_.new (o:=.tup (bv t)) hq
    have jY:=iI.trans s3
    have Br:t∉b.map (·.name):=by
     rw[wV]at hi;exact eB hi
    refine⟨bk,d,b,kvs,q,t,rfl,B.same jY,jY _ _ hd,e_,Br,hn,by omega,λH4 w4 wZ wk B4=>?_⟩
    refine⟨one,λp hp=>?_⟩
    have s5:=c_.new (o:=.lst [V.int 0]) hp
    refine k p _ w4 ((jY.kp.trans wZ).trans s5.kp) (s5 _ _ wk) ?_ ?_ ?_
    ·rw[iK,e];exact B4.same s5
    ·rw[iK,e];exact e_
    ·rw[iK,e];exact(by decide:([0]:List Int).length<=20000)
noncomputable def YY(K:Fg)(a:hC):Sp:=λvs H R _=>∃bk d b kvs l t m u,vs=[.ref bk,.ref l,.ref m]/\iB a H bk d b kvs/\H d=some (.dT kvs)/\f_ K H l (bv t)/\f_ K H m (bv u)/\kP a H R bk d b (.unit t u)
theorem Xc(T:Txt K mg a)(ht:P.given.tree=none):Callee P w K mg base 41 "call_unit" ["book","name","quantity"] (YY K a):=by
 refine T.OD.ok K1 (λvs H Q E h=>?_) (λf h8 A outer s H vs Q E hr h=>?_)
 ·obtain⟨_,_,_,_,_,_,_,_,rfl,_⟩:=h
  rfl
 ·obtain⟨bk,d,b,kvs,l,t,m,u,rfl,B,hd,hl,hm,k⟩:=h
  have nd:=K1.nd
  refine⟨_,gZ (ic (i:=3) nd rfl (Or.inl rfl) (hU (Hm T) (hr.mono (by decide)) (b_ (pv 0) (b_ (pv 1) d_))))
   (gZ (iw (iq kN (pv 3) ij (ig _)) (g9 (hJ (iL (b_ (pv 3) d_)))) iy)
   (gZ (ic (i:=4) nd rfl (Or.inl rfl) (hU (oT T ht) hr (b_ (pv 0) (b_ (pv 2) (b_ l6 d_)))))
   (gZ (iw (iq kN (hG (pv 4) rfl) ij (ig _)) (g9 (hJ (iL (b_ (hG (pv 4) rfl) d_)))) iy)
   (gZ (lR (hU (WU T) (hr.mono (by decide)) (b_ (pv 0) (b_ (l7 t5 (by rfl) T.tU (by decide +kernel) (b_ (pv 1) d_)) (b_ (hG (pv 4) rfl) (b_ (hG (pv 4) rfl) d_))))))
   (g9 (hJ (iL (b_ ij d_)))))))),?_⟩
  dsimp only[il]
  have one:1<=sizeLine:=by decide
  refine(a_ rfl (a_ rfl ⟨bk,d,b,kvs,l,t,rfl,B,hl,λH1 s1=>?_⟩))
  refine(a_ rfl (h9 rfl rfl (a_ rfl ?_)))
  have iK:Vaunia.step ⟨b⟩ (.unit t u)=(⟨(Vaunia.doUnit b t u).1⟩,(Vaunia.doUnit b t u).2):=rfl
  by_cases c:pP b t<0
  ·rw[ah c]
   have e:Vaunia.doUnit b t u=(b,.refused (pP b t)):=by
    unfold Vaunia.doUnit
    unfold pP at c ⊢
    cases hn:Vaunia.isName t with
    | false=>rfl
    | true=>
     rw[hn]at c
     cases hi:Vaunia.isIn b t with
     | true=>rfl
     | false=>
      rw[hi]at c
      by_cases h4:40<=b.length
      ·simp[h4,Vaunia.MOST_ENTRIES]
      ·simp[h4]at c
   refine iu (a_ rfl ⟨one,λp hp=>k.no B hd (by rw[iK,e]) (s1.trans (c_.new hp)) e_⟩)
  ·rw[az c]
   have Bh:Vaunia.isName t=true/\Vaunia.isIn b t=false/\¬40<=b.length:=by
    unfold pP at c
    cases hn:Vaunia.isName t with
    | false=>rw[hn]at c;exact absurd (by simp) c
    | true=>
     rw[hn]at c
     cases hi:Vaunia.isIn b t with
     | true=>rw[hi]at c;exact absurd (by simp) c
     | false=>
      rw[hi]at c
      refine⟨rfl,rfl,λh4=>c ?_⟩
      simp[h4]
   obtain⟨hn,hi,h4⟩:=Bh
   have qW:Vaunia.doUnit b t u=match Vaunia.reading b false u with
    | .error e=>(b,.refused e)
    | .ok _=>match Vaunia.quantityOf u with
     | some (q,fs)=>(b++[⟨t,false,q,fs⟩],.done)
     | none=>(b,.refused (-4)):=by
    unfold Vaunia.doUnit
    rw[hn,hi]
    simp only[cf,aK,bq]
    rw[aq (show ¬Vaunia.MOST_ENTRIES<=b.length from h4)]
    cases Vaunia.reading b false u with
    | error e=>rfl
    | ok v=>cases Vaunia.quantityOf u<;>rfl
   refine iz (a_ rfl (a_ rfl ⟨bk,d,b,kvs,m,u,false,rfl,B.same s1,s1.seq hm,λp2 H2 s2 h2=>?_⟩))
   have iI:=s1.trans s2
   cases e1:Vaunia.reading b false u with
   | error er=>
    rw[e1]at h2 qW
    obtain⟨dx,h2⟩:=h2
    have jP:=mY e1
    refine(a_ rfl (hX rfl h2 T.iR.cl T.jt rfl (h9 rfl rfl (a_ rfl ?_))))
    rw[ah jP]
    exact iu ⟨_,rfl,p2,_,dx,_,_,rfl,h2,T.iR.cl,T.jt,rfl,one,λp hp=>k.no B hd (by rw[iK,qW]) (iI.trans (c_.new hp)) e_⟩
   | ok v=>
    rw[e1]at h2 qW
    obtain⟨q0,EA,fw,yV,TM,ra,SG,SU,Sr,Bp,jZ,lX,hv⟩:=C9 B.ok e1
    obtain⟨dx,pq,pw,x,h2,h3,qk,h5⟩:=h2
    rw[yV]at qk
    have ex:(q0,EA)=x:=ae qk
    subst ex
    rw[yV]at qW
    simp only at qW
    refine(a_ rfl (hX rfl h2 T.iR.cl T.jt rfl (h9 rfl rfl (a_ rfl (iz ?_)))))
    refine(a_ rfl (a_ rfl ⟨l,a_ rfl (.inl ⟨iI.seq hl,λq hq=>?_⟩)⟩))
    have s3:=c_.new (o:=.tup (bv t)) hq
    have jY:=iI.trans s3
    have Br:t∉b.map (·.name):=by
     rw[wV]at hi;exact eB hi
    refine(a_ rfl (hX rfl (s3 _ _ h2) T.iR.cl T.GP rfl (a_ rfl (hX rfl (s3 _ _ h2) T.iR.cl T.k8 rfl ?_))))
    rw[hv]at h5
    refine⟨bk,d,b,kvs,q,t,pq,(q0,EA),pw,fw,rfl,B.same jY,jY _ _ hd,e_,Br,hn,by omega,h3.same s3,⟨ra,SG,SU⟩,⟨Sr,TM rfl⟩,Bp,jZ,lX,h5.same s3,λH4 w4 wZ wk B4=>?_⟩
    refine⟨one,λp hp=>?_⟩
    have s5:=c_.new (o:=.lst [V.int 0]) hp
    refine k p _ w4 ((jY.kp.trans wZ).trans s5.kp) (s5 _ _ wk) ?_ ?_ ?_
    ·rw[iK,qW];exact B4.same s5
    ·rw[iK,qW];exact e_
    ·rw[iK,qW];exact(by decide:([0]:List Int).length<=20000)
noncomputable def YO(K:Fg)(a:hC):Sp:=λvs H R _=>∃bk d b kvs l t,vs=[.ref bk,.ref l]/\iB a H bk d b kvs/\H d=some (.dT kvs)/\f_ K H l (bv t)/\kP a H R bk d b (.forget t)
theorem W4(T:Txt K mg a):Callee P w K mg base 3 "call_forget" ["book","name"] (YO K a):=by
 refine T.Ou.ok KP (λvs H Q E h=>?_) (λf h8 A outer s H vs Q E hr h=>?_)
 ·obtain⟨_,_,_,_,_,_,rfl,_⟩:=h
  rfl
 ·obtain⟨bk,d,b,kvs,l,t,rfl,B,hd,hl,k⟩:=h
  have nd:=KP.nd
  refine⟨_,gZ (ic (i:=2) nd rfl (Or.inl rfl) (l7 t5 (by rfl) T.tU (by decide +kernel) (b_ (pv 1) d_)))
   (gZ (iw (zK (X7 (mn hr) (pv 2) (hG (pv 0) rfl)) (by with_unfolding_all rfl)) (g9 (hJ (iL (b_ (iD T.EG) d_)))) iy)
   (gZ (iw (ju (hU (Xu T) hr (b_ (pv 0) (b_ (pv 2) d_))) (λ_=>rfl)) (g9 (hJ (iL (b_ (iD T.RU) d_)))) iy)
   (gZ (lR (hU (Xg T) (hr.mono (by decide)) (b_ (pv 0) (b_ (pv 2) d_))))
   (g9 (hJ (iL (b_ ij d_))))))),?_⟩
  dsimp only[il]
  have one:1<=sizeLine:=by decide
  have iK:Vaunia.step ⟨b⟩ (.forget t)=(⟨(Vaunia.doForget b t).1⟩,(Vaunia.doForget b t).2):=rfl
  refine(a_ rfl ⟨l,a_ rfl (.inl ⟨hl,λq hq=>?_⟩)⟩)
  have s1:=c_.new (o:=.tup (bv t)) hq
  have B1:=B.same s1
  obtain⟨dx,ho⟩:=B1.obj
  refine(a_ rfl (a_ rfl (hX rfl ho T.j0.cl T.ki rfl ⟨d,a_ rfl ⟨j8.tr (k:=nk t) B1.lI (by rw[kd];exact e_),a_ rfl ?_⟩⟩)))
  rw[B.val,<-wV]
  cases hi:Vaunia.isIn b t with
  | false=>
   have e:Vaunia.doForget b t=(b,.refused (-8)):=by unfold Vaunia.doForget;rw[hi];rfl
   exact iu ⟨one,λp hp=>k.no B hd (by rw[iK,e]) (s1.trans (c_.new hp)) e_⟩
  | true=>
   refine iz ⟨_,rfl,_,rfl,bk,d,b,kvs,q,t,rfl,B1,s1 _ _ hd,e_,λH2 s2=>⟨_,rfl,?_⟩⟩
   have iI:=s1.trans s2
   cases kC:Vaunia.isNamed b t with
   | true=>
    have e:Vaunia.doForget b t=(b,.refused (-9)):=by unfold Vaunia.doForget;rw[hi,kC];rfl
    exact iu ⟨one,λp hp=>k.no B hd (by rw[iK,e]) (iI.trans (c_.new hp)) e_⟩
   | false=>
    have e:Vaunia.doForget b t=(b.filter λe=>e.name != t,.done):=by unfold Vaunia.doForget;rw[hi,kC];rfl
    have Bk:t∈b.map (·.name):=by rw[wV]at hi;exact aL hi
    refine iz (a_ rfl (a_ rfl ⟨bk,d,b,kvs,q,t,rfl,B.same iI,iI _ _ hd,s2 _ _ e_,Bk,kC,λH4 w4 wZ wk B4=>?_⟩))
    refine⟨one,λp hp=>?_⟩
    have s5:=c_.new (o:=.lst [V.int 0]) hp
    refine k p _ w4 ((iI.kp.trans wZ).trans s5.kp) (s5 _ _ wk) ?_ ?_ ?_
    ·rw[iK,e];exact B4.same s5
    ·rw[iK,e];exact e_
    ·rw[iK,e];exact(by decide:([0]:List Int).length<=20000)
noncomputable def Z4(a:hC):Sp:=λvs H R _=>∃p v,vs=[.ref p]/\jx a H p v/\v.powers.length<=40/\∀q U,c_ H U->U q=some (.lst ((v.ratio.num::(v.ratio.den:Int)::v.powers).map V.int))->R (.ref q) U
theorem Hy(T:Txt K mg a):Callee P w K mg base 1 "worth_answer" ["worth"] (Z4 a):=by
 refine T.Qb.ok aa2 (λvs H Q E h=>?_) (λf h8 A outer s H vs Q E hr h=>?_)
 ·obtain⟨_,_,rfl,_⟩:=h
  rfl
 ·obtain⟨p,v,rfl,⟨dv,lr,lp,v1,⟨de,v2⟩,v3⟩,ue,k⟩:=h
  refine⟨_,g9 (hJ (iH kS (iL (b_ (hG (hG (pv 0) rfl) rfl) (b_ (hG (hG (pv 0) rfl) rfl) d_))) (hG (pv 0) rfl))),?_⟩
  dsimp only[il]
  refine(a_ rfl (hX rfl v1 T.jo.cl T.kM rfl (hX rfl v2 T.iQ.cl T.jN rfl ?_)))
  refine(a_ rfl (hX rfl v1 T.jo.cl T.kM rfl (hX rfl v2 T.iQ.cl T.jM rfl ⟨by show 2<=sizeLine;decide,λo ho=>?_⟩)))
  have s1:=c_.new (o:=.lst [V.int v.ratio.num,V.int (v.ratio.den:Int)]) ho
  refine(a_ rfl (hX rfl (s1 _ _ v1) T.jo.cl T.nB rfl ⟨o,lp,h9 rfl rfl ⟨e_,s1 _ _ v3,?_,λq hq=>k q _ (s1.trans (c_.new hq)) ?_⟩⟩))
  ·rw[ab]
   show 2+v.powers.length<=sizeLine
   exact aI (iV (by omega))
  ·rw[e_];rfl
noncomputable def YT(K:Fg)(a:hC):Sp:=λvs H R _=>∃bk d b kvs l t,vs=[.ref bk,.ref l]/\iB a H bk d b kvs/\H d=some (.dT kvs)/\f_ K H l (bv t)/\kP a H R bk d b (.read t)
theorem W8(T:Txt K mg a)(ht:P.given.tree=none):Callee P w K mg base 41 "call_read" ["book","quantity"] (YT K a):=by
 refine T.Oy.ok KU (λvs H Q E h=>?_) (λf h8 A outer s H vs Q E hr h=>?_)
 ·obtain⟨_,_,_,_,_,_,rfl,_⟩:=h
  rfl
 ·obtain⟨bk,d,b,kvs,l,t,rfl,B,hd,hl,k⟩:=h
  have nd:=KU.nd
  refine⟨_,gZ (ic (i:=2) nd rfl (Or.inl rfl) (hU (oT T ht) hr (b_ (pv 0) (b_ (pv 1) (b_ l6 d_)))))
   (gZ (iw (iq kN (hG (pv 2) rfl) ij (ig _)) (g9 (hJ (iL (b_ (hG (pv 2) rfl) d_)))) iy)
   (g9 (hJ (hU (Hy T) (hr.mono (by decide)) (b_ (hG (pv 2) rfl) d_))))),?_⟩
  dsimp only[il]
  have iK:Vaunia.step ⟨b⟩ (.read t)=(⟨b⟩,Vaunia.withWorth b false t .worth):=rfl
  refine(a_ rfl (a_ rfl ⟨bk,d,b,kvs,l,t,false,rfl,B,hl,λp2 H2 s2 h2=>?_⟩))
  cases e1:Vaunia.reading b false t with
  | error er=>
   rw[e1]at h2
   obtain⟨dx,h2⟩:=h2
   have jP:=mY e1
   refine(a_ rfl (hX rfl h2 T.iR.cl T.jt rfl (h9 rfl rfl (a_ rfl ?_))))
   rw[ah jP]
   exact iu ⟨_,rfl,p2,_,dx,_,_,rfl,h2,T.iR.cl,T.jt,rfl,by show 1<=sizeLine;decide,λp hp=>k.no B hd (by rw[iK,qJ e1]) (s2.trans (c_.new hp)) e_⟩
  | ok v=>
   rw[e1]at h2
   have kW:=rS B.ok e1
   obtain⟨dx,pq,pw,x,h2,h3,h4,h5⟩:=h2
   have ni:=sm B
   refine(a_ rfl (hX rfl h2 T.iR.cl T.jt rfl (h9 rfl rfl (a_ rfl (iz ?_)))))
   refine(a_ rfl (hX rfl h2 T.iR.cl T.k8 rfl ⟨pw,v,rfl,h5,by rw[kW.len];exact ni,λq H3 s3 mP=>k.ask B hd rfl (ans:=v.ratio.num::(v.ratio.den:Int)::v.powers) (by rw[iK,oj e1];rfl) (s2.trans s3) mP ?_⟩))
   rw[ai,ai,kW.len];omega
end
theorem L4{fs:List Vaunia.Factor}(h:∀f∈fs,nP f)(hl:fs.length<=50):(Vaunia.shownFactors fs).length<=10000:=by
 have:=wX fs fs.length h (ax _)
 rw[aP]at this
 unfold pF at this
 unfold Vaunia.shownFactors
 split
 ·decide
 ·omega
theorem aba{q:Q}(hn:q.num.natAbs<10^130)(hd:q.den<10^130):(Vaunia.shownQ q).length<=300:=by
 have l1:=tz hn
 have l2:=t7 (by decide) hd
 unfold Vaunia.shownQ
 split
 ·omega
 ·rw[aj,ai];omega
theorem L5{q:Q}{fs:List Vaunia.Factor}(hn:q.num.natAbs<10^130)(hd:q.den<10^130)(h:∀f∈fs,nP f)(hl:fs.length<=50):(Vaunia.shownQuantity q fs).length<=10500:=by
 have l1:=L4 h hl
 have l2:=aba hn hd
 unfold Vaunia.shownQuantity
 split
 ·omega
 ·rw[aj,ai];omega
theorem xJ(t:List UInt8):((0:Int)::VauniaNeutral.ofText t).map V.int=[V.int 0]++bv t:=by
 rw[aO,Az];rfl
theorem GV{q:Q}(h:Vaunia.near q=true):q.num.natAbs<10^130/\q.den<10^130:=by
 have:=k9.mp h
 exact⟨Eh this.1,Eh this.2⟩
theorem Wb{q:Q}(h:Vaunia.near q=true){r:Q}(hr:Vaunia.near r=true):q.num.natAbs*r.den<10^80/\q.den*r.num.natAbs<10^80:=by
 obtain⟨a1,a2⟩:=k9.mp h
 obtain⟨b1,b2⟩:=k9.mp hr
 have e:(10:Nat)^80=10^40*10^40:=by rw[<-gD]
 have h1:∀x y:Nat,x<10^40->y<10^40->x*y<10^80:=λx y hx hy=>by
  rw[e]
  calc x*y<=10^40*y:=eT _ (aI hx)
   _<10^40*10^40:=Nat.mul_lt_mul_of_pos_left hy (by decide)
 exact⟨h1 _ _ a1 b2,h1 _ _ a2 b1⟩
section
variable{P:Program}{w:World}{K:Fg}{mg:Str->Option Value}{base:Heap}{a:hC}
noncomputable def YX(K:Fg)(a:hC):Sp:=λvs H R _=>∃bk d b kvs l t,vs=[.ref bk,.ref l]/\iB a H bk d b kvs/\H d=some (.dT kvs)/\f_ K H l (bv t)/\kP a H R bk d b (.tell t)
theorem Xb(T:Txt K mg a)(ht:P.given.tree=none):Callee P w K mg base 41 "call_tell" ["book","quantity"] (YX K a):=by
 refine T.OC.ok K0 (λvs H Q E h=>?_) (λf h8 A outer s H vs Q E hr h=>?_)
 ·obtain⟨_,_,_,_,_,_,rfl,_⟩:=h
  rfl
 ·obtain⟨bk,d,b,kvs,l,t,rfl,B,hd,hl,k⟩:=h
  have nd:=K0.nd
  refine⟨_,gZ (ic (i:=2) nd rfl (Or.inl rfl) (hU (oT T ht) hr (b_ (pv 0) (b_ (pv 1) (b_ l6 d_)))))
   (gZ (iw (iq kN (hG (pv 2) rfl) ij (ig _)) (g9 (hJ (iL (b_ (hG (pv 2) rfl) d_)))) iy)
   (gZ (uX (i:=3) (own:=[("base",4),("power",5)]) (g:=q5 K 2 (mf (jL 4) (mf (jL 5) qZ))) (tt:=Dy (mH Il (jb 5) (tC (.int 0)))) (te:=ME (mG (jb 4) (mG (jb 5) pV))) rfl nd rfl rfl rfl
    (HS rfl T.vM (b_ (hU (zy T) (hr.mono (by decide)) (b_ (pv 0) d_)) (b_ (hG (hG (pv 2) rfl) rfl) d_))) (j_ rfl)
    (λ_ _ _ _ _=>nF rfl (jX (iT (i:=4) nd rfl (Or.inl rfl)) (jX (iT (i:=5) nd rfl (Or.inl rfl)) nG))) (λ_ _ _ _ _=>zL (iq CI (pv 5) ij (ig _))) (λ_ _ _ _ _=>rQ (b_ (pv 4) (b_ (pv 5) d_))))
   (g9 (hJ (iH kS (iL (b_ ij d_)) (hU (Hu T) (hr.mono (by decide)) (b_ (hG (hG (pv 2) rfl) rfl) (b_ (pv 3) d_)))))))),?_⟩
  dsimp only[il]
  have iK:Vaunia.step ⟨b⟩ (.tell t)=(⟨b⟩,Vaunia.withWorth b false t λw=>.text (Vaunia.told b w)):=rfl
  refine(a_ rfl (a_ rfl ⟨bk,d,b,kvs,l,t,false,rfl,B,hl,λp2 H2 s2 h2=>?_⟩))
  cases e1:Vaunia.reading b false t with
  | error er=>
   rw[e1]at h2
   obtain⟨dx,h2⟩:=h2
   have jP:=mY e1
   refine(a_ rfl (hX rfl h2 T.iR.cl T.jt rfl (h9 rfl rfl (a_ rfl ?_))))
   rw[ah jP]
   exact iu ⟨_,rfl,p2,_,dx,_,_,rfl,h2,T.iR.cl,T.jt,rfl,by show 1<=sizeLine;decide,λp hp=>k.no B hd (by rw[iK,qJ e1]) (s2.trans (c_.new hp)) e_⟩
  | ok v=>
   rw[e1]at h2
   have kW:=rS B.ok e1
   obtain⟨dx,pq,pw,x,h2,h3,h4,h5⟩:=h2
   have ni:=sm B
   obtain⟨dw,lr,lp,w1,w2,w3⟩:=h5
   refine(a_ rfl (hX rfl h2 T.iR.cl T.jt rfl (h9 rfl rfl (a_ rfl (iz ?_)))))
   refine(a_ rfl ⟨bk,d,b,kvs,rfl,B.same s2,λlb H3 s3 ⟨ns,sM,M6⟩=>?_⟩)
   have wA:=M6.1
   have jK:=s2.trans s3
   refine(a_ rfl (hX rfl (s3 _ _ h2) T.iR.cl T.k8 rfl (hX rfl (s3 _ _ w1) T.jo.cl T.nB rfl ⟨lb,lp,_,a_ rfl ⟨f_.of sM,f_.of (s3 _ _ w3),λD hD=>Gg (xs:=ns.map V.ref) (ys:=v.powers.map V.int) (Vaunia.bases b).length (by rw[ab,wA]) (by rw[ab,kW.len]) (λi U=>c_ H3 U/\∃qs:List Addr,U D=some (.lst (qs.map V.ref))/\Zip (nQ U) qs ((((Vaunia.bases b).zip v.powers).take i).filter λf=>f.2 != 0)/\qs.length<=i) ⟨c_.new hD,[],e_,Zip.nil,ax _⟩ (λi U p=>⟨f_.of (p.1 _ _ sM),f_.of (p.1 _ _ (s3 _ _ w3))⟩) (λi y z U Tt hy hz p hT=>?_) (λH4 p=>?_)⟩⟩)))
   ·obtain⟨s4,qs,jn,jv,kL⟩:=p
    obtain⟨nn,Fp,rfl⟩:=i8 hy
    obtain⟨z1,BS,rfl⟩:=i8 hz
    obtain⟨nm,kC,Tu⟩:=M6.right Fp
    have hi:=ja kC
    have BQ:((Vaunia.bases b).zip v.powers)[i]? =some (nm,z1):=by rw[cH];exact⟨kC,BS⟩
    have sT:=c_.new (o:=.tup [V.ref nn,V.int z1]) hT
    refine⟨Tt,_,rfl,iO.of e_,rfl,_,_,rfl,_,_,rfl,rfl,rfl,?_⟩
    refine⟨_,rfl,rfl,_,rfl,?_⟩
    have ed:(!decide (V.int z1=V.int 0))=(z1 != 0):=by
     have:decide (V.int z1=V.int 0)=(z1 == 0):=by rw[aH,ak,dM,V.int.injEq]
     rw[this];rfl
    rw[ed,take_snoc BQ,bT,aY,eG]
    refine iU (λc=>?_) (λc=>?_)
    ·simp only[c,dQ]
     refine(a_ rfl (a_ rfl ⟨by show 2<=sizeLine;decide,λq hq=>?_⟩))
     have sq:=c_.new (o:=.tup [V.ref nn,V.int z1]) hq
     have Dk:=sT.trans sq
     have EO:=Dk _ _ jn
     have kp:Kp D U _:=Dk.kp.trans (Kp.upd (l:=D) (o:=.lst (qs.map V.ref++[V.ref q])))
     refine⟨_,EO,by rw[ab];exact iV (by omega),Kp.same s4 hD kp,qs++[q],by rw[e_,au];rfl,?_,by rw[aj,aA];omega⟩
     refine(jv.mono λx y r=>r.kp jn kp).snoc ?_
     refine nQ.kp ⟨nn,e_,?_⟩ EO Kp.upd
     exact Dk _ _ (s4 _ _ Tu)
    ·simp only[bj.mpr c,aK,bq,cv]
     exact⟨s4.trans sT,qs,sT _ _ jn,jv.mono λx y r=>r.same sT,by omega⟩
   ·obtain⟨s4,qs,jn,jv,kL⟩:=p
    rw[cu (by rw[dD];omega)]at jv
    have nL:=s3.trans s4
    have wG:∀f∈Vaunia.baseFactors (Vaunia.bases b) v.powers,nP f:=λf hf=>by
     have hm:=(cR.mp hf).1
     obtain⟨i,hi⟩:=fU.mp hm
     rw[show f=(f.1,f.2) from rfl,cH]at hi
     have h1:=aG hi.1
     have h2:=aG hi.2
     have kC:Vaunia.isName f.1=true:=by
      unfold Vaunia.bases at h1
      obtain⟨e,he,ee⟩:=aQ.mp h1
      rw[<-ee];exact B.ok.nm e (cR.mp he).1
     have:=uM kC
     have hp:=kW.pw _ h2
     exact⟨this.2,this.1,cC hp (by decide)⟩
    have jT:(Vaunia.baseFactors (Vaunia.bases b) v.powers).length<=50:=by
     unfold Vaunia.baseFactors
     have:=cy (λf:Vaunia.Factor=>f.2 != 0) ((Vaunia.bases b).zip v.powers)
     rw[dD]at this
     omega
    have qF:=GV kW.near
    have qz:=L5 qF.1 qF.2 wG jT
    refine⟨by show 1<=sizeLine;decide,λo ho=>?_⟩
    have s5:=c_.new (o:=.lst [V.int 0]) ho
    have zQ:=nL.trans s5
    refine(a_ rfl (hX rfl (zQ _ _ h2) T.iR.cl T.k8 rfl (hX rfl (zQ _ _ w1) T.jo.cl T.kM rfl (a_ rfl ⟨lr,D,v.ratio,Vaunia.baseFactors (Vaunia.bases b) v.powers,rfl,w2.same zQ,qF.1,qF.2,j9.same ⟨qs,jn,jv⟩ s5,jT,wG,λq H6 s6 h6=>?_⟩))))
    refine(⟨o,q,h9 rfl rfl ⟨s6 _ _ e_,h6,?_,λy hy=>?_⟩⟩)
    ·rw[i_];show 1+_<=sizeLine;exact aI (iV (by omega))
    ·refine k.ask B hd rfl (ans:=0::VauniaNeutral.ofText (Vaunia.told b v)) (by rw[iK,oj e1];rfl) (((s2.trans zQ).trans s6).trans (c_.new hy)) ?_ ?_
     ·rw[e_,xJ];rfl
     ·rw[ai,sZ]
      show(Vaunia.shownQuantity v.ratio (Vaunia.baseFactors (Vaunia.bases b) v.powers)).length+1<=20000
      omega
theorem HI{b:Vaunia.Book}{sg:Bool}{t u:List UInt8}{H:Hp}{p:Addr}(B:lg b)(h:xR a H p b sg t u)(f:Vaunia.Q->Vaunia.Answer):
 (∃e dx,e<0/\H p=some (.ins a.nR dx [("refusal",.int e),("first",.ia),("second",.ia)])/\Vaunia.withRatio b sg t u f= .refused e)\/
 ∃v x dx r1 r2,Vaunia.withRatio b sg t u f=f (Vaunia.Q.div v.ratio x.ratio)/\Vaunia.reading b sg t= .ok v/\Aq b x/\kX v.ratio/\Vaunia.near v.ratio=true/\H p=some (.ins a.nR dx [("refusal",.int 0),("first",.ref r1),("second",.ref r2)])/\iN a H r1 v.ratio/\iN a H r2 x.ratio:=by
 unfold xR at h
 unfold Vaunia.withRatio
 cases e1:Vaunia.reading b sg t with
 | error e=>
  rw[e1]at h
  obtain⟨dx,h⟩:=h
  exact .inl ⟨e,dx,mY e1,h,qJ e1⟩
 | ok v=>
  simp only[e1]at h
  rw[oj e1]
  cases e2:Vaunia.reading b false u with
  | error e=>
   simp only[e2]at h
   obtain⟨dx,h⟩:=h
   exact .inl ⟨e,dx,mY e2,h,qJ e2⟩
  | ok x=>
   simp only[e2]at h
   rw[oj e2]
   cases qo:Vaunia.alike v x with
   | false=>
    rw[qo]at h
    obtain⟨dx,h⟩:=h
    exact .inl ⟨-10,dx,by decide,h,rfl⟩
   | true=>
    rw[qo]at h
    obtain⟨dx,r1,r2,h1,h2,h3⟩:=h
    have vs:=aaj B e1
    exact .inr ⟨v,x,dx,r1,r2,rfl,rfl,rS B e2,vs.1,vs.2,h1,h2,h3⟩
noncomputable def YS(K:Fg)(a:hC):Sp:=λvs H R _=>∃bk d b kvs l t m u,vs=[.ref bk,.ref l,.ref m]/\iB a H bk d b kvs/\H d=some (.dT kvs)/\f_ K H l (bv t)/\f_ K H m (bv u)/\kP a H R bk d b (.ratio t u)
theorem W7(T:Txt K mg a)(ht:P.given.tree=none):Callee P w K mg base 42 "call_ratio" ["book","a","b"] (YS K a):=by
 refine T.Ox.ok KS (λvs H Q E h=>?_) (λf h8 A outer s H vs Q E hr h=>?_)
 ·obtain⟨_,_,_,_,_,_,_,_,rfl,_⟩:=h
  rfl
 ·obtain⟨bk,d,b,kvs,l,t,m,u,rfl,B,hd,hl,hm,k⟩:=h
  have nd:=KS.nd
  refine⟨_,gZ (ic (i:=3) nd rfl (Or.inl rfl) (hU (Ho T ht) hr (b_ (pv 0) (b_ (pv 1) (b_ (pv 2) (b_ l6 d_))))))
   (gZ (iw (iq kN (hG (pv 3) rfl) ij (ig _)) (g9 (hJ (iL (b_ (hG (pv 3) rfl) d_)))) iy)
   (gZ (ic (i:=4) nd rfl (Or.inl rfl) (hU (xm T) (hr.mono (by decide)) (b_ (hG (pv 3) rfl) (b_ (hG (pv 3) rfl) d_))))
   (g9 (hJ (iL (b_ (hG (pv 4) rfl) (b_ (hG (pv 4) rfl) d_))))))),?_⟩
  dsimp only[il]
  have iK:Vaunia.step ⟨b⟩ (.ratio t u)=(⟨b⟩,Vaunia.withRatio b false t u .ratio):=rfl
  refine(a_ rfl (a_ rfl (a_ rfl ⟨bk,d,b,kvs,l,m,t,u,false,rfl,B,hl,hm,λp2 H2 s2 h2=>?_⟩)))
  rcases HI B.ok h2 .ratio with⟨er,dx,jP,h2,ea⟩ | ⟨v,x,dx,r1,r2,ea,uu,qK,vh,vi,h2,g1,g2⟩
  ·refine(a_ rfl (hX rfl h2 T.mT.cl T.sY rfl (h9 rfl rfl (a_ rfl ?_))))
   rw[ah jP]
   exact iu (a_ rfl (hX rfl h2 T.mT.cl T.sY rfl ⟨by show 1<=sizeLine;decide,λp hp=>k.no B hd (by rw[iK,ea]) (s2.trans (c_.new hp)) e_⟩))
  ·refine(a_ rfl (hX rfl h2 T.mT.cl T.sY rfl (h9 rfl rfl (a_ rfl (iz ?_)))))
   refine(a_ rfl (hX rfl h2 T.mT.cl T.Cj rfl (a_ rfl (hX rfl h2 T.mT.cl T.Ck rfl ⟨r1,r2,v.ratio,x.ratio,rfl,g1,g2,nA vi,nA qK.near,vh.1,qK.pos.2,λp3 H3 s3 h3=>?_⟩))))
   rw[<-yl vh qK.pos]at h3
   obtain⟨d3,h3⟩:=h3
   exact(a_ rfl (hX rfl h3 T.iQ.cl T.jN rfl (a_ rfl (hX rfl h3 T.iQ.cl T.jM rfl ⟨by show 2<=sizeLine;decide,λp hp=>k.ask B hd rfl (ans:=[(Vaunia.Q.div v.ratio x.ratio).num,((Vaunia.Q.div v.ratio x.ratio).den:Int)]) (by rw[iK,ea];rfl) ((s2.trans s3).trans (c_.new hp)) e_ (by show 2<=20000;decide)⟩))))
end
theorem Iy(p:Nat)(q:Q)(h:0<q.den):Vaunia.rounded p q=Vaunia.shownPlaces p (j3 (q.num*10^p) q.den):=by
 unfold Vaunia.rounded Vaunia.Q.mul Vaunia.Q.ofInt
 rw[gB,Wg _ h]
theorem places_len{p:Nat}(hp:p<=20){n:Int}{d:Nat}(hd:0<d)(hn:n.natAbs<10^80):(Vaunia.shownPlaces p (j3 (n*10^p) d)).length<=400:=by
 have key:(j3 (n*10^p) d).natAbs<10^130:=by
  have h1:∀m:Nat,m<=10^80->(j3 ((m*10^p:Nat):Int) d).natAbs<10^130:=λm hm=>by
   have a:=G0 (m*10^p) hd
   have b:=GY (m*10^p) hd
   have h1:(10:Nat)^p<=10^20:=a0 (by decide) hp
   have h2:m*10^p<=10^80*10^20:=cW hm h1
   have h4:(10:Nat)^80*10^20+1<10^130:=by decide
   omega
  rcases gP n 0 with c | c
  ·have e:n*10^p= -((n.natAbs*10^p:Nat):Int):=by
    rw[aW,bH]
    have:(n.natAbs:Int)= -n:=by omega
    rw[this,gY,Int.neg_neg];rfl
   rw[e,GZ _ hd,Int.natAbs_neg]
   exact h1 _ (aI hn)
  ·have e:n*10^p=((n.natAbs*10^p:Nat):Int):=by
    rw[aW,bH]
    have:(n.natAbs:Int)=n:=by omega
    rw[this];rfl
   rw[e]
   exact h1 _ (aI hn)
 have hl:=t7 (by decide) key
 have i9:=HH (p+1) (Vaunia.decimal (j3 (n*10^p) d).natAbs)
 unfold Vaunia.shownPlaces
 dsimp only
 generalize Vaunia.padded (p+1) (Vaunia.decimal (j3 (n*10^p) d).natAbs)=dg at i9
 have:∀body:List UInt8,body.length<=399->(if j3 (n*10^p) d<0 then 45::body else body).length<=400:=λbody hb=>by
  split
  ·rw[ai];omega
  ·omega
 refine this _ ?_
 split
 ·rw[aB];omega
 ·rw[aj,ai,aB,aR];omega
section
variable{P:Program}{w:World}{K:Fg}{mg:Str->Option Value}{base:Heap}{a:hC}
noncomputable def YL(K:Fg)(a:hC):Sp:=λvs H R _=>∃bk d b kvs z l t m u,vs=[.ref bk,.int z,.ref l,.ref m]/\iB a H bk d b kvs/\H d=some (.dT kvs)/\f_ K H l (bv t)/\f_ K H m (bv u)/\kP a H R bk d b (.convert z t u)
theorem W1(T:Txt K mg a)(ht:P.given.tree=none):Callee P w K mg base 42 "call_convert" ["book","places","a","b"] (YL K a):=by
 refine T.Oo.ok KN (λvs H Q E h=>?_) (λf h8 A outer s H vs Q E hr h=>?_)
 ·obtain⟨_,_,_,_,_,_,_,_,_,rfl,_⟩:=h
  rfl
 ·obtain⟨bk,d,b,kvs,z,l,t,m,u,rfl,B,hd,hl,hm,k⟩:=h
  have nd:=KN.nd
  refine⟨_,gZ (iw (mD (iq kN (pv 1) ij (ig _)) (mE (iq ly (pv 1) (iD T.Rx) (ig _)))).pt (g9 (hJ (iL (b_ (iD T.A7) d_)))) iy)
   (gZ (ic (i:=4) nd rfl (Or.inl rfl) (hU (Ho T ht) hr (b_ (pv 0) (b_ (pv 2) (b_ (pv 3) (b_ l6 d_))))))
   (gZ (iw (iq kN (hG (pv 4) rfl) ij (ig _)) (g9 (hJ (iL (b_ (hG (pv 4) rfl) d_)))) iy)
   (g9 (hJ (iH kS (iL (b_ ij d_)) (hU (XR T) (hr.mono (by decide)) (b_ (hU (xm T) (hr.mono (by decide)) (b_ (hG (pv 4) rfl) (b_ (hG (pv 4) rfl) d_))) (b_ (pv 1) d_)))))))),?_⟩
  dsimp only[il]
  have one:1<=sizeLine:=by decide
  have iK:Vaunia.step ⟨b⟩ (.convert z t u)=(⟨b⟩,if z<0\/20<z then .refused (-13) else Vaunia.withRatio b true t u λq=>.text (Vaunia.rounded z.toNat q)):=rfl
  dsimp only[pW,pU]
  refine vb (b1:=decide (z<0)) (b2:=decide (20<z)) (λR hR=>(a_ rfl (h9 rfl rfl (a_ rfl hR)))) (λR hR=>(a_ rfl (h9 rfl rfl (a_ rfl hR)))) ?_
  refine iU (λc=>?_) (λc=>?_)
  ·have c:z<0\/20<z:=by simpa using c
   rw[aE c]at iK
   exact⟨one,λp hp=>k.no B hd iK (c_.new hp) e_⟩
  ·have c:¬(z<0\/20<z):=by simpa using c
   rw[aq c]at iK
   refine(a_ rfl (a_ rfl (a_ rfl ⟨bk,d,b,kvs,l,m,t,u,true,rfl,B,hl,hm,λp2 H2 s2 h2=>?_⟩)))
   rcases HI B.ok h2 (λq=>.text (Vaunia.rounded z.toNat q)) with⟨er,dx,jP,h2,ea⟩ | ⟨v,x,dx,r1,r2,ea,uu,qK,vh,vi,h2,g1,g2⟩
   ·refine(a_ rfl (hX rfl h2 T.mT.cl T.sY rfl (h9 rfl rfl (a_ rfl ?_))))
    rw[ah jP]
    exact iu (a_ rfl (hX rfl h2 T.mT.cl T.sY rfl ⟨one,λp hp=>k.no B hd (by rw[iK,ea]) (s2.trans (c_.new hp)) e_⟩))
   ·refine(a_ rfl (hX rfl h2 T.mT.cl T.sY rfl (h9 rfl rfl (a_ rfl (iz ?_)))))
    refine⟨one,λo ho=>?_⟩
    have s3:=c_.new (o:=.lst [V.int 0]) ho
    refine(a_ rfl (hX rfl (s3 _ _ h2) T.mT.cl T.Cj rfl (a_ rfl (hX rfl (s3 _ _ h2) T.mT.cl T.Ck rfl ⟨r1,r2,v.ratio,x.ratio,rfl,g1.same s3,g2.same s3,nA vi,nA qK.near,vh.1,qK.pos.2,λp4 H4 s4 h4=>?_⟩))))
    have ph:0<v.ratio.den*x.ratio.num.natAbs:=bL vh.1 (by have:=qK.pos.2;omega)
    have hle:=Cy (v.ratio.num*x.ratio.den) ph
    have nj:=pL (n:=v.ratio.num*x.ratio.den) ph
    have h80:=Wb vi qK.near
    rw[cN,bS]at hle
    have QG:=yl vh qK.pos
    rw[<-QG]at h4 hle nj
    have hz:z=((z.toNat:Nat):Int):=by omega
    refine(a_ rfl ⟨p4,Vaunia.Q.div v.ratio x.ratio,z.toNat,by rw[<-hz];rfl,h4,nj,by omega,by omega,by omega,λq H5 s5 h5=>?_⟩)
    have i9:=places_len (p:=z.toNat) (by omega) nj (show(Vaunia.Q.div v.ratio x.ratio).num.natAbs<10^80 by omega)
    refine(⟨o,q,h9 rfl rfl ⟨(s4.trans s5) _ _ e_,h5,?_,λy hy=>?_⟩⟩)
    ·rw[i_];show 1+_<=sizeLine;exact aI (iV (by omega))
    ·refine k.ask B hd rfl (ans:=0::VauniaNeutral.ofText (Vaunia.rounded z.toNat (Vaunia.Q.div v.ratio x.ratio))) (by rw[iK,ea];rfl) ((((s2.trans s3).trans s4).trans s5).trans (c_.new hy)) ?_ ?_
     ·rw[e_,xJ,Iy _ _ nj]
     ·rw[ai,sZ,Iy _ _ nj];omega
noncomputable def YU(K:Fg)(a:hC):Sp:=λvs H R _=>∃bk d b kvs z l t,vs=[.ref bk,.int z,.ref l]/\iB a H bk d b kvs/\H d=some (.dT kvs)/\f_ K H l (bv t)/\kP a H R bk d b (.root z t)
theorem W9(T:Txt K mg a)(ht:P.given.tree=none):Callee P w K mg base 41 "call_root" ["book","k","quantity"] (YU K a):=by
 refine T.Oz.ok KW (λvs H Q E h=>?_) (λf h8 A outer s H vs Q E hr h=>?_)
 ·obtain⟨_,_,_,_,_,_,_,rfl,_⟩:=h
  rfl
 ·obtain⟨bk,d,b,kvs,z,l,t,rfl,B,hd,hl,k⟩:=h
  have nd:=KW.nd
  refine⟨_,gZ (iw (mD (iq kN (pv 1) (iD T.Ro) (ig _)) (mE (iq ly (pv 1) (iD T.RA) (ig _)))).pt (g9 (hJ (iL (b_ (iD T.A7) d_)))) iy)
   (gZ (ic (i:=3) nd rfl (Or.inl rfl) (hU (oT T ht) hr (b_ (pv 0) (b_ (pv 2) (b_ l6 d_)))))
   (gZ (iw (iq kN (hG (pv 3) rfl) ij (ig _)) (g9 (hJ (iL (b_ (hG (pv 3) rfl) d_)))) iy)
   (gZ (ic (i:=4) nd rfl (Or.inl rfl) (hU (X0 T) (hr.mono (by decide)) (b_ (hG (pv 3) rfl) (b_ (pv 1) d_))))
   (g9 (hJ (mB (iq l0 (pv 4) iM (ig _)) (iL (b_ (iD T.RL) d_)) (hU (Hy T) (hr.mono (by decide)) (b_ (pv 4) d_)))))))),?_⟩
  dsimp only[il]
  have one:1<=sizeLine:=by decide
  have iK:Vaunia.step ⟨b⟩ (.root z t)=(⟨b⟩,if z<2\/9<z then .refused (-13) else Vaunia.withWorth b false t λw=>match Vaunia.rootOf z.toNat w with
   | some v=>.worth v
   | none=>.refused (-11)):=rfl
  dsimp only[pW,pU]
  refine vb (b1:=decide (z<2)) (b2:=decide (9<z)) (λR hR=>(a_ rfl (h9 rfl rfl (a_ rfl hR)))) (λR hR=>(a_ rfl (h9 rfl rfl (a_ rfl hR)))) ?_
  refine iU (λc=>?_) (λc=>?_)
  ·have c:z<2\/9<z:=by simpa using c
   rw[aE c]at iK
   exact⟨one,λp hp=>k.no B hd iK (c_.new hp) e_⟩
  ·have c:¬(z<2\/9<z):=by simpa using c
   rw[aq c]at iK
   refine(a_ rfl (a_ rfl ⟨bk,d,b,kvs,l,t,false,rfl,B,hl,λp2 H2 s2 h2=>?_⟩))
   cases e1:Vaunia.reading b false t with
   | error er=>
    rw[e1]at h2
    obtain⟨dx,h2⟩:=h2
    have jP:=mY e1
    refine(a_ rfl (hX rfl h2 T.iR.cl T.jt rfl (h9 rfl rfl (a_ rfl ?_))))
    rw[ah jP]
    exact iu ⟨_,rfl,p2,_,dx,_,_,rfl,h2,T.iR.cl,T.jt,rfl,one,λp hp=>k.no B hd (by rw[iK,qJ e1]) (s2.trans (c_.new hp)) e_⟩
   | ok v=>
    rw[e1]at h2
    have kW:=rS B.ok e1
    obtain⟨dx,pq,pw,x,h2,h3,h4,h5⟩:=h2
    have ni:=sm B
    have hz:z=((z.toNat:Nat):Int):=by omega
    refine(a_ rfl (hX rfl h2 T.iR.cl T.jt rfl (h9 rfl rfl (a_ rfl (iz ?_)))))
    refine(a_ rfl (hX rfl h2 T.iR.cl T.k8 rfl (a_ rfl ⟨pw,v,z.toNat,by rw[<-hz];rfl,h5,kW.pos,kW.near,by rw[kW.len];exact ni,by omega,by omega,λu H3 s3 hu=>?_⟩)))
    have jK:=s2.trans s3
    cases jV:Vaunia.rootOf z.toNat v with
    | none=>
     rw[jV]at hu
     have hu:u= .ia:=hu
     subst hu
     exact⟨_,rfl,rfl,_,rfl,iu ⟨one,λp hp=>k.no B hd (by rw[iK,oj e1];simp only[jV]) (jK.trans (c_.new hp)) e_⟩⟩
    | some r=>
     rw[jV]at hu
     obtain⟨pu,rfl,hu⟩:=hu
     have oO:r.powers.length<=40:=by
      unfold Vaunia.rootOf at jV
      split at jV
      ·split at jV
       ·have e:=ae jV
        rw[<-e]
        show(v.powers.map _).length<=40
        rw[ab,kW.len];exact ni
       ·cases jV
      ·cases jV
     refine(a_ rfl ⟨rfl,a_ rfl (iz (a_ rfl ⟨pu,r,rfl,hu,oO,λq H4 s4 qk=>k.ask B hd rfl (ans:=r.ratio.num::(r.ratio.den:Int)::r.powers) (by rw[iK,oj e1];simp only[jV];rfl) (jK.trans s4) qk ?_⟩))⟩)
     rw[ai,ai];omega
noncomputable def YR(K:Fg)(a:hC):Sp:=λvs H R _=>∃bk d b kvs l t,vs=[.ref bk,.ref l]/\iB a H bk d b kvs/\H d=some (.dT kvs)/\f_ K H l (bv t)/\kP a H R bk d b (.named t)
theorem W6(T:Txt K mg a)(ht:P.given.tree=none):Callee P w K mg base 41 "call_named" ["book","quantity"] (YR K a):=by
 refine T.Ow.ok KR (λvs H Q E h=>?_) (λf h8 A outer s H vs Q E hr h=>?_)
 ·obtain⟨_,_,_,_,_,_,rfl,_⟩:=h
  rfl
 ·obtain⟨bk,d,b,kvs,l,t,rfl,B,hd,hl,k⟩:=h
  have nd:=KR.nd
  refine⟨_,gZ (ic (i:=2) nd rfl (Or.inl rfl) (hU (oT T ht) hr (b_ (pv 0) (b_ (pv 1) (b_ l6 d_)))))
   (gZ (iw (iq kN (hG (pv 2) rfl) ij (ig _)) (g9 (hJ (iL (b_ (hG (pv 2) rfl) d_)))) iy)
   (gZ (ic (i:=3) nd rfl (Or.inl rfl) (hU (Xh T) (hr.mono (by decide)) (b_ (pv 0) (b_ (hG (pv 2) rfl) d_))))
   (g9 (hJ (mB (iq l0 (pv 3) iM (ig _)) (iL (b_ (iD T.EE) d_)) (iH kS (iL (b_ ij d_)) (l7 vT (by rfl) T.tT (by decide +kernel) (b_ (pv 3) d_)))))))),?_⟩
  dsimp only[il]
  have one:1<=sizeLine:=by decide
  have iK:Vaunia.step ⟨b⟩ (.named t)=(⟨b⟩,Vaunia.withWorth b false t λw=>match Vaunia.firstNamed (Vaunia.meanings b) w with
   | some x=>.text x
   | none=>.refused (-12)):=rfl
  refine(a_ rfl (a_ rfl ⟨bk,d,b,kvs,l,t,false,rfl,B,hl,λp2 H2 s2 h2=>?_⟩))
  cases e1:Vaunia.reading b false t with
  | error er=>
   rw[e1]at h2
   obtain⟨dx,h2⟩:=h2
   have jP:=mY e1
   refine(a_ rfl (hX rfl h2 T.iR.cl T.jt rfl (h9 rfl rfl (a_ rfl ?_))))
   rw[ah jP]
   exact iu ⟨_,rfl,p2,_,dx,_,_,rfl,h2,T.iR.cl,T.jt,rfl,one,λp hp=>k.no B hd (by rw[iK,qJ e1]) (s2.trans (c_.new hp)) e_⟩
  | ok v=>
   rw[e1]at h2
   obtain⟨dx,pq,pw,x,h2,h3,h4,h5⟩:=h2
   refine(a_ rfl (hX rfl h2 T.iR.cl T.jt rfl (h9 rfl rfl (a_ rfl (iz ?_)))))
   refine(a_ rfl (a_ rfl (hX rfl h2 T.iR.cl T.k8 rfl ⟨bk,d,b,kvs,pw,v,rfl,B.same s2,s2 _ _ hd,h5,λu H3 s3 hu=>?_⟩)))
   have jK:=s2.trans s3
   cases nr:Vaunia.firstNamed (Vaunia.meanings b) v with
   | none=>
    rw[nr]at hu
    have hu:u= .ia:=hu
    subst hu
    exact⟨_,rfl,rfl,_,rfl,iu ⟨one,λp hp=>k.no B hd (by rw[iK,oj e1];simp only[nr]) (jK.trans (c_.new hp)) e_⟩⟩
   | some y=>
    rw[nr]at hu
    obtain⟨q,rfl,hq⟩:=hu
    have yZ:y.length<=12:=by
     unfold Vaunia.firstNamed at nr
     cases pj:(Vaunia.meanings b).find? λp=>decide (p.2=v) with
     | none=>rw[pj]at nr;cases nr
     | some pr=>
      rw[pj]at nr
      have e:pr.1=y:=ae nr
      have hm:=dS pj
      rw[sW]at hm
      obtain⟨z,hz,ez⟩:=aQ.mp hm
      have ny:z.1∈(iE b).map (·.1):=aQ.mpr ⟨z,hz,rfl⟩
      rw[B.ok.wf.names]at ny
      obtain⟨en,mQ,QI⟩:=aQ.mp ny
      have:y=en.name:=by rw[<-e,<-ez,QI]
      rw[this];exact(uM (B.ok.nm en mQ)).1
    refine(a_ rfl ⟨rfl,a_ rfl (iz ⟨one,λo ho=>?_⟩)⟩)
    have s4:=c_.new (o:=.lst [V.int 0]) ho
    refine(a_ rfl ⟨q,a_ rfl ⟨.inr (iO.of (s4 _ _ hq)),λl2 jd=>?_⟩⟩)
    have s5:=c_.new (o:=.lst (bv y)) jd
    refine(⟨o,l2,h9 rfl rfl ⟨s5 _ _ e_,e_,?_,λr jR=>?_⟩⟩)
    ·rw[i_];show 1+_<=sizeLine;exact aI (iV (by omega))
    ·refine k.ask B hd rfl (ans:=0::VauniaNeutral.ofText y) (by rw[iK,oj e1];simp only[nr];rfl) (((jK.trans s4).trans s5).trans (c_.new jR)) ?_ ?_
     ·rw[e_,xJ]
     ·rw[ai,sZ];omega
end
theorem Gb{m:Vaunia.Meaning}:∀(l acc:Vaunia.Meaning),(l.foldl (λl p=>Vaunia.putByRatio p l) acc).length=l.length+acc.length/\∀y∈l.foldl (λl p=>Vaunia.putByRatio p l) acc,y∈l\/y∈acc
 | [],acc=>⟨by simp,λy hy=>.inr hy⟩
 | x::r,acc=>by
  obtain⟨h1,h2⟩:=Gb (m:=m) r (Vaunia.putByRatio x acc)
  refine⟨by rw[gc,h1,Yz,ai];omega,λy hy=>?_⟩
  rcases h2 y hy with h | h
  ·exact .inl (aw _ h)
  ·rcases YA h with e | h
   ·exact .inl (e▸aD)
   ·exact .inr h
theorem U8(m:Vaunia.Meaning)(v:Vaunia.Worth):(Vaunia.kinOf m v).length<=m.length/\∀x∈Vaunia.kinOf m v,x∈m.map (·.1):=by
 unfold Vaunia.kinOf
 obtain⟨h1,h2⟩:=Gb (m:=m) (m.filter λp=>Vaunia.alike p.2 v) []
 have:=cy (λp:List UInt8×Vaunia.Worth=>Vaunia.alike p.2 v) m
 refine⟨by rw[ab,h1,bQ];omega,λx hx=>?_⟩
 obtain⟨y,hy,e⟩:=aQ.mp hx
 rcases h2 y hy with h | h
 ·exact aQ.mpr ⟨y,(cR.mp h).1,e⟩
 ·cases h
theorem VQ{b:Vaunia.Book}(h:lg b):(Vaunia.meanings b).map (·.1)=b.map (·.name):=by
 rw[sW]
 unfold nI
 rw[bu]
 exact h.wf.names
theorem Gu{b:Vaunia.Book}(h:lg b){x:List UInt8}(hx:x∈(Vaunia.meanings b).map (·.1)):Vaunia.isName x=true:=by
 rw[VQ h]at hx
 obtain⟨e,he,rfl⟩:=aQ.mp hx
 exact h.nm e he
noncomputable def qX(t:List UInt8):List Int:=(t.length:Int)::VauniaNeutral.ofText t
theorem AV:∀(l:List (List UInt8)),(∀t∈l,t.length<=12)->(l.flatMap qX).length<=13*l.length
 | [],_=>ax _
 | t::r,h=>by
  have:=AV r λx hx=>h x (aw _ hx)
  have ht:=h t aD
  have e:(qX t).length=t.length+1:=by unfold qX;rw[ai,sZ]
  rw[gK,aj,ai,e];omega
theorem aa7{m:Vaunia.Meaning}{v:Vaunia.Worth}{fs:List Vaunia.Factor}(h:Vaunia.shortOf m v=some fs):fs.length<=2/\∀f∈fs,f.1∈m.map (·.1)/\f.2∈Vaunia.POWERS:=by
 have TC:∀{m:Vaunia.Meaning},Vaunia.shortOne m v=some fs->fs.length<=2/\∀f∈fs,f.1∈m.map (·.1)/\f.2∈Vaunia.POWERS:=λ{m} h=>by
  unfold Vaunia.shortOne at h
  obtain⟨p,hp,h⟩:=cA h
  obtain⟨i,hi,h⟩:=cA h
  split at h
  ·have e:=ae h
   rw[<-e]
   refine⟨by simp,λf hf=>?_⟩
   rw[bA.mp hf]
   exact⟨aQ.mpr ⟨p,hp,rfl⟩,hi⟩
  ·cases h
 have Ue:∀{m:Vaunia.Meaning},Vaunia.shortTwo v m=some fs->fs.length<=2/\∀f∈fs,f.1∈m.map (·.1)/\f.2∈Vaunia.POWERS:=λ{m}=>by
  induction m with
  | nil=>intro h;cases h
  | cons p r ih=>
   intro h
   rw[L0]at h
   cases hs:Vaunia.shortWith p r v with
   | none=>
    rw[hs]at h
    obtain⟨h1,h2⟩:=ih h
    exact⟨h1,λf hf=>⟨aw _ (h2 f hf).1,(h2 f hf).2⟩⟩
   | some gs=>
    rw[hs]at h
    have e:gs=fs:=ae h
    subst e
    unfold Vaunia.shortWith at hs
    obtain⟨q,hq,hs⟩:=cA hs
    obtain⟨i,hi,hs⟩:=cA hs
    obtain⟨j,hj,hs⟩:=cA hs
    split at hs
    ·have e:=ae hs
     rw[<-e]
     refine⟨by simp,λf hf=>?_⟩
     have hf:f=(p.1,i)\/f=(q.1,j):=by simpa using hf
     rcases hf with rfl | rfl
     ·exact⟨aD,hi⟩
     ·exact⟨aw _ (aQ.mpr ⟨q,hq,rfl⟩),hj⟩
    ·cases hs
 unfold Vaunia.shortOf at h
 split at h
 ·have e:=ae h
  rw[<-e]
  exact⟨by simp,λf hf=>by cases hf⟩
 ·cases hs:Vaunia.shortOne m v with
  | some gs=>
   rw[hs]at h
   have e:gs=fs:=ae h
   rw[e]at hs
   exact TC hs
  | none=>
   rw[hs]at h
   exact Ue h
theorem split_len(q:Q):∀rs:List Q,rs≠[]->(Vaunia.splitBy q rs).1.length+1=rs.length
 | [],h=>absurd rfl h
 | [r],_=>rfl
 | r::s::l,_=>by
  rw[Mg]
  have:=split_len (Q.sub q ((Q.ofInt (Q.div q r).floor).mul r)) (s::l) (by simp)
  simp only[ai]at this ⊢
  omega
theorem Iu{b:Vaunia.Book}(B:lg b)(v:Vaunia.Worth):∀(ts:List (List UInt8)) (o:Option Q),(∀e,Vaunia.ratiosOf b v o ts= .error e->e<0)/\∀rs,Vaunia.ratiosOf b v o ts= .ok rs->rs.length=ts.length/\∀r∈rs,Pos r/\Vaunia.near r=true
 | [],o=>by
  refine⟨λe h=>(by cases h),λrs h=>?_⟩
  have e:[]=rs:=by injection h
  subst e
  exact⟨rfl,λr hr=>(by cases hr)⟩
 | t::r,o=>by
  cases e1:Vaunia.reading b false t with
  | error e0=>
   have hc:Vaunia.ratiosOf b v o (t::r)= .error e0:=by rw[C7,e1]
   rw[hc]
   refine⟨λe h=>?_,λrs h=>by cases h⟩
   injection h with h
   rw[<-h];exact mY e1
  | ok u=>
   have vd:=rS B e1
   obtain⟨i1,i2⟩:=Iu B v r (some u.ratio)
   have uh:∃cc:Bool,Vaunia.ratiosOf b v o (t::r)=if (!Vaunia.alike u v)=true then .error (-10) else if cc=true then .error (-14) else match Vaunia.ratiosOf b v (some u.ratio) r with
    | .error e=>.error e
    | .ok l=>.ok (u.ratio::l):=⟨match o with
    | some q=>!u.ratio.lt q
    | none=>false,by rw[C7,e1]<;>rfl⟩
   obtain⟨cc,uh⟩:=uh
   rw[uh]
   split
   ·exact⟨λe h=>by injection h with h;omega,λrs h=>by cases h⟩
   ·split
    ·exact⟨λe h=>by injection h with h;omega,λrs h=>by cases h⟩
    ·cases e2:Vaunia.ratiosOf b v (some u.ratio) r with
     | error e0=>
      refine⟨λe h=>?_,λrs h=>by cases h⟩
      injection h with h
      rw[<-h];exact i1 _ e2
     | ok l=>
      refine⟨λe h=>(by cases h),λrs h=>?_⟩
      injection h with h
      obtain⟨j1,j2⟩:=i2 l e2
      rw[<-h]
      refine⟨by rw[ai,ai,j1],λx hx=>?_⟩
      rcases aM.mp hx with e | hx
      ·rw[e];exact⟨vd.pos,vd.near⟩
      ·exact j2 x hx
section
variable{P:Program}{w:World}{K:Fg}{mg:Str->Option Value}{base:Heap}{a:hC}
noncomputable def YQ(K:Fg)(a:hC):Sp:=λvs H R _=>∃bk d b kvs l t,vs=[.ref bk,.ref l]/\iB a H bk d b kvs/\H d=some (.dT kvs)/\f_ K H l (bv t)/\kP a H R bk d b (.kin t)
theorem W5(T:Txt K mg a)(ht:P.given.tree=none):Callee P w K mg base 41 "call_kin" ["book","quantity"] (YQ K a):=by
 refine T.Ov.ok KQ (λvs H Q E h=>?_) (λf h8 A outer s H vs Q E hr h=>?_)
 ·obtain⟨_,_,_,_,_,_,rfl,_⟩:=h
  rfl
 ·obtain⟨bk,d,b,kvs,l,t,rfl,B,hd,hl,k⟩:=h
  have nd:=KQ.nd
  refine⟨_,gZ (ic (i:=2) nd rfl (Or.inl rfl) (hU (oT T ht) hr (b_ (pv 0) (b_ (pv 1) (b_ l6 d_)))))
   (gZ (iw (iq kN (hG (pv 2) rfl) ij (ig _)) (g9 (hJ (iL (b_ (hG (pv 2) rfl) d_)))) iy)
   (gZ (ic (i:=3) nd rfl (Or.inl rfl) (hU (WV T) (hr.mono (by decide)) (b_ (pv 0) (b_ (hG (pv 2) rfl) d_))))
   (gZ (ic (i:=4) nd rfl (Or.inl rfl) (iL (b_ (i7 ka (by rfl) T.jO aV (b_ (pv 3) d_)) d_)))
   (gZ (lC aX rfl (kj (pv 3)) (iT (i:=5) nd rfl (Or.inl rfl))
    (gZ (lR (lP aT bV bW rC (pv 4) (b_ (i7 ka (by rfl) T.jO aV (b_ (pv 5) d_)) d_)))
    (g9 (lR (lP aT fh fi V2 (pv 4) (b_ (pv 5) d_))))))
   (g9 (hJ (pv 4))))))),?_⟩
  dsimp only[il]
  have one:1<=sizeLine:=by decide
  have iK:Vaunia.step ⟨b⟩ (.kin t)=(⟨b⟩,Vaunia.withWorth b false t λw=>.names (Vaunia.kinOf (Vaunia.meanings b) w)):=rfl
  refine(a_ rfl (a_ rfl ⟨bk,d,b,kvs,l,t,false,rfl,B,hl,λp2 H2 s2 h2=>?_⟩))
  cases e1:Vaunia.reading b false t with
  | error er=>
   rw[e1]at h2
   obtain⟨dx,h2⟩:=h2
   have jP:=mY e1
   refine(a_ rfl (hX rfl h2 T.iR.cl T.jt rfl (h9 rfl rfl (a_ rfl ?_))))
   rw[ah jP]
   exact iu ⟨_,rfl,p2,_,dx,_,_,rfl,h2,T.iR.cl,T.jt,rfl,one,λp hp=>k.no B hd (by rw[iK,qJ e1]) (s2.trans (c_.new hp)) e_⟩
  | ok v=>
   rw[e1]at h2
   obtain⟨dx,pq,pw,x,h2,h3,h4,h5⟩:=h2
   refine(a_ rfl (hX rfl h2 T.iR.cl T.jt rfl (h9 rfl rfl (a_ rfl (iz ?_)))))
   refine(a_ rfl (a_ rfl (hX rfl h2 T.iR.cl T.k8 rfl ⟨bk,d,b,kvs,pw,v,rfl,B.same s2,s2 _ _ hd,h5,λln H3 s3 ⟨ps,jQ,jI⟩=>?_⟩)))
   have jK:=s2.trans s3
   obtain⟨kl,km⟩:=U8 (Vaunia.meanings b) v
   have pB:=zf B
   have wu:=B.len
   have ue:=B.ok.mO
   generalize sM:Vaunia.kinOf (Vaunia.meanings b) v=ns at jI kl km
   have wA:∀t∈ns,t.length<=12:=λt ht=>(uM (Gu B.ok (km t ht))).1
   have i9:=jI.1
   refine(a_ rfl ⟨ln,a_ rfl ⟨.inl (f_.of jQ),one,λan qp=>?_⟩⟩)
   rw[ab,i9]
   have s4:=c_.new (o:=.lst [V.int (ns.length:Nat)]) qp
   have nL:=jK.trans s4
   refine(a_ rfl ⟨ln,rfl,⟨_,f_.of (s4 _ _ jQ)⟩,qY (K:=K) (a:=ln) (xs:=ps.map V.ref) (λi σ U=>∃r5:Option V,σ=[some (.ref bk),some (.ref l),some (.ref p2),some (.ref ln),some (.ref an),r5]/\c_ H3 U/\U an=some (.lst ((((ns.length:Nat):Int)::(ns.take i).flatMap qX).map V.int)))
    ⟨none,rfl,s4,e_⟩ (λi σ U _ ⟨_,_,s5,_⟩=>f_.of (s5 _ _ jQ)) ?_ ?_⟩)
   ·rintro i y σ U hy ⟨r5,rfl,s5,ha⟩
    obtain⟨q,hq,rfl⟩:=i8 hy
    obtain⟨nm,kC,kR⟩:=jI.right hq
    have hi:=ja kC
    have R3:=wA nm (aG kC)
    have jT:=AV (ns.take i) λt ht=>wA t (gb ht)
    rw[aB]at jT
    have qo:((((ns.length:Nat):Int)::(ns.take i).flatMap qX).map V.int).length<=600:=by rw[ab,ai];omega
    refine(a_ rfl ⟨.inl ⟨rfl,_,f_.of ha⟩,a_ rfl ⟨q,a_ rfl ⟨.inr (iO.of (s5 _ _ kR)),an,h9 rfl rfl ⟨ha,iV (by omega),?_⟩⟩⟩⟩)
    rw[i_]
    have Wt:q≠an:=iC (s5 _ _ kR) ha (by intro z;cases z)
    refine(a_ rfl ⟨.inl ⟨rfl,_,f_.of e_⟩,a_ rfl ⟨an,q,h9 rfl rfl ⟨e_,iO.of (by rw[ip Wt];exact s5 _ _ kR),?_,?_⟩⟩⟩)
    ·rw[aj,aA,i_];exact aI (iV (by omega))
    ·refine(a_ rfl ⟨?_,?_⟩)
     ·rw[kn];exact s5.upd qp
     ·rw[e_,take_snoc kC,List.flatMap_append,<-List.cons_append,au,bR]
      congr 3
      show[V.int (nm.length:Int)]++bv nm=([nm].flatMap qX).map V.int
      rw[gK,List.flatMap_nil,cv]
      unfold qX
      rw[aO,Az];rfl
   ·rintro σ U ⟨r5,rfl,s5,ha⟩
    rw[ab,i9,aP]at ha
    refine(a_ rfl (k.ask B hd rfl (ans:=((ns.length:Nat):Int)::ns.flatMap qX) (by rw[iK,oj e1];show VauniaNeutral.encode (.names (Vaunia.kinOf (Vaunia.meanings b) v))=_;rw[sM];rfl) (jK.trans s5) ha ?_))
    have jT:=AV ns wA
    rw[ai];omega
noncomputable def YV(K:Fg)(a:hC):Sp:=λvs H R _=>∃bk d b kvs l t,vs=[.ref bk,.ref l]/\iB a H bk d b kvs/\H d=some (.dT kvs)/\f_ K H l (bv t)/\kP a H R bk d b (.short t)
theorem W_(T:Txt K mg a)(ht:P.given.tree=none):Callee P w K mg base 41 "call_short" ["book","quantity"] (YV K a):=by
 refine T.OA.ok KY (λvs H Q E h=>?_) (λf h8 A outer s H vs Q E hr h=>?_)
 ·obtain⟨_,_,_,_,_,_,rfl,_⟩:=h
  rfl
 ·obtain⟨bk,d,b,kvs,l,t,rfl,B,hd,hl,k⟩:=h
  have nd:=KY.nd
  refine⟨_,gZ (ic (i:=2) nd rfl (Or.inl rfl) (hU (oT T ht) hr (b_ (pv 0) (b_ (pv 1) (b_ l6 d_)))))
   (gZ (iw (iq kN (hG (pv 2) rfl) ij (ig _)) (g9 (hJ (iL (b_ (hG (pv 2) rfl) d_)))) iy)
   (gZ (ic (i:=3) nd rfl (Or.inl rfl) (hU (XN T) (hr.mono (by decide)) (b_ (pv 0) (b_ (hG (pv 2) rfl) d_))))
   (g9 (hJ (mB (iq l0 (pv 3) iM (ig _)) (iL (b_ (iD T.EE) d_)) (iH kS (iL (b_ ij d_)) (hU (Ht T) (hr.mono (by decide)) (b_ (pv 3) d_)))))))),?_⟩
  dsimp only[il]
  have one:1<=sizeLine:=by decide
  have iK:Vaunia.step ⟨b⟩ (.short t)=(⟨b⟩,Vaunia.withWorth b false t λw=>match Vaunia.shortOf (Vaunia.meanings b) w with
   | some fs=>.text (Vaunia.shownFactors fs)
   | none=>.refused (-12)):=rfl
  refine(a_ rfl (a_ rfl ⟨bk,d,b,kvs,l,t,false,rfl,B,hl,λp2 H2 s2 h2=>?_⟩))
  cases e1:Vaunia.reading b false t with
  | error er=>
   rw[e1]at h2
   obtain⟨dx,h2⟩:=h2
   have jP:=mY e1
   refine(a_ rfl (hX rfl h2 T.iR.cl T.jt rfl (h9 rfl rfl (a_ rfl ?_))))
   rw[ah jP]
   exact iu ⟨_,rfl,p2,_,dx,_,_,rfl,h2,T.iR.cl,T.jt,rfl,one,λp hp=>k.no B hd (by rw[iK,qJ e1]) (s2.trans (c_.new hp)) e_⟩
  | ok v=>
   rw[e1]at h2
   have kW:=rS B.ok e1
   obtain⟨dx,pq,pw,x,h2,h3,h4,h5⟩:=h2
   refine(a_ rfl (hX rfl h2 T.iR.cl T.jt rfl (h9 rfl rfl (a_ rfl (iz ?_)))))
   refine(a_ rfl (a_ rfl (hX rfl h2 T.iR.cl T.k8 rfl ⟨bk,d,b,kvs,pw,v,rfl,B.same s2,s2 _ _ hd,h5,kW,λu H3 s3 hu=>?_⟩)))
   have jK:=s2.trans s3
   cases ro:Vaunia.shortOf (Vaunia.meanings b) v with
   | none=>
    rw[ro]at hu
    have hu:u= .ia:=hu
    subst hu
    exact⟨_,rfl,rfl,_,rfl,iu ⟨one,λp hp=>k.no B hd (by rw[iK,oj e1];simp only[ro]) (jK.trans (c_.new hp)) e_⟩⟩
   | some fs=>
    rw[ro]at hu
    obtain⟨q,rfl,hq⟩:=hu
    obtain⟨f1,f2⟩:=aa7 ro
    have nY:∀f∈fs,nP f:=λf hf=>by
     have:=uM (Gu B.ok (f2 f hf).1)
     have hp:∀z∈Vaunia.POWERS,z.natAbs<=3:=by decide
     exact⟨this.2,this.1,cC (hp _ (f2 f hf).2) (by decide)⟩
    have qz:=L4 nY (by omega)
    refine(a_ rfl ⟨rfl,a_ rfl (iz ⟨one,λo ho=>?_⟩)⟩)
    have s4:=c_.new (o:=.lst [V.int 0]) ho
    refine(a_ rfl ⟨q,fs,rfl,hq.same s4,by omega,nY,λl2 H5 s5 A9=>?_⟩)
    refine(⟨o,l2,h9 rfl rfl ⟨s5 _ _ e_,A9,?_,λr jR=>?_⟩⟩)
    ·rw[i_];show 1+_<=sizeLine;exact aI (iV (by omega))
    ·refine k.ask B hd rfl (ans:=0::VauniaNeutral.ofText (Vaunia.shownFactors fs)) (by rw[iK,oj e1];simp only[ro];rfl) (((jK.trans s4).trans s5).trans (c_.new jR)) ?_ ?_
     ·rw[e_,xJ]
     ·rw[ai,sZ];omega
noncomputable def YW(K:Fg)(a:hC):Sp:=λvs H R _=>∃bk d b kvs l t m ms,vs=[.ref bk,.ref l,.ref m]/\iB a H bk d b kvs/\H d=some (.dT kvs)/\f_ K H l (bv t)/\xT H m ms/\kP a H R bk d b (.split t ms)
theorem Xa(T:Txt K mg a)(ht:P.given.tree=none):Callee P w K mg base 42 "call_split" ["book","quantity","measures"] (YW K a):=by
 refine T.OB.ok KZ (λvs H Q E h=>?_) (λf h8 A outer s H vs Q E hr h=>?_)
 ·obtain⟨_,_,_,_,_,_,_,_,rfl,_⟩:=h
  rfl
 ·obtain⟨bk,d,b,kvs,l,t,m,ms,rfl,B,hd,hl,Fm,k⟩:=h
  have nd:=KZ.nd
  refine⟨_,gZ (iw (mD (iq je (i7 ka (by rfl) T.jO aV (b_ (pv 2) d_)) ij (ig _)) (mE (iq ly (i7 ka (by rfl) T.jO aV (b_ (pv 2) d_)) (iD T.Rw) (ig _)))).pt (g9 (hJ (iL (b_ (iD T.A7) d_)))) iy)
   (gZ (ic (i:=3) nd rfl (Or.inl rfl) (hU (oT T ht) (hr.mono (by decide)) (b_ (pv 0) (b_ (pv 1) (b_ l6 d_)))))
   (gZ (iw (iq kN (hG (pv 3) rfl) ij (ig _)) (g9 (hJ (iL (b_ (hG (pv 3) rfl) d_)))) iy)
   (gZ (ic (i:=4) nd rfl (Or.inl rfl) (hU (Xx T ht) hr (b_ (pv 0) (b_ (pv 2) (b_ (hG (pv 3) rfl) d_)))))
   (gZ (iw (iq kN (hG (pv 4) rfl) ij (ig _)) (g9 (hJ (iL (b_ (hG (pv 4) rfl) d_)))) iy)
   (g9 (hJ (iH kS (iL (b_ (i7 ka (by rfl) T.jO aV (b_ (pv 2) d_)) d_)) (hU (XE T) (hr.mono (by decide)) (b_ (hG (hG (pv 3) rfl) rfl) (b_ (hG (pv 4) rfl) d_)))))))))),?_⟩
  dsimp only[il]
  have one:1<=sizeLine:=by decide
  have iK:Vaunia.step ⟨b⟩ (.split t ms)=(⟨b⟩,Vaunia.doSplit b t ms):=rfl
  have acO:=Fm
  obtain⟨ps,hm,zm⟩:=Fm
  have pB:=zm.1
  dsimp only[pW,pU]
  refine vb (b1:=ms.isEmpty) (b2:=decide (10<ms.length)) (λR hR=>(a_ rfl ⟨m,a_ rfl ⟨.inl (f_.of hm),rfl,a_ rfl ?_⟩⟩)) (λR hR=>(a_ rfl ⟨m,a_ rfl ⟨.inl (f_.of hm),h9 rfl rfl (a_ rfl ?_)⟩⟩)) ?_
  ·rw[ab,pB]
   have e:decide (V.int ((ms.length:Nat):Int)=V.int 0)=ms.isEmpty:=by
    rw[aH,ak,V.int.injEq,List.isEmpty_iff_length_eq_zero];omega
   rw[e];exact hR
  ·rw[ab,pB]
   have e:decide ((10:Int)<((ms.length:Nat):Int))=decide (10<ms.length):=by
    rw[aH,ak,ak];omega
   rw[e];exact hR
  refine iU (λc=>?_) (λc=>?_)
  ·have e:Vaunia.doSplit b t ms= .refused (-13):=by unfold Vaunia.doSplit;rw[aE c]
   exact⟨one,λp hp=>k.no B hd (by rw[iK,e]) (c_.new hp) e_⟩
  ·have e:Vaunia.doSplit b t ms=Vaunia.withWorth b false t λw=>match Vaunia.ratiosOf b w none ms with
    | .error e=>.refused e
    | .ok rs=>.parts (Vaunia.splitBy w.ratio rs).1 (Vaunia.splitBy w.ratio rs).2:=by
    unfold Vaunia.doSplit
    rw[aq c]
    congr 1
   rw[e]at iK
   have c2:ms≠[]/\ms.length<=10:=by
    have c:¬(ms.isEmpty||decide (10<ms.length))=true:=c
    simp at c
    exact⟨c.1,by omega⟩
   refine(a_ rfl (a_ rfl ⟨bk,d,b,kvs,l,t,false,rfl,B,hl,λp2 H2 s2 h2=>?_⟩))
   cases e1:Vaunia.reading b false t with
   | error er=>
    rw[e1]at h2
    obtain⟨dx,h2⟩:=h2
    have jP:=mY e1
    refine(a_ rfl (hX rfl h2 T.iR.cl T.jt rfl (h9 rfl rfl (a_ rfl ?_))))
    rw[ah jP]
    exact iu ⟨_,rfl,p2,_,dx,_,_,rfl,h2,T.iR.cl,T.jt,rfl,one,λp hp=>k.no B hd (by rw[iK,qJ e1]) (s2.trans (c_.new hp)) e_⟩
   | ok v=>
    rw[e1]at h2
    have kW:=rS B.ok e1
    obtain⟨dx,pq,pw,x,h2,h3,h4,h5⟩:=h2
    rw[oj e1]at iK
    obtain⟨r1,r2⟩:=Iu B.ok v ms none
    have tm:xT H2 m ms:=⟨ps,s2 _ _ hm,zm.mono λx y r=>s2 _ _ r⟩
    refine(a_ rfl (hX rfl h2 T.iR.cl T.jt rfl (h9 rfl rfl (a_ rfl (iz ?_)))))
    refine(a_ rfl (a_ rfl (a_ rfl (hX rfl h2 T.iR.cl T.k8 rfl ⟨bk,d,b,kvs,m,ms,pw,v,rfl,B.same s2,tm,c2.2,h5,λp3 H3 s3 mP=>?_⟩))))
    have jK:=s2.trans s3
    cases jV:Vaunia.ratiosOf b v none ms with
    | error er=>
     rw[jV]at mP iK
     have jP:=r1 _ jV
     obtain⟨d3,mP⟩:=mP
     refine(a_ rfl (hX rfl mP T.sS.cl T.zr rfl (h9 rfl rfl (a_ rfl ?_))))
     rw[ah jP]
     exact iu ⟨_,rfl,p3,_,d3,_,_,rfl,mP,T.sS.cl,T.zr,rfl,one,λp hp=>k.no B hd iK (jK.trans (c_.new hp)) e_⟩
    | ok rs=>
     rw[jV]at mP iK
     obtain⟨q1,q2⟩:=r2 _ jV
     obtain⟨d3,VE,mP,hex⟩:=mP
     have FI:rs≠[]:=λz=>by rw[z,bQ]at q1;exact c2.1 (f9 q1.symm)
     have qz:=split_len v.ratio rs FI
     refine(a_ rfl (hX rfl mP T.sS.cl T.zr rfl (h9 rfl rfl (a_ rfl (iz ?_)))))
     refine(a_ rfl ⟨m,a_ rfl ⟨.inl (f_.of (jK _ _ hm)),one,λo ho=>?_⟩⟩)
     rw[ab,pB]
     have s4:=c_.new (o:=.lst [V.int (ms.length:Nat)]) ho
     have nL:=s3.trans s4
     obtain⟨dw,lr,lp,w1,w2,w3⟩:=h5
     refine(a_ rfl (hX rfl (nL _ _ h2) T.iR.cl T.k8 rfl (hX rfl (nL _ _ w1) T.jo.cl T.kM rfl (a_ rfl (hX rfl (s4 _ _ mP) T.sS.cl T.GN rfl ⟨lr,VE,v.ratio,rs,rfl,w2.same nL,hex.same s4,kW.pos,kW.near,FI,by omega,q2,λq H5 s5 A9=>?_⟩)))))
     refine(⟨o,q,h9 rfl rfl ⟨s5 _ _ e_,A9,?_,λr jR=>?_⟩⟩)
     ·rw[ab,aj]
      show 1+((Vaunia.splitBy v.ratio rs).1.length+2)<=sizeLine
      exact aI (iV (by omega))
     ·refine k.ask B hd rfl (ans:=((ms.length:Nat):Int)::((Vaunia.splitBy v.ratio rs).1++[(Vaunia.splitBy v.ratio rs).2.num,((Vaunia.splitBy v.ratio rs).2.den:Int)])) ?_ (((jK.trans s4).trans s5).trans (c_.new jR)) ?_ ?_
      ·rw[iK]
       show(((Vaunia.splitBy v.ratio rs).1.length:Int)+1)::_=_
       rw[show(((Vaunia.splitBy v.ratio rs).1.length:Int)+1)=((ms.length:Nat):Int) by omega]
      ·rw[e_];rfl
      ·rw[ai,aj]
       show(Vaunia.splitBy v.ratio rs).1.length+2+1<=20000
       omega
noncomputable def YN(K:Fg)(a:hC):Sp:=λvs H R _=>∃bk d b kvs l t,vs=[.ref bk,.ref l]/\iB a H bk d b kvs/\H d=some (.dT kvs)/\f_ K H l (bv t)/\kP a H R bk d b (.fault t)
theorem W3(T:Txt K mg a)(ht:P.given.tree=none):Callee P w K mg base 41 "call_fault" ["book","quantity"] (YN K a):=by
 refine T.Ot.ok aaG (λvs H Q E h=>?_) (λf h8 A outer s H vs Q E hr h=>?_)
 ·obtain⟨_,_,_,_,_,_,rfl,_⟩:=h
  rfl
 ·obtain⟨bk,d,b,kvs,l,t,rfl,B,hd,hl,k⟩:=h
  refine⟨_,g9 (hJ (hU (Xj T ht) hr (b_ (pv 0) (b_ (pv 1) d_)))),?_⟩
  dsimp only[il]
  exact(a_ rfl (a_ rfl ⟨bk,d,b,kvs,l,t,rfl,B,hl,λp U s' h'=>k.ask B hd rfl (ans:=[((Vaunia.faultOf b t).1:Nat),((Vaunia.faultOf b t).2:Nat)]) rfl s' h' (by show 2<=20000;decide)⟩))
end
theorem MV{α β:Type}{R:α->β->Prop}:∀{xs:List α} {ys:List β},tR R xs ys->∀{i:Nat} {y:β},ys[i]? =some y->∃x,xs[i]? =some x/\R x y
 | _,_,.nil,i,y,h=>by simp at h
 | _,_,.cons r t,i,y,h=>by
  cases i with
  | zero=>
   have e:=ae h
   exact⟨_,rfl,e▸r⟩
  | succ i=>
   obtain⟨x,h1,h2⟩:=MV t (i:=i) (by simpa using h)
   exact⟨x,by simpa using h1,h2⟩
section
variable{P:Program}{w:World}{K:Fg}{mg:Str->Option Value}{base:Heap}{a:hC}
noncomputable def YM(a:hC):Sp:=λvs H R _=>∃bk d b kvs z,vs=[.ref bk,.int z]/\iB a H bk d b kvs/\H d=some (.dT kvs)/\kP a H R bk d b (.entry z)
theorem W2(T:Txt K mg a):Callee P w K mg base 6 "call_entry" ["book","i"] (YM a):=by
 refine T.Oq.ok KO (λvs H Q E h=>?_) (λf h8 A outer s H vs Q E hr h=>?_)
 ·obtain⟨_,_,_,_,_,rfl,_⟩:=h
  rfl
 ·obtain⟨bk,d,b,kvs,z,rfl,B,hd,k⟩:=h
  have nd:=KO.nd
  refine⟨_,gZ (iw (mD (iq kN (pv 1) ij (ig _)) (mE (iq pN (pv 1) (i7 DX (by rfl) T.jO aV (b_ (hG (pv 0) rfl) d_)) (ig _)))).pt (g9 (hJ (iL (b_ (iD T.EG) d_)))) iy)
   (gZ (ic (i:=2) nd rfl (Or.inl rfl) (mW pE (l7 (NV rfl) (by rfl) T.tT (by decide +kernel) (b_ (hG (pv 0) rfl) d_)) (pv 1) (λ_ _=>rfl)))
   (gZ (ic (i:=3) nd rfl (Or.inl rfl) (uU (mn hr) (hG (pv 0) rfl) (pv 2) (λ_ _=>rfl)))
   (g9 (hJ (mB (ju (hG (pv 3) rfl) (λ_=>rfl)) (iH kS (iL (b_ ij d_)) (l7 vT (by rfl) T.tT (by decide +kernel) (b_ (pv 2) d_))) (iH kS (iL (b_ ij d_)) (hU (XS T) hr (b_ (pv 2) (b_ (pv 3) d_))))))))),?_⟩
  dsimp only[il]
  have one:1<=sizeLine:=by decide
  have iK:Vaunia.step ⟨b⟩ (.entry z)=(⟨b⟩,Vaunia.doEntry b z):=rfl
  obtain⟨dx,ho⟩:=B.obj
  have wu:=B.len
  dsimp only[pW,pU]
  refine vb (b1:=decide (z<0)) (b2:=decide ((b.length:Int)<=z)) (λR hR=>(a_ rfl (h9 rfl rfl (a_ rfl hR)))) (λR hR=>(a_ rfl (a_ rfl (hX rfl ho T.j0.cl T.ki rfl ⟨d,kvs,rfl,B.lI,h9 rfl rfl (a_ rfl ?_)⟩)))) ?_
  ·rw[wu];exact hR
  refine iU (λc=>?_) (λc=>?_)
  ·have c:z<0\/(b.length:Int)<=z:=by simpa using c
   have e:Vaunia.doEntry b z= .refused (-8):=by
    unfold Vaunia.doEntry
    by_cases c0:z<0
    ·rw[aE c0]
    ·rw[aq c0,List.getElem?_eq_none (by omega)]
   exact⟨one,λp hp=>k.no B hd (by rw[iK,e]) (c_.new hp) e_⟩
  ·have c:¬(z<0\/(b.length:Int)<=z):=by simpa using c
   obtain⟨i,rfl⟩:∃i:Nat,z=(i:Int):=⟨z.toNat,by omega⟩
   have hi:i<kvs.length:=by omega
   obtain⟨⟨kk,vv⟩,jr⟩:∃kv,kvs[i]? =some kv:=⟨_,ay hi⟩
   obtain⟨⟨e,fw⟩,hx,ek,pe,ev,nq⟩:=B.all.right jr
   obtain⟨b1,b2⟩:=t_ B.ok.wf hx
   simp only at ek ev nq b1 b2
   subst ek ev
   have yI:=aG b1
   have kC:=B.ok.nm e yI
   have R3:=uM kC
   have SD:Vaunia.doEntry b (i:Int)= .entry (if e.isBase then 0 else 1) (Vaunia.entryText e):=by
    unfold Vaunia.doEntry
    rw[aq (by omega),b9,b1]
   rw[SD]at iK
   have Bk:e.name∈b.map (·.name):=aQ.mpr ⟨e,yI,rfl⟩
   refine(a_ rfl (hX rfl ho T.j0.cl T.ki rfl ⟨d,kvs,rfl,B.lI,λl ps hl zz=>?_⟩))
   obtain⟨q,hq,kR⟩:=MV zz jr
   simp only at kR
   rw[kd]at kR
   have s1:=c_.new (o:=.lst (ps.map V.ref)) hl
   refine(a_ rfl ⟨l,_,_,.ref q,rfl,rfl,f_.of e_,at_of (j:=i) rfl (by rw[bN,hq];rfl),?_⟩)
   have B1:=B.same s1
   have hv:jD kvs (nk e.name)=some (.ref pe):=by
    obtain⟨pe',e',yy,oP,_⟩:=B.get Bk
    obtain⟨j,p2,e2,w2,r1,r2,r3,r4,r5,_⟩:=B.there oP
    have:j=i:=by
     have V_:=B.ok.wf.nodup
     have g1:(b.map (·.name))[j]? =some e.name:=by rw[bN,r3];exact cB some r4
     have g2:(b.map (·.name))[i]? =some e.name:=by rw[bN,b1];rfl
     exact Wa V_ g1 g2
    subst this
    rw[jr]at r2
    have e3:=ae r2
    rw[oP,r1]
    simp only[Prod.mk.injEq]at e3
    rw[e3.2]
   refine(a_ rfl (hX rfl (s1 _ _ ho) T.j0.cl T.ki rfl (a_ rfl ⟨d,.ref pe,rfl,?_,?_⟩)))
   ·rw[<-hv]
    exact j8.tr (k:=nk e.name) B1.lI (by rw[kd];exact s1 _ _ kR)
   obtain⟨lK,nv,lf,lr,pd,pk,g1,g2,g3,g4⟩:=nq.same s1
   refine⟨_,rfl,pe,_,lK,_,_,rfl,g1,T.lO.cl,T.zo,rfl,_,rfl,?_⟩
   have IB:=s1 _ _ kR
   refine iU (λcb=>?_) (λcb=>?_)
   ·have cb:e.isBase=true:=cb
    refine⟨one,λo Bs=>?_⟩
    have s2:=c_.new (o:=.lst [V.int 0]) Bs
    refine(a_ rfl ⟨q,a_ rfl ⟨.inr (iO.of (s2 _ _ IB)),λl2 jd=>?_⟩⟩)
    have s3:=c_.new (o:=.lst (bv e.name)) jd
    have et:Vaunia.entryText e=e.name:=by unfold Vaunia.entryText;rw[aE cb]
    refine(⟨o,l2,h9 rfl rfl ⟨s3 _ _ e_,e_,?_,λr jR=>?_⟩⟩)
    ·rw[i_];show 1+_<=sizeLine;exact aI (iV (by omega))
    ·refine k.ask B hd rfl (ans:=0::VauniaNeutral.ofText e.name) (by rw[iK,et,aE cb];rfl) (((s1.trans s2).trans s3).trans (c_.new jR)) ?_ ?_
     ·rw[e_,xJ]
     ·rw[ai,sZ];omega
   ·have cb:e.isBase=false:=bj.mpr cb
    refine⟨one,λo Bs=>?_⟩
    have s2:=c_.new (o:=.lst [V.int 1]) Bs
    obtain⟨ln,rfl,um⟩:=g2 cb
    obtain⟨acQ,Bp⟩:=B.ok.num e yI cb
    have qF:=GV Bp
    obtain⟨f20,El⟩:=B.ok.fs e yI
    have nY:∀f∈e.factors,nP f:=λf hf=>by
     have h1:=uM (El f hf).1
     exact⟨h1.2,h1.1,cC (El f hf).2 (by decide)⟩
    have et:Vaunia.entryText e=e.name++61::Vaunia.shownQuantity e.number e.factors:=by unfold Vaunia.entryText;rw[cb];rfl
    have qz:=L5 qF.1 qF.2 nY (by omega)
    have hlen:(e.name++61::Vaunia.shownQuantity e.number e.factors).length<=10600:=by rw[aj,ai];omega
    refine(a_ rfl (a_ rfl ⟨q,e.name,pe,lK,ln,lf,_,_,_,e.number,e.factors,rfl,s2 _ _ IB,by omega,s2 _ _ g1,um.same s2,qF.1,qF.2,g3.same s2,by omega,nY,λl2 H3 s3 h3=>?_⟩))
    refine(⟨o,l2,h9 rfl rfl ⟨s3 _ _ e_,h3,?_,λr jR=>?_⟩⟩)
    ·rw[i_];show 1+_<=sizeLine;exact aI (iV (by omega))
    ·refine k.ask B hd rfl (ans:=1::VauniaNeutral.ofText (Vaunia.entryText e)) (by rw[iK,cb];rfl) (((s1.trans s2).trans s3).trans (c_.new jR)) ?_ ?_
     ·rw[e_,et,aO,Az];rfl
     ·rw[ai,sZ,et];omega
end
noncomputable def iZ(a:hC)(dx l:Addr)(i:Nat):HO:=.ins a.me dx [("numbers",.ref l),("place",.int (i:Nat))]
theorem DA{a:hC}{dx l C dy:Addr}{i:Nat}{f:Str}{v:V}{r:List (Str×V)}(h:(∀q,v≠.ref q)\/r.length≠1):(HO.ins C dy ((f,v)::r))≠iZ a dx l i:=by
 intro z
 unfold iZ at z
 injection z with _ _ z
 injection z with z1 z2
 rcases h with h | h
 ·injection z1 with _ z1
  exact h _ z1
 ·rw[z2]at h
  exact h rfl
theorem f_.upd{K:Fg}{H:Hp}{a:hC}{t dx l m:Addr}{i:Nat}{xs:List V}{o:HO}(h:f_ K H m xs)(ht:H t=some (iZ a dx l i)):f_ K (upd H t o) m xs:=by
 rcases h with(h | ⟨ob,h⟩) | h
 ·exact .inl (.inl (by rw[ip (iC h ht (by intro z;cases z))];exact h))
 ·exact .inl (.inr ⟨ob,by rw[ip (iC h ht (by intro z;cases z))];exact h⟩)
 ·exact .inr h
theorem UQ{ns:List Int}{i:Nat}{z:Int}(h:ns[i]? =some z):(ns.map V.int)[i]? =some (.int z):=by rw[bN,h];rfl
section
variable{P:Program}{w:World}{K:Fg}{mg:Str->Option Value}{base:Heap}{a:hC}
noncomputable def qE(us:List V):List (Str×V):=[("numbers",us.getD 0 .ia),("place",.int 0)]
theorem GG(T:Txt K mg a):Maker P w K mg base "Tape" a.me 1 qE:=by
 refine T.nz.maker aaz rfl λf h8 A outer s H p us dx Q E hr hl hp q=>?_
 match us,hl with
 | [u],_=>
  refine⟨_,gZ (jH (pv 0) (pv 1) rfl) (g9 (jH (pv 0) ij rfl)),?_⟩
  dsimp only[il]
  refine(a_ rfl (a_ rfl ⟨p,_,dx,a_ rfl ⟨hp,T.nz.cl,T.zt,(by show 0<1000;decide),?_⟩⟩))
  refine(a_ rfl ⟨p,_,dx,a_ rfl ⟨e_,T.nz.cl,T.rD,(by show 1<1000;decide),?_⟩⟩)
  rw[kn]
  exact q
noncomputable def Zc(K:Fg)(a:hC):Sp:=λvs H R _=>∃(t dx l:Addr) (i:Nat) (ns:List Int),vs=[.ref t]/\H t=some (iZ a dx l i)/\f_ K H l (ns.map V.int)/\R (.bl (decide (ns.length<=i))) H
theorem Hg(T:Txt K mg a):Callee P w K mg base 1 "is_at_end" ["tape"] (Zc K a):=by
 refine T.OW.ok aaM (λvs H Q E h=>?_) (λf h8 A outer s H vs Q E hr h=>?_)
 ·obtain⟨_,_,_,_,_,rfl,_⟩:=h
  rfl
 ·obtain⟨t,dx,l,i,ns,rfl,ht,hl,k⟩:=h
  refine⟨_,g9 (hJ (kF pN (hG (pv 0) rfl) (i7 ka (by rfl) T.jO aV (b_ (hG (pv 0) rfl) d_)) (ig _))),?_⟩
  dsimp only[il]
  refine(a_ rfl (hX rfl ht T.nz.cl T.rD rfl (a_ rfl (hX rfl ht T.nz.cl T.zt rfl ⟨l,a_ rfl ⟨.inl hl,h9 rfl rfl ?_⟩⟩))))
  have e:decide ((((ns.map V.int).length:Nat):Int)<=((i:Nat):Int))=decide (ns.length<=i):=by
   rw[ab,aH,ak,ak];omega
  rw[<-e]at k;exact k
noncomputable def ZU(K:Fg)(a:hC):Sp:=λvs H R _=>∃(t dx l:Addr) (i:Nat) (ns:List Int) (z:Int),vs=[.ref t]/\H t=some (iZ a dx l i)/\f_ K H l (ns.map V.int)/\ns[i]? =some z/\R (.int z) (upd H t (iZ a dx l (i+1)))
theorem xo(T:Txt K mg a):Callee P w K mg base 1 "take_number" ["tape"] (ZU K a):=by
 refine T.PZ.ok LJ (λvs H Q E h=>?_) (λf h8 A outer s H vs Q E hr h=>?_)
 ·obtain⟨_,_,_,_,_,_,rfl,_⟩:=h
  rfl
 ·obtain⟨t,dx,l,i,ns,z,rfl,ht,hl,hz,k⟩:=h
  have nd:=LJ.nd
  refine⟨_,gZ (ic (i:=1) nd rfl (Or.inl rfl) (mW pE (hG (pv 0) rfl) (hG (pv 0) rfl) (λ_ _=>rfl)))
   (gZ (jH (pv 0) (iH mV (hG (pv 0) rfl) ij) rfl) (g9 (hJ (pv 1)))),?_⟩
  dsimp only[il]
  refine⟨_,rfl,t,_,dx,_,_,rfl,ht,T.nz.cl,T.zt,rfl,_,rfl,t,_,dx,_,_,rfl,ht,T.nz.cl,T.rD,rfl,l,_,_,_,rfl,rfl,hl,at_of (j:=i) rfl (UQ hz),?_⟩
  refine(a_ rfl (hX rfl ht T.nz.cl T.rD rfl (h9 rfl rfl (a_ rfl ⟨t,_,dx,a_ rfl ⟨ht,T.nz.cl,T.rD,(by show 2<1000;decide),?_⟩⟩))))
  refine(a_ rfl ?_)
  have e:((i:Nat):Int)+1=((i+1:Nat):Int):=by omega
  have k2:Q (.int z) (upd H t (.ins a.me dx [("numbers",.ref l),("place",.int (((i:Nat):Int)+1))])):=by rw[e];exact k
  exact k2
noncomputable def ZV(K:Fg)(a:hC):Sp:=λvs H R _=>∃(t dx l:Addr) (i:Nat) (ns:List Int) (n:Nat),vs=[.ref t]/\H t=some (iZ a dx l i)/\f_ K H l (ns.map V.int)/\ns[i]? =some ((n:Nat):Int)/\i+1+n<=ns.length/\∀p,H p=none->R (.ref p) (upd (upd H t (iZ a dx l (i+1+n))) p (.lst (((ns.drop (i+1)).take n).map V.int)))
theorem rL(T:Txt K mg a):Callee P w K mg base 2 "take_row" ["tape"] (ZV K a):=by
 refine T.P0.ok LK (λvs H Q E h=>?_) (λf h8 A outer s H vs Q E hr h=>?_)
 ·obtain⟨_,_,_,_,_,_,rfl,_⟩:=h
  rfl
 ·obtain⟨t,dx,l,i,ns,n,rfl,ht,hl,hz,hle,k⟩:=h
  have nd:=LK.nd
  refine⟨_,gZ (ic (i:=1) nd rfl (Or.inl rfl) (hU (xo T) hr (b_ (pv 0) d_)))
   (gZ (ic (i:=2) nd rfl (Or.inl rfl) (hG (pv 0) rfl))
   (gZ (jH (pv 0) (iH mV (pv 2) (pv 1)) rfl)
   (g9 (hJ (lQ mF (hG (pv 0) rfl) (k_ (pv 2)) (k_ (hG (pv 0) rfl))))))),?_⟩
  dsimp only[il]
  refine(a_ rfl ⟨t,dx,l,i,ns,a_ rfl ⟨ht,hl,hz,?_⟩⟩)
  refine(a_ rfl (hX rfl e_ T.nz.cl T.rD rfl ?_))
  refine(a_ rfl (a_ rfl (h9 rfl rfl (a_ rfl ⟨t,_,dx,a_ rfl ⟨e_,T.nz.cl,T.rD,(by show 2<1000;decide),?_⟩⟩))))
  have e:((i+1:Nat):Int)+((n:Nat):Int)=((i+1+n:Nat):Int):=by omega
  have eH:upd (upd H t (iZ a dx l (i+1))) t (.ins a.me dx [("numbers",.ref l),("place",.int (((i+1:Nat):Int)+((n:Nat):Int)))])=upd H t (iZ a dx l (i+1+n)):=by
   rw[kn,e];rfl
  have key:∀H2,H2=upd H t (iZ a dx l (i+1+n))->MA (MC (Ip K) (lE K (jb 0) "numbers") (Dx (jb 2)) (Dx (lE K (jb 0) "place"))) {nx:=λ_ U=>Q .ia U,rt:=Q} [some (.ref t),some (.int ((n:Nat):Int)),some (.int ((i+1:Nat):Int))] H2:=by
   rintro H2 rfl
   refine(a_ rfl (hX rfl e_ T.nz.cl T.zt rfl (a_ rfl (a_ rfl (a_ rfl (hX rfl e_ T.nz.cl T.rD rfl (a_ rfl ⟨l,a_ rfl ⟨f_.upd hl ht,λp hp=>?_⟩⟩)))))))
   have ec:i5 (ns.map V.int) (some ((i+1:Nat):Int)) (some ((i+1+n:Nat):Int))=((ns.drop (i+1)).take n).map V.int:=by
    rw[D1 (by omega) (by rw[ab];omega),show i+1+n-(i+1)=n by omega,fg,d5]
   have TJ:H p=none:=by
    by_cases c:p=t
    ·rw[c,e_]at hp;cases hp
    ·rw[ip c]at hp;exact hp
   have kk:=k p TJ
   rw[<-ec]at kk
   exact kk
  exact key _ eH
end
theorem iN.oQ{a:hC}{H U:Hp}{t dx l p:Addr}{i:Nat}{q:Q}(h:iN a H p q)(ht:H t=some (iZ a dx l i))(k:Kp t H U):iN a U p q:=by
 obtain⟨d,h⟩:=h
 exact⟨d,k _ _ (iC h ht (DA (.inl λq z=>by cases z))) h⟩
theorem j9.oQ{a:hC}{H U:Hp}{t dx l p:Addr}{i:Nat}{fs:List Vaunia.Factor}(h:j9 H p fs)(ht:H t=some (iZ a dx l i))(k:Kp t H U):j9 U p fs:=by
 obtain⟨ps,h1,h2⟩:=h
 exact⟨ps,k _ _ (iC h1 ht (by intro z;cases z)) h1,h2.mono λx y ⟨n,r1,r2⟩=>⟨n,k _ _ (iC r1 ht (by intro z;cases z)) r1,k _ _ (iC r2 ht (by intro z;cases z)) r2⟩⟩
theorem lG.oQ{a:hC}{H U:Hp}{t dx l d p:Addr}{i:Nat}{e:Vaunia.Entry}{w:FW}(h:lG a d H p e w)(ht:H t=some (iZ a dx l i))(k:Kp t H U):lG a d U p e w:=by
 obtain⟨lK,nv,lf,lr,pd,pk,h1,h2,h3,h4,h5,h6,h7⟩:=h
 refine⟨lK,nv,lf,lr,pd,pk,k _ _ (iC h1 ht (DA (.inl λq z=>by cases z))) h1,λhb=>?_,h3.oQ ht k,h4.oQ ht k,h5,k _ _ (iC h6 ht (by intro z;cases z)) h6,h7⟩
 obtain⟨ln,e1,e2⟩:=h2 hb
 exact⟨ln,e1,e2.oQ ht k⟩
theorem iB.oQ{a:hC}{H U:Hp}{t dx l bk d:Addr}{i:Nat}{b:Vaunia.Book}{kvs:List (List Key×V)}(B:iB a H bk d b kvs)(ht:H t=some (iZ a dx l i))(k:Kp t H U):iB a U bk d b kvs:=by
 obtain⟨bx,ho⟩:=B.obj
 refine⟨B.ok,⟨bx,k _ _ (iC ho ht (DA (.inr (by decide)))) ho⟩,?_,B.all.mono λx y ⟨e1,p,e2,r⟩=>⟨e1,p,e2,r.oQ ht k⟩⟩
 rcases B.lI with h | ⟨o,h⟩
 ·exact .inl (k _ _ (iC h ht (by intro z;cases z)) h)
 ·exact .inr ⟨o,k _ _ (iC h ht (by intro z;cases z)) h⟩
theorem abQ{l:List Int}{t:List UInt8}(h:VauniaNeutral.text? l=some t):l=t.map bz:=by
 unfold VauniaNeutral.text? at h
 split at h
 ·rename_i c
  have e:=ae h
  rw[<-e,bu]
  unfold NeutralIO.bytes at c
  have:∀x∈l,bz (UInt8.ofNat x.toNat)=x:=λx hx=>by
   have:=cx.mp c x hx
   simp only[aZ,eN]at this
   unfold bz
   rw[UInt8.toNat_ofNat',Nat.mod_eq_of_lt (show x.toNat<2^8 by omega)]
   omega
  conv=>lhs;rw[<-List.map_id l]
  exact d6 λx hx=>(this x hx).symm
 ·cases h
theorem so{l:List Int}{t:List UInt8}(h:VauniaNeutral.text? l=some t):l.map V.int=bv t:=by rw[abQ h,qP]
theorem uZ{ns:List Int}{j:Nat}{x s:List Int}(h:PyFlat.row (ns.drop j)=some (x,s)):∃n:Nat,ns[j]? =some ((n:Nat):Int)/\j+1+n<=ns.length/\x=(ns.drop (j+1)).take n/\s=ns.drop (j+1+n):=by
 cases hd:ns.drop j with
 | nil=>rw[hd]at h;cases h
 | cons z r=>
  rw[hd]at h
  have hj:j<ns.length:=by
   rcases Nat.lt_or_ge j ns.length with c | c
   ·exact c
   ·rw[fO c]at hd;cases hd
  have e:=cI hj
  rw[hd]at e
  injection e with e1 e2
  have h:(if 0<=z/\z.toNat<=r.length then some (r.take z.toNat,r.drop z.toNat) else none)=some (x,s):=h
  split at h
  ·rename_i c
   have h:=ae h
   injection h with h1 h2
   refine⟨z.toNat,?_,?_,?_,?_⟩
   ·rw[ay hj,<-e1];congr 1;omega
   ·have:=c.2
    rw[e2,aR]at this
    omega
   ·rw[<-h1,e2]
   ·rw[<-h2,e2,List.drop_drop]
  ·cases h
theorem ym{ns:List Int}{j:Nat}{z:Int}{r:List Int}(h:ns.drop j=z::r):ns[j]? =some z/\r=ns.drop (j+1)/\j<ns.length:=by
 have hj:j<ns.length:=by
  rcases Nat.lt_or_ge j ns.length with c | c
  ·exact c
  ·rw[fO c]at h;cases h
 have e:=cI hj
 rw[h]at e
 injection e with e1 e2
 exact⟨by rw[ay hj,e1],e2,hj⟩
section
variable{P:Program}{w:World}{K:Fg}{mg:Str->Option Value}{base:Heap}{a:hC}
noncomputable def ZW(K:Fg)(a:hC):Sp:=λvs H R _=>∃(t dx l:Addr) (i:Nat) (ns:List Int) (n:Nat) (f:Nat) (ts:List (List UInt8)),vs=[.ref t]/\H t=some (iZ a dx l i)/\f_ K H l (ns.map V.int)/\ns[i]? =some ((n:Nat):Int)/\i+1+n<=ns.length/\ns.length<sizeLine/\VauniaNeutral.texts? f ((ns.drop (i+1)).take n)=some ts/\
 ∀p U,Kp t H U->U t=some (iZ a dx l (i+1+n))->xT U p ts->R (.ref p) U
theorem XT(T:Txt K mg a):Callee P w K mg base 3 "take_texts" ["tape"] (ZW K a):=by
 refine T.P1.ok LL (λvs H Q E h=>?_) (λf h8 A outer s H vs Q E hr h=>?_)
 ·obtain⟨_,_,_,_,_,_,_,_,rfl,_⟩:=h
  rfl
 ·obtain⟨t,dx,l,i,ns,n,fu,ts,rfl,ht,hl,hz,hle,hsz,FR,k⟩:=h
  have nd:=LL.nd
  refine⟨_,gZ (ic (i:=1) nd rfl (Or.inl rfl) (jk (GG T) hr (b_ (hU (rL T) hr (b_ (pv 0) d_)) d_)))
   (gZ (ic (i:=2) nd rfl (Or.inl rfl) (iL d_))
   (gZ (uY aX (lD (ju (hU (Hg T) (hr.mono (by decide)) (b_ (pv 1) d_)) (λ_=>rfl)))
    (g9 (lR (lP aT bV bW rC (pv 2) (b_ (hU (rL T) hr (b_ (pv 1) d_)) d_)))))
   (g9 (hJ (pv 2))))),?_⟩
  dsimp only[il]
  have oO:((ns.drop (i+1)).take n).length=n:=by rw[aB,aR];omega
  generalize T4:(ns.drop (i+1)).take n=row at FR oO
  refine(a_ rfl ⟨t,dx,l,i,ns,n,rfl,ht,hl,hz,hle,λpr oN=>⟨rfl,λx dy hx iY iJ=>?_⟩⟩)
  rw[T4]at hx iY ⊢
  have k1:Kp t H (upd H t (iZ a dx l (i+1+n))):=Kp.upd
  have Ws:pr≠t:=λz=>by rw[z,ht]at oN;cases oN
  have s1:c_ (upd H t (iZ a dx l (i+1+n))) (upd (upd H t (iZ a dx l (i+1+n))) pr (.lst (row.map V.int))):=c_.new (by rw[ip Ws];exact oN)
  have s2:=c_.jc (o:=.ins a.me dy (qE [.ref pr])) (o':=.own x) hx iY
  have iI:=s1.trans s2
  have uA:upd (upd (upd (upd H t (iZ a dx l (i+1+n))) pr (.lst (row.map V.int))) dy (.own x)) x (.ins a.me dy (qE [.ref pr])) x=some (iZ a dy pr 0):=by rw[e_];rfl
  have Bx:upd (upd (upd (upd H t (iZ a dx l (i+1+n))) pr (.lst (row.map V.int))) dy (.own x)) x (.ins a.me dy (qE [.ref pr])) pr=some (.lst (row.map V.int)):=s2 _ _ e_
  have sP:upd (upd (upd (upd H t (iZ a dx l (i+1+n))) pr (.lst (row.map V.int))) dy (.own x)) x (.ins a.me dy (qE [.ref pr])) t=some (iZ a dx l (i+1+n)):=iI _ _ e_
  have wL:H x=none:=by
   have:upd H t (iZ a dx l (i+1+n)) x=none:=s1.free hx
   by_cases c:x=t
   ·rw[c,e_]at this;cases this
   ·rw[ip c]at this;exact this
  generalize upd (upd (upd (upd H t (iZ a dx l (i+1+n))) pr (.lst (row.map V.int))) dy (.own x)) x (.ins a.me dy (qE [.ref pr]))=H2 at iI uA Bx sP
  have UY:Kp t H H2:=k1.trans iI.kp
  refine⟨aU _,λtl sQ=>?_⟩
  have s3:=c_.new (o:=.lst []) sQ
  have Uc:H tl=none:=by
   have:=iI.free sQ
   by_cases c:tl=t
   ·rw[c,e_]at this;cases this
   ·rw[ip c]at this;exact this
  have WJ:x≠t:=λz=>by rw[z,ht]at wL;cases wL
  refine⟨λm σ H3=>∃(j:Nat) (ps:List Addr) (done left:List (List UInt8)) (g:Nat),σ=[some (.ref t),some (.ref x),some (.ref tl)]/\Kp t H H3/\H3 t=some (iZ a dx l (i+1+n))/\H3 x=some (iZ a dy pr j)/\H3 pr=some (.lst (row.map V.int))/\H3 tl=some (.lst (ps.map V.ref))/\(∀p∈ps,p≠tl)/\Zip (λp t=>H3 p=some (.lst (bv t))) ps done/\VauniaNeutral.texts? g (row.drop j)=some left/\ts=done++left/\j<=row.length/\ps.length<=j/\m=row.length-j,
   ⟨_,0,[],[],ts,fu,rfl,UY.trans s3.kp,s3 _ _ sP,s3 _ _ uA,s3 _ _ Bx,e_,(λp hp=>by cases hp),Zip.nil,FR,rfl,aU _,ax _,rfl⟩,?_⟩
  rintro m σ H3 ⟨j,ps,done,left,g,rfl,k3,BM,uB,wC,wH,rh,jI,mS,AO,yO,hpj,rfl⟩
  refine⟨_,rfl,x,dy,pr,j,row,rfl,uB,f_.of wC,_,rfl,?_⟩
  by_cases c:row.length<=j
  ·rw[ah c]
   have ej:j=row.length:=by omega
   rw[ej,b0]at mS
   have el:left=[]:=by
    cases g<;>exact(ae mS).symm
   rw[el,cv]at AO
   refine iz (a_ rfl (k tl _ k3 BM ⟨ps,wH,by rw[AO];exact jI⟩))
  ·rw[az c]
   have SX:j<row.length:=by omega
   obtain⟨z,y6⟩:∃z,row[j]? =some z:=⟨_,ay SX⟩
   rw[o9 y6]at mS
   cases g with
   | zero=>cases mS
   | succ g=>
    have mS:(if z<0\/(row.drop (j+1)).length<z.toNat then none else match VauniaNeutral.text? ((row.drop (j+1)).take z.toNat),VauniaNeutral.texts? g ((row.drop (j+1)).drop z.toNat) with
     | some t,some l=>some (t::l)
     | _,_=>none)=some left:=mS
    split at mS
    ·cases mS
    ·rename_i cz
     have cz:0<=z/\z.toNat<=(row.drop (j+1)).length:=by omega
     have cl:=cz.2
     rw[aR]at cl
     cases h1:VauniaNeutral.text? ((row.drop (j+1)).take z.toNat) with
     | none=>rw[h1]at mS;cases mS
     | some t1=>
      cases h2:VauniaNeutral.texts? g ((row.drop (j+1)).drop z.toNat) with
      | none=>rw[h1,h2]at mS;cases mS
      | some l1=>
       rw[h1,h2]at mS
       have el:t1::l1=left:=ae mS
       refine iu ⟨_,λik U n=>n,?_⟩
       refine(a_ rfl ⟨.inl ⟨rfl,_,f_.of wH⟩,a_ rfl ⟨x,dy,pr,j,row,z.toNat,rfl,uB,f_.of wC,by rw[y6];congr 1;omega,by omega,λq hq=>?_⟩⟩)
       have Wu:q≠x:=λe=>by rw[e,uB]at hq;cases hq
       have Cv:q≠tl:=λe=>by rw[e,wH]at hq;cases hq
       have G8:tl≠x:=iC wH uB (by intro z;cases z)
       have Wr:pr≠x:=iC wC uB (by intro z;cases z)
       have acX:pr≠q:=λe=>by rw[<-e,wC]at hq;cases hq
       have Wq:pr≠tl:=λe=>by rw[<-e,Bx]at sQ;cases sQ
       have ntq:t≠q:=λe=>by rw[<-e,BM]at hq;cases hq
       have Wv:t≠tl:=λe=>by rw[<-e,sP]at sQ;cases sQ
       have Ud:upd (upd H3 x (iZ a dy pr (j+1+z.toNat))) q (.lst (((row.drop (j+1)).take z.toNat).map V.int)) tl=some (.lst (ps.map V.ref)):=by rw[ip (cJ Cv),ip G8];exact wH
       refine(⟨tl,h9 rfl rfl ⟨Ud,by rw[ab];omega,?_⟩⟩)
       have get:∀{b:Addr} {o:HO},b≠x->b≠tl->H3 b=some o->upd (upd (upd H3 x (iZ a dy pr (j+1+z.toNat))) q (.lst (((row.drop (j+1)).take z.toNat).map V.int))) tl (.lst (ps.map V.ref++[V.ref q])) b=some o:=λ{b o} n1 n2 h=>by
        rw[ip n2,ip (jB h hq),ip n1];exact h
       refine⟨row.length-(j+1+z.toNat),by omega,j+1+z.toNat,ps++[q],done++[t1],l1,g,rfl,?_,get (cJ WJ) Wv BM,?_,get Wr Wq wC,?_,?_,?_,?_,?_,by omega,by rw[aj,aA];omega,rfl⟩
       ·intro b o hb h
        exact get (jB h wL) (jB h Uc) (k3 _ _ hb h)
       ·rw[ip (cJ G8),ip (cJ Wu),e_]
       ·rw[e_,au];rfl
       ·intro p hp
        rcases bg.mp hp with hp | hp
        ·exact rh p hp
        ·rw[bA.mp hp];exact Cv
       ·have z2:Zip (λp t=>(p≠tl/\H3 p=some (.lst (bv t)))) ps done:=⟨jI.1,λi2 x2 y2 e1 e2=>⟨rh _ (aG e1),jI.2 i2 x2 y2 e1 e2⟩⟩
        refine(z2.mono λp t r=>get (iC r.2 uB (by intro z;cases z)) r.1 r.2).snoc ?_
        show upd _ tl _ q=_
        rw[ip Cv,e_,so h1]
       ·rw[<-h2,List.drop_drop]
       ·rw[AO,<-el,bR];rfl
end
noncomputable def textCall(p:Int)(t:List UInt8):Option Vaunia.Call:=if p=0 then some (.base t) else if p=2 then some (.forget t) else if p=3 then some (.read t) else if p=4 then some (.tell t) else if p=8 then some (.named t) else if p=9 then some (.kin t) else if p=10 then some (.short t) else if p=12 then some (.fault t) else none
section
variable{P:Program}{w:World}{K:Fg}{mg:Str->Option Value}{base:Heap}{a:hC}
noncomputable def YF(K:Fg)(a:hC):Sp:=λvs H R _=>∃bk d b kvs p l t c,vs=[.ref bk,.int p,.ref l]/\iB a H bk d b kvs/\H d=some (.dT kvs)/\f_ K H l (bv t)/\textCall p t=some c/\kP a H R bk d b c
theorem WX(T:Txt K mg a)(ht:P.given.tree=none):Callee P w K mg base 42 "answer_to_text" ["book","call","text"] (YF K a):=by
 refine T.Oe.ok KH (λvs H Q E h=>?_) (λf h8 A outer s H vs Q E hr h=>?_)
 ·obtain⟨_,_,_,_,_,_,_,_,rfl,_⟩:=h
  rfl
 ·obtain⟨bk,d,b,kvs,p,l,t,c,rfl,B,hd,hl,hc,k⟩:=h
  have nd:=KH.nd
  refine⟨_,gZ (iw (iq je (pv 1) (iD T.Rg) (ig _)) (g9 (hJ (hU (W0 T) (hr.mono (by decide)) (b_ (pv 0) (b_ (pv 2) d_))))) iy)
   (gZ (iw (iq je (pv 1) (iD T.Rl) (ig _)) (g9 (hJ (hU (W4 T) (hr.mono (by decide)) (b_ (pv 0) (b_ (pv 2) d_))))) iy)
   (gZ (iw (iq je (pv 1) (iD T.RO) (ig _)) (g9 (hJ (hU (W8 T ht) (hr.mono (by decide)) (b_ (pv 0) (b_ (pv 2) d_))))) iy)
   (gZ (iw (iq je (pv 1) (iD T.RV) (ig _)) (g9 (hJ (hU (Xb T ht) (hr.mono (by decide)) (b_ (pv 0) (b_ (pv 2) d_))))) iy)
   (gZ (iw (iq je (pv 1) (iD T.RB) (ig _)) (g9 (hJ (hU (W6 T ht) (hr.mono (by decide)) (b_ (pv 0) (b_ (pv 2) d_))))) iy)
   (gZ (iw (iq je (pv 1) (iD T.Rn) (ig _)) (g9 (hJ (hU (W5 T ht) (hr.mono (by decide)) (b_ (pv 0) (b_ (pv 2) d_))))) iy)
   (gZ (iw (iq je (pv 1) (iD T.RQ) (ig _)) (g9 (hJ (hU (W_ T ht) (hr.mono (by decide)) (b_ (pv 0) (b_ (pv 2) d_))))) iy)
   (gZ (iw (iq je (pv 1) (iD T.Rk) (ig _)) (g9 (hJ (hU (W3 T ht) (hr.mono (by decide)) (b_ (pv 0) (b_ (pv 2) d_))))) iy)
   (g9 Yy)))))))),?_⟩
  dsimp only[il]
  unfold textCall at hc
  refine(a_ rfl ⟨rfl,a_ rfl ?_⟩)
  by_cases c0:p=0
  ·rw[aE c0]at hc
   rw[ah (by rw[c0])]
   rw[<-ae hc]at k
   exact iu (a_ rfl (a_ rfl ⟨bk,d,b,kvs,l,t,rfl,B,hd,hl,k⟩))
  rw[aq c0]at hc
  rw[az (λe=>c0 (V.int.inj e))]
  refine iz ?_
  refine(a_ rfl ⟨rfl,a_ rfl ?_⟩)
  by_cases c2:p=2
  ·rw[aE c2]at hc
   rw[ah (by rw[c2])]
   rw[<-ae hc]at k
   exact iu (a_ rfl (a_ rfl ⟨bk,d,b,kvs,l,t,rfl,B,hd,hl,k⟩))
  rw[aq c2]at hc
  rw[az (λe=>c2 (V.int.inj e))]
  refine iz ?_
  refine(a_ rfl ⟨rfl,a_ rfl ?_⟩)
  by_cases c3:p=3
  ·rw[aE c3]at hc
   rw[ah (by rw[c3])]
   rw[<-ae hc]at k
   exact iu (a_ rfl (a_ rfl ⟨bk,d,b,kvs,l,t,rfl,B,hd,hl,k⟩))
  rw[aq c3]at hc
  rw[az (λe=>c3 (V.int.inj e))]
  refine iz ?_
  refine(a_ rfl ⟨rfl,a_ rfl ?_⟩)
  by_cases c4:p=4
  ·rw[aE c4]at hc
   rw[ah (by rw[c4])]
   rw[<-ae hc]at k
   exact iu (a_ rfl (a_ rfl ⟨bk,d,b,kvs,l,t,rfl,B,hd,hl,k⟩))
  rw[aq c4]at hc
  rw[az (λe=>c4 (V.int.inj e))]
  refine iz ?_
  refine(a_ rfl ⟨rfl,a_ rfl ?_⟩)
  by_cases c8:p=8
  ·rw[aE c8]at hc
   rw[ah (by rw[c8])]
   rw[<-ae hc]at k
   exact iu (a_ rfl (a_ rfl ⟨bk,d,b,kvs,l,t,rfl,B,hd,hl,k⟩))
  rw[aq c8]at hc
  rw[az (λe=>c8 (V.int.inj e))]
  refine iz ?_
  refine(a_ rfl ⟨rfl,a_ rfl ?_⟩)
  by_cases c9:p=9
  ·rw[aE c9]at hc
   rw[ah (by rw[c9])]
   rw[<-ae hc]at k
   exact iu (a_ rfl (a_ rfl ⟨bk,d,b,kvs,l,t,rfl,B,hd,hl,k⟩))
  rw[aq c9]at hc
  rw[az (λe=>c9 (V.int.inj e))]
  refine iz ?_
  refine(a_ rfl ⟨rfl,a_ rfl ?_⟩)
  by_cases sr:p=10
  ·rw[aE sr]at hc
   rw[ah (by rw[sr])]
   rw[<-ae hc]at k
   exact iu (a_ rfl (a_ rfl ⟨bk,d,b,kvs,l,t,rfl,B,hd,hl,k⟩))
  rw[aq sr]at hc
  rw[az (λe=>sr (V.int.inj e))]
  refine iz ?_
  refine(a_ rfl ⟨rfl,a_ rfl ?_⟩)
  by_cases su:p=12
  ·rw[aE su]at hc
   rw[ah (by rw[su])]
   rw[<-ae hc]at k
   exact iu (a_ rfl (a_ rfl ⟨bk,d,b,kvs,l,t,rfl,B,hd,hl,k⟩))
  rw[aq su]at hc
  rw[az (λe=>su (V.int.inj e))]
  refine iz ?_
  cases hc
end
theorem De{r t:List Int}{xs:List (List Int)}(h:PyFlat.rows 1 r=some (xs,t)):∃x,PyFlat.row r=some (x,t)/\xs=[x]:=by
 unfold PyFlat.rows at h
 split at h
 ·cases h
 ·rename_i x s e
  have h:=ae h
  injection h with h1 h2
  exact⟨x,by rw[e,h2],h1.symm⟩
theorem Df{r t:List Int}{xs:List (List Int)}(h:PyFlat.rows 2 r=some (xs,t)):∃x r2 y,PyFlat.row r=some (x,r2)/\PyFlat.row r2=some (y,t)/\xs=[x,y]:=by
 unfold PyFlat.rows at h
 split at h
 ·cases h
 ·rename_i x s e
  split at h
  ·cases h
  ·rename_i ys u e2
   have h:=ae h
   injection h with h1 h2
   obtain⟨y,e3,e4⟩:=De e2
   exact⟨x,s,y,e,by rw[e3,h2],by rw[<-h1,e4]⟩
theorem tZ{p:Int}{r rest:List Int}{c:List (List Int)}{n m:Nat}(h:PyFlat.call PyVaunia.shape (p::r)=some (c,rest))(hs:PyVaunia.shape p=some (n,m)):n<=r.length/\∃xs,PyFlat.rows m (r.drop n)=some (xs,rest)/\c=(p::r.take n)::xs:=by
 unfold PyFlat.call at h
 dsimp only at h
 rw[hs]at h
 have h:(if r.length<n then none else match PyFlat.rows m (r.drop n) with
  | none=>none
  | some (xs,t)=>some ((p::r.take n)::xs,t))=some (c,rest):=h
 split at h
 ·cases h
 ·rename_i hn
  split at h
  ·cases h
  ·rename_i xs t e
   have h:=ae h
   injection h with h1 h2
   exact⟨by omega,xs,by rw[e,h2],h1.symm⟩
theorem rM{p:Int}{r rest:List Int}{c:List (List Int)}{k:Vaunia.Call}{f:List UInt8->Vaunia.Call}(h:PyFlat.call PyVaunia.shape (p::r)=some (c,rest))(hs:PyVaunia.shape p=some (0,1))(hw:∀x,VauniaNeutral.callOf (PyVaunia.whole [[p],x])=(VauniaNeutral.text? x).map f)
 (hk:VauniaNeutral.callOf (PyVaunia.whole c)=some k):∃x t,PyFlat.row r=some (x,rest)/\VauniaNeutral.text? x=some t/\k=f t:=by
 obtain⟨_,xs,e1,e2⟩:=tZ h hs
 obtain⟨x,e3,e4⟩:=De e1
 have e2:c=[[p],x]:=by rw[e2,e4];rfl
 rw[e2,hw]at hk
 cases ht:VauniaNeutral.text? x with
 | none=>rw[ht]at hk;cases hk
 | some t=>rw[ht]at hk;exact⟨x,t,e3,ht,(ae hk).symm⟩
theorem ML{p:Int}{r rest:List Int}{c:List (List Int)}{k:Vaunia.Call}{f:List UInt8->List UInt8->Vaunia.Call}(h:PyFlat.call PyVaunia.shape (p::r)=some (c,rest))(hs:PyVaunia.shape p=some (0,2))(hw:∀x y,VauniaNeutral.callOf (PyVaunia.whole [[p],x,y])=match VauniaNeutral.text? x,VauniaNeutral.text? y with
 | some x,some t=>some (f x t)
 | _,_=>none)
 (hk:VauniaNeutral.callOf (PyVaunia.whole c)=some k):∃x r2 y t u,PyFlat.row r=some (x,r2)/\PyFlat.row r2=some (y,rest)/\VauniaNeutral.text? x=some t/\VauniaNeutral.text? y=some u/\k=f t u:=by
 obtain⟨_,xs,e1,e2⟩:=tZ h hs
 obtain⟨x,r2,y,e3,e5,e4⟩:=Df e1
 have e2:c=[[p],x,y]:=by rw[e2,e4];rfl
 rw[e2,hw]at hk
 cases ht:VauniaNeutral.text? x with
 | none=>rw[ht]at hk;cases hk
 | some t=>
  cases hu:VauniaNeutral.text? y with
  | none=>rw[ht,hu]at hk;cases hk
  | some u=>rw[ht,hu]at hk;exact⟨x,r2,y,t,u,e3,e5,ht,hu,(ae hk).symm⟩
noncomputable def DL(p:Int)(r rest:List Int)(k:Vaunia.Call):Prop:=
 (p=13/\∃z,r=z::rest/\k= .entry z)\/
 (p=7/\∃z r1 x t,r=z::r1/\PyFlat.row r1=some (x,rest)/\VauniaNeutral.text? x=some t/\k= .root z t)\/
 (p=6/\∃z r1 x r2 y t u,r=z::r1/\PyFlat.row r1=some (x,r2)/\PyFlat.row r2=some (y,rest)/\VauniaNeutral.text? x=some t/\VauniaNeutral.text? y=some u/\k= .convert z t u)\/
 (p=1/\∃x r2 y t u,PyFlat.row r=some (x,r2)/\PyFlat.row r2=some (y,rest)/\VauniaNeutral.text? x=some t/\VauniaNeutral.text? y=some u/\k= .unit t u)\/
 (p=5/\∃x r2 y t u,PyFlat.row r=some (x,r2)/\PyFlat.row r2=some (y,rest)/\VauniaNeutral.text? x=some t/\VauniaNeutral.text? y=some u/\k= .ratio t u)\/
 (p=11/\∃x r2 y t ms,PyFlat.row r=some (x,r2)/\PyFlat.row r2=some (y,rest)/\VauniaNeutral.text? x=some t/\VauniaNeutral.texts? y.length y=some ms/\k= .split t ms)\/
 ((p≠13/\p≠7/\p≠6/\p≠1/\p≠5/\p≠11)/\∃x t,PyFlat.row r=some (x,rest)/\VauniaNeutral.text? x=some t/\textCall p t=some k)
theorem X6{p:Int}{r rest:List Int}{c:List (List Int)}{k:Vaunia.Call}(h:PyFlat.call PyVaunia.shape (p::r)=some (c,rest))(hk:VauniaNeutral.callOf (PyVaunia.whole c)=some k):DL p r rest k:=by
 have last:∀{x:List Int} {t:List UInt8},(p≠13/\p≠7/\p≠6/\p≠1/\p≠5/\p≠11)->PyFlat.row r=some (x,rest)->VauniaNeutral.text? x=some t->textCall p t=some k->DL p r rest k:=λa b c d=>.inr (.inr (.inr (.inr (.inr (.inr ⟨a,_,_,b,c,d⟩)))))
 by_cases c0:p=0
 ·subst c0
  obtain⟨x,t,e1,e2,e3⟩:=rM (f:=.base) h rfl (λ_=>rfl) hk
  exact last (by decide) e1 e2 (by rw[e3];rfl)
 by_cases c1:p=1
 ·subst c1
  exact .inr (.inr (.inr (.inl ⟨rfl,ML (f:=.unit) h rfl (λ_ _=>rfl) hk⟩)))
 by_cases c2:p=2
 ·subst c2
  obtain⟨x,t,e1,e2,e3⟩:=rM (f:=.forget) h rfl (λ_=>rfl) hk
  exact last (by decide) e1 e2 (by rw[e3];rfl)
 by_cases c3:p=3
 ·subst c3
  obtain⟨x,t,e1,e2,e3⟩:=rM (f:=.read) h rfl (λ_=>rfl) hk
  exact last (by decide) e1 e2 (by rw[e3];rfl)
 by_cases c4:p=4
 ·subst c4
  obtain⟨x,t,e1,e2,e3⟩:=rM (f:=.tell) h rfl (λ_=>rfl) hk
  exact last (by decide) e1 e2 (by rw[e3];rfl)
 by_cases c5:p=5
 ·subst c5
  exact .inr (.inr (.inr (.inr (.inl ⟨rfl,ML (f:=.ratio) h rfl (λ_ _=>rfl) hk⟩))))
 by_cases c6:p=6
 ·subst c6
  obtain⟨hl,xs,e1,e2⟩:=tZ h (n:=1) (m:=2) rfl
  cases r with
  | nil=>exact absurd hl (by decide)
  | cons z r1=>
   obtain⟨x,r2,y,e3,e5,e4⟩:=Df e1
   have e2:c=[[6,z],x,y]:=by rw[e2,e4];rfl
   rw[e2]at hk
   have hk:(match VauniaNeutral.text? x,VauniaNeutral.text? y with
    | some a,some b=>some (Vaunia.Call.convert z a b)
    | _,_=>none)=some k:=hk
   cases ht:VauniaNeutral.text? x with
   | none=>rw[ht]at hk;cases hk
   | some t=>
    cases hu:VauniaNeutral.text? y with
    | none=>rw[ht,hu]at hk;cases hk
    | some u=>
     rw[ht,hu]at hk
     exact .inr (.inr (.inl ⟨rfl,z,r1,x,r2,y,t,u,rfl,e3,e5,ht,hu,(ae hk).symm⟩))
 by_cases c7:p=7
 ·subst c7
  obtain⟨hl,xs,e1,e2⟩:=tZ h (n:=1) (m:=1) rfl
  cases r with
  | nil=>exact absurd hl (by decide)
  | cons z r1=>
   obtain⟨x,e3,e4⟩:=De e1
   have e2:c=[[7,z],x]:=by rw[e2,e4];rfl
   rw[e2]at hk
   have hk:(VauniaNeutral.text? x).map (Vaunia.Call.root z)=some k:=hk
   cases ht:VauniaNeutral.text? x with
   | none=>rw[ht]at hk;cases hk
   | some t=>
    rw[ht]at hk
    exact .inr (.inl ⟨rfl,z,r1,x,t,rfl,e3,ht,(ae hk).symm⟩)
 by_cases c8:p=8
 ·subst c8
  obtain⟨x,t,e1,e2,e3⟩:=rM (f:=.named) h rfl (λ_=>rfl) hk
  exact last (by decide) e1 e2 (by rw[e3];rfl)
 by_cases c9:p=9
 ·subst c9
  obtain⟨x,t,e1,e2,e3⟩:=rM (f:=.kin) h rfl (λ_=>rfl) hk
  exact last (by decide) e1 e2 (by rw[e3];rfl)
 by_cases sr:p=10
 ·subst sr
  obtain⟨x,t,e1,e2,e3⟩:=rM (f:=.short) h rfl (λ_=>rfl) hk
  exact last (by decide) e1 e2 (by rw[e3];rfl)
 by_cases ye:p=11
 ·subst ye
  obtain⟨hl,xs,e1,e2⟩:=tZ h (n:=0) (m:=2) rfl
  obtain⟨x,r2,y,e3,e5,e4⟩:=Df e1
  have e2:c=[[11],x,y]:=by rw[e2,e4];rfl
  rw[e2]at hk
  have hk:(match VauniaNeutral.text? x,VauniaNeutral.texts? y.length y with
   | some t,some ms=>some (Vaunia.Call.split t ms)
   | _,_=>none)=some k:=hk
  cases ht:VauniaNeutral.text? x with
  | none=>rw[ht]at hk;cases hk
  | some t=>
   cases hu:VauniaNeutral.texts? y.length y with
   | none=>rw[ht,hu]at hk;cases hk
   | some u=>
    rw[ht,hu]at hk
    exact .inr (.inr (.inr (.inr (.inr (.inl ⟨rfl,x,r2,y,t,u,e3,e5,ht,hu,(ae hk).symm⟩)))))
 by_cases su:p=12
 ·subst su
  obtain⟨x,t,e1,e2,e3⟩:=rM (f:=.fault) h rfl (λ_=>rfl) hk
  exact last (by decide) e1 e2 (by rw[e3];rfl)
 by_cases yf:p=13
 ·subst yf
  obtain⟨hl,xs,e1,e2⟩:=tZ h (n:=1) (m:=0) rfl
  cases r with
  | nil=>exact absurd hl (by decide)
  | cons z r1=>
   have e1:=ae e1
   injection e1 with e3 e4
   have e2:c=[[13,z]]:=by rw[e2,<-e3];rfl
   rw[e2]at hk
   exact .inl ⟨rfl,z,by rw[<-e4];rfl,(ae hk).symm⟩
 ·exfalso
  unfold PyFlat.call at h
  have hs:PyVaunia.shape p=none:=by
   unfold PyVaunia.shape
   rw[aq c0,aq c1,aq c2,aq c3,aq c4,aq c5,aq c6,aq c7,aq c8,aq c9,aq sr,aq ye,aq su,aq yf]
  dsimp only at h
  rw[hs]at h
  cases h
theorem f_.oQ{K:Fg}{H U:Hp}{a:hC}{t dx l m:Addr}{i:Nat}{xs:List V}(h:f_ K H m xs)(ht:H t=some (iZ a dx l i))(k:Kp t H U):f_ K U m xs:=by
 rcases h with(h | ⟨ob,h⟩) | h
 ·exact .inl (.inl (k _ _ (iC h ht (by intro z;cases z)) h))
 ·exact .inl (.inr ⟨ob,k _ _ (iC h ht (by intro z;cases z)) h⟩)
 ·exact .inr h
structure qa(a:hC)(K:Fg)(H U:Hp)(tp dx l:Addr)(ns:List Int)(j:Nat)(bk d:Addr)(b:Vaunia.Book)(kvs:List (List Key×V)):Prop where
 kp:Kp tp H U
 tp:U tp=some (iZ a dx l j)
 li:f_ K U l (ns.map V.int)
 bk:iB a U bk d b kvs
 dd:U d=some (.dT kvs)
theorem qa.num{a:hC}{K:Fg}{H U:Hp}{tp dx l bk d:Addr}{ns:List Int}{j:Nat}{b:Vaunia.Book}{kvs:List (List Key×V)}(S:qa a K H U tp dx l ns j bk d b kvs)(m:Nat):qa a K H (upd U tp (iZ a dx l m)) tp dx l ns m bk d b kvs:=
 ⟨S.kp.trans Kp.upd,e_,f_.upd S.li S.tp,S.bk.oQ S.tp Kp.upd,by rw[ip (iC S.dd S.tp (by intro z;cases z))];exact S.dd⟩
theorem qa.row{a:hC}{K:Fg}{H U:Hp}{tp dx l bk d p:Addr}{ns:List Int}{j:Nat}{b:Vaunia.Book}{kvs:List (List Key×V)}{o:HO}(S:qa a K H U tp dx l ns j bk d b kvs)(m:Nat)(hp:U p=none):qa a K H (upd (upd U tp (iZ a dx l m)) p o) tp dx l ns m bk d b kvs:=by
 have S1:=S.num m
 have kf:upd U tp (iZ a dx l m) p=none:=by rw[ip (λz=>by rw[z,S.tp]at hp;cases hp)];exact hp
 have s:=c_.new (o:=o) kf
 exact⟨S1.kp.trans s.kp,s _ _ S1.tp,c_.seq s S1.li,S1.bk.same s,s _ _ S1.dd⟩
noncomputable def Ag(a:hC)(H:Hp)(R:VK)(bk d tp dx l:Addr)(ns rest:List Int)(b:Vaunia.Book)(c:Vaunia.Call):Prop:=∀p U lu j,(∀x o,x≠d->x≠tp->H x=some o->U x=some o)->U tp=some (iZ a dx l j)->ns.drop j=rest->U d=some (.dT lu)->iB a U bk d (Vaunia.step ⟨b⟩ c).1.book lu->
 U p=some (.lst ((VauniaNeutral.encode (Vaunia.step ⟨b⟩ c).2).map V.int))->(VauniaNeutral.encode (Vaunia.step ⟨b⟩ c).2).length<=20000->R (.ref p) U
theorem Ag.ret{a:hC}{K:Fg}{H H1:Hp}{R:VK}{bk d tp dx l:Addr}{ns rest:List Int}{b:Vaunia.Book}{c:Vaunia.Call}{kvs:List (List Key×V)}{j:Nat}(k:Ag a H R bk d tp dx l ns rest b c)(S:qa a K H H1 tp dx l ns j bk d b kvs)(hj:ns.drop j=rest):kP a H1 R bk d b c:=
 λp U lu k1 h1 h2 h3 h4=>k p U lu j (λx o n1 n2 hx=>k1 _ _ n1 (S.kp _ _ n2 hx)) (k1 _ _ (iC S.tp S.dd (by intro z;cases z)) S.tp) hj h1 h2 h3 h4
section
variable{P:Program}{w:World}{K:Fg}{mg:Str->Option Value}{base:Heap}{a:hC}
noncomputable def YE(K:Fg)(a:hC):Sp:=λvs H R _=>∃bk d b kvs tp dx l ns i c rest k,vs=[.ref bk,.ref tp]/\iB a H bk d b kvs/\H d=some (.dT kvs)/\H tp=some (iZ a dx l i)/\f_ K H l (ns.map V.int)/\ns.length<sizeLine/\PyFlat.call PyVaunia.shape (ns.drop i)=some (c,rest)/\VauniaNeutral.callOf (PyVaunia.whole c)=some k/\Ag a H R bk d tp dx l ns rest b k
theorem WW(T:Txt K mg a)(ht:P.given.tree=none):Callee P w K mg base 43 "answer_next" ["book","tape"] (YE K a):=by
 refine T.Od.ok KG (λvs H Q E h=>?_) (λf h8 A outer s H vs Q E hr h=>?_)
 ·obtain⟨_,_,_,_,_,_,_,_,_,_,_,_,rfl,_⟩:=h
  rfl
 ·obtain⟨bk,d,b,kvs,tp,dx,l,ns,i,c,rest,k,rfl,B,hd,FO,hl,hsz,hc,hk,kk⟩:=h
  have nd:=KG.nd
  have n1:=hr.mono (show 1<=42 by decide)
  have n2:=hr.mono (show 2<=42 by decide)
  refine⟨_,gZ (ic (i:=2) nd rfl (Or.inl rfl) (hU (xo T) n1 (b_ (pv 1) d_)))
   (gZ (iw (iq je (pv 2) (iD T.Ri) (ig _)) (g9 (hJ (hU (W2 T) (hr.mono (by decide)) (b_ (pv 0) (b_ (hU (xo T) n1 (b_ (pv 1) d_)) d_))))) iy)
   (gZ (iw (iq je (pv 2) (iD T.RP) (ig _)) (gZ (ic (i:=3) nd rfl (Or.inl rfl) (hU (xo T) n1 (b_ (pv 1) d_)))
    (g9 (hJ (hU (W9 T ht) (hr.mono (by decide)) (b_ (pv 0) (b_ (pv 3) (b_ (hU (rL T) n2 (b_ (pv 1) d_)) d_))))))) iy)
   (gZ (iw (iq je (pv 2) (iD T.Rh) (ig _)) (gZ (ic (i:=4) nd rfl (Or.inl rfl) (hU (xo T) n1 (b_ (pv 1) d_)))
    (gZ (ic (i:=5) nd rfl (Or.inl rfl) (hU (rL T) n2 (b_ (pv 1) d_)))
    (g9 (hJ (hU (W1 T ht) hr (b_ (pv 0) (b_ (pv 4) (b_ (pv 5) (b_ (hU (rL T) n2 (b_ (pv 1) d_)) d_))))))))) iy)
   (gZ (ic (i:=6) nd rfl (Or.inl rfl) (hU (rL T) n2 (b_ (pv 1) d_)))
   (gZ (iw (iq je (pv 2) (iD T.RY) (ig _)) (g9 (hJ (hU (Xc T ht) (hr.mono (by decide)) (b_ (pv 0) (b_ (pv 6) (b_ (hU (rL T) n2 (b_ (pv 1) d_)) d_)))))) iy)
   (gZ (iw (iq je (pv 2) (iD T.RN) (ig _)) (g9 (hJ (hU (W7 T ht) hr (b_ (pv 0) (b_ (pv 6) (b_ (hU (rL T) n2 (b_ (pv 1) d_)) d_)))))) iy)
   (gZ (iw (iq je (pv 2) (iD T.RT) (ig _)) (g9 (hJ (hU (Xa T ht) hr (b_ (pv 0) (b_ (pv 6) (b_ (hU (XT T) (hr.mono (by decide)) (b_ (pv 1) d_)) d_)))))) iy)
   (g9 (hJ (hU (WX T ht) hr (b_ (pv 0) (b_ (pv 2) (b_ (pv 6) d_))))))))))))),?_⟩
  dsimp only[il]
  cases Bf:ns.drop i with
  | nil=>rw[Bf]at hc;cases hc
  | cons p r=>
  rw[Bf]at hc
  have hp:=X6 hc hk
  obtain⟨hi,er,iP⟩:=ym Bf
  subst er
  have S0:qa a K H H tp dx l ns i bk d b kvs:=⟨λ_ _ _ h=>h,FO,hl,B,hd⟩
  refine(a_ rfl ⟨tp,dx,l,i,ns,p,rfl,FO,hl,hi,?_⟩)
  have S1:=S0.num (i+1)
  generalize upd H tp (iZ a dx l (i+1))=H1 at S1
  refine(a_ rfl ⟨rfl,a_ rfl ?_⟩)
  rcases hp with⟨rfl,z,e1,rfl⟩ | hp
  ·rw[ah rfl]
   obtain⟨hz,e2,_⟩:=ym e1
   refine iu (a_ rfl (a_ rfl ⟨tp,dx,l,i+1,ns,z,rfl,S1.tp,S1.li,hz,?_⟩))
   have S2:=S1.num (i+1+1)
   exact⟨bk,d,b,kvs,z,rfl,S2.bk,S2.dd,kk.ret S2 e2.symm⟩
  have yf:p≠13:=by rcases hp with⟨rfl,_⟩ | ⟨rfl,_⟩ | ⟨rfl,_⟩ | ⟨rfl,_⟩ | ⟨rfl,_⟩ | ⟨h,_⟩<;>first | decide | exact h.1
  rw[az (λe=>yf (V.int.inj e))]
  refine iz (a_ rfl ⟨rfl,a_ rfl ?_⟩)
  rcases hp with⟨rfl,z,r1,x,t,e1,e2,e3,rfl⟩ | hp
  ·rw[ah rfl]
   obtain⟨hz,e4,_⟩:=ym e1
   subst e4
   obtain⟨n,g1,g2,g3,g4⟩:=uZ e2
   refine iu (a_ rfl ⟨tp,dx,l,i+1,ns,z,rfl,S1.tp,S1.li,hz,?_⟩)
   have S2:=S1.num (i+1+1)
   generalize upd H1 tp (iZ a dx l (i+1+1))=H2 at S2
   refine(a_ rfl (a_ rfl (a_ rfl ⟨tp,dx,l,i+1+1,ns,n,rfl,S2.tp,S2.li,g1,g2,λq hq=>?_⟩)))
   have S3:=S2.row (o:=.lst (((ns.drop (i+1+1+1)).take n).map V.int)) (i+1+1+1+n) hq
   refine⟨bk,d,b,kvs,z,q,t,rfl,S3.bk,S3.dd,f_.of ?_,kk.ret S3 g4.symm⟩
   rw[e_,<-g3,so e3]
  have c7:p≠7:=by rcases hp with⟨rfl,_⟩ | ⟨rfl,_⟩ | ⟨rfl,_⟩ | ⟨rfl,_⟩ | ⟨h,_⟩<;>first | decide | exact h.2.1
  rw[az (λe=>c7 (V.int.inj e))]
  refine iz (a_ rfl ⟨rfl,a_ rfl ?_⟩)
  rcases hp with⟨rfl,z,r1,x,r2,y,t,u,e1,e2,e3,e5,e6,rfl⟩ | hp
  ·rw[ah rfl]
   obtain⟨hz,e4,_⟩:=ym e1
   subst e4
   obtain⟨n,g1,g2,g3,g4⟩:=uZ e2
   subst g4
   obtain⟨m,f1,f2,f3,f4⟩:=uZ e3
   refine iu (a_ rfl ⟨tp,dx,l,i+1,ns,z,rfl,S1.tp,S1.li,hz,?_⟩)
   have S2:=S1.num (i+1+1)
   generalize upd H1 tp (iZ a dx l (i+1+1))=H2 at S2
   refine(a_ rfl ⟨tp,dx,l,i+1+1,ns,n,rfl,S2.tp,S2.li,g1,g2,λq hq=>?_⟩)
   have S3:=S2.row (o:=.lst (((ns.drop (i+1+1+1)).take n).map V.int)) (i+1+1+1+n) hq
   have ml:upd (upd H2 tp (iZ a dx l (i+1+1+1+n))) q (.lst (((ns.drop (i+1+1+1)).take n).map V.int)) q=some (.lst (bv t)):=by rw[e_,<-g3,so e5]
   generalize upd (upd H2 tp (iZ a dx l (i+1+1+1+n))) q (.lst (((ns.drop (i+1+1+1)).take n).map V.int))=H3 at S3 ml
   refine(a_ rfl (a_ rfl (a_ rfl (a_ rfl ⟨tp,dx,l,_,ns,m,rfl,S3.tp,S3.li,f1,f2,λq2 kK=>?_⟩))))
   have S4:=S3.row (o:=.lst (((ns.drop (i+1+1+1+n+1)).take m).map V.int)) (i+1+1+1+n+1+m) kK
   refine⟨bk,d,b,kvs,z,q,t,q2,u,rfl,S4.bk,S4.dd,f_.of ?_,f_.of ?_,kk.ret S4 f4.symm⟩
   ·rw[ip (jB ml kK),ip (iC ml S3.tp (by intro z;cases z))];exact ml
   ·rw[e_,<-f3,so e6]
  have c6:p≠6:=by rcases hp with⟨rfl,_⟩ | ⟨rfl,_⟩ | ⟨rfl,_⟩ | ⟨h,_⟩<;>first | decide | exact h.2.2.1
  rw[az (λe=>c6 (V.int.inj e))]
  obtain⟨x,r2,t,e2,e3⟩:∃x r2 t,PyFlat.row (ns.drop (i+1))=some (x,r2)/\VauniaNeutral.text? x=some t:=by
   rcases hp with⟨_,x,r2,y,t,u,h1,_,h2,_⟩ | ⟨_,x,r2,y,t,u,h1,_,h2,_⟩ | ⟨_,x,r2,y,t,u,h1,_,h2,_⟩ | ⟨_,x,t,h1,h2,_⟩
   ·exact⟨x,r2,t,h1,h2⟩
   ·exact⟨x,r2,t,h1,h2⟩
   ·exact⟨x,r2,t,h1,h2⟩
   ·exact⟨x,_,t,h1,h2⟩
  obtain⟨n,g1,g2,g3,g4⟩:=uZ e2
  refine iz (a_ rfl ⟨tp,dx,l,i+1,ns,n,rfl,S1.tp,S1.li,g1,g2,λq hq=>?_⟩)
  have S3:=S1.row (o:=.lst (((ns.drop (i+1+1)).take n).map V.int)) (i+1+1+n) hq
  have ml:upd (upd H1 tp (iZ a dx l (i+1+1+n))) q (.lst (((ns.drop (i+1+1)).take n).map V.int)) q=some (.lst (bv t)):=by rw[e_,<-g3,so e3]
  generalize upd (upd H1 tp (iZ a dx l (i+1+1+n))) q (.lst (((ns.drop (i+1+1)).take n).map V.int))=H3 at S3 ml
  have two:∀{tu y:List Int} {u:List UInt8} {x':List Int},PyFlat.row (ns.drop (i+1))=some (x',tu)->PyFlat.row tu=some (y,rest)->VauniaNeutral.text? y=some u->∃m:Nat,ns[i+1+1+n]? =some ((m:Nat):Int)/\i+1+1+n+1+m<=ns.length/\y=(ns.drop (i+1+1+n+1)).take m/\rest=ns.drop (i+1+1+n+1+m):=λ{tu y u x'} h1 h2 h3=>by
   rw[e2]at h1
   have h1:=ae h1
   injection h1 with _ h1
   rw[<-h1,g4]at h2
   exact uZ h2
  refine(a_ rfl ⟨rfl,a_ rfl ?_⟩)
  rcases hp with⟨rfl,x',tu,y,t',u,h1,h2,h3,h4,rfl⟩ | hp
  ·rw[ah rfl]
   obtain⟨m,f1,f2,f3,f4⟩:=two h1 h2 h4
   have et:t'=t:=by
    rw[e2]at h1;have h1:=ae h1;injection h1 with h1 _;rw[<-h1,e3]at h3;exact(ae h3).symm
   subst et
   refine iu (a_ rfl (a_ rfl (a_ rfl ⟨tp,dx,l,_,ns,m,rfl,S3.tp,S3.li,f1,f2,λq2 kK=>?_⟩)))
   have S4:=S3.row (o:=.lst (((ns.drop (i+1+1+n+1)).take m).map V.int)) (i+1+1+n+1+m) kK
   refine⟨bk,d,b,kvs,q,t',q2,u,rfl,S4.bk,S4.dd,f_.of ?_,f_.of ?_,kk.ret S4 f4.symm⟩
   ·rw[ip (jB ml kK),ip (iC ml S3.tp (by intro z;cases z))];exact ml
   ·rw[e_,<-f3,so h4]
  have c1:p≠1:=by rcases hp with⟨rfl,_⟩ | ⟨rfl,_⟩ | ⟨h,_⟩<;>first | decide | exact h.2.2.2.1
  rw[az (λe=>c1 (V.int.inj e))]
  refine iz (a_ rfl ⟨rfl,a_ rfl ?_⟩)
  rcases hp with⟨rfl,x',tu,y,t',u,h1,h2,h3,h4,rfl⟩ | hp
  ·rw[ah rfl]
   obtain⟨m,f1,f2,f3,f4⟩:=two h1 h2 h4
   have et:t'=t:=by
    rw[e2]at h1;have h1:=ae h1;injection h1 with h1 _;rw[<-h1,e3]at h3;exact(ae h3).symm
   subst et
   refine iu (a_ rfl (a_ rfl (a_ rfl ⟨tp,dx,l,_,ns,m,rfl,S3.tp,S3.li,f1,f2,λq2 kK=>?_⟩)))
   have S4:=S3.row (o:=.lst (((ns.drop (i+1+1+n+1)).take m).map V.int)) (i+1+1+n+1+m) kK
   refine⟨bk,d,b,kvs,q,t',q2,u,rfl,S4.bk,S4.dd,f_.of ?_,f_.of ?_,kk.ret S4 f4.symm⟩
   ·rw[ip (jB ml kK),ip (iC ml S3.tp (by intro z;cases z))];exact ml
   ·rw[e_,<-f3,so h4]
  have c5:p≠5:=by rcases hp with⟨rfl,_⟩ | ⟨h,_⟩<;>first | decide | exact h.2.2.2.2.1
  rw[az (λe=>c5 (V.int.inj e))]
  refine iz (a_ rfl ⟨rfl,a_ rfl ?_⟩)
  rcases hp with⟨rfl,x',tu,y,t',ms,h1,h2,h3,h4,rfl⟩ | hp
  ·rw[ah rfl]
   have et:t'=t/\tu=r2:=by
    rw[e2]at h1;have h1:=ae h1;injection h1 with h1 h5;rw[<-h1,e3]at h3;exact⟨(ae h3).symm,h5.symm⟩
   obtain⟨rfl,rfl⟩:=et
   rw[g4]at h2
   obtain⟨m,f1,f2,f3,f4⟩:=uZ h2
   refine iu (a_ rfl (a_ rfl (a_ rfl ⟨tp,dx,l,_,ns,m,_,ms,rfl,S3.tp,S3.li,f1,f2,hsz,(by rw[<-f3];exact h4),λq2 H4 k4 Ua x4=>?_⟩)))
   have S4:qa a K H H4 tp dx l ns (i+1+1+n+1+m) bk d b kvs:=⟨S3.kp.trans k4,Ua,f_.oQ S3.li S3.tp k4,S3.bk.oQ S3.tp k4,k4 _ _ (iC S3.dd S3.tp (by intro z;cases z)) S3.dd⟩
   refine⟨bk,d,b,kvs,q,t',q2,ms,rfl,S4.bk,S4.dd,f_.of ?_,x4,kk.ret S4 f4.symm⟩
   exact k4 _ _ (iC ml S3.tp (by intro z;cases z)) ml
  have ye:p≠11:=hp.1.2.2.2.2.2
  rw[az (λe=>ye (V.int.inj e))]
  obtain⟨_,x',t',h1,h2,h3⟩:=hp
  have et:t'=t/\rest=r2:=by
   rw[e2]at h1;have h1:=ae h1;injection h1 with h1 h5;rw[<-h1,e3]at h2;exact⟨(ae h2).symm,h5.symm⟩
  obtain⟨rfl,rfl⟩:=et
  exact iz (a_ rfl (a_ rfl (a_ rfl ⟨bk,d,b,kvs,p,q,t',k,rfl,S3.bk,S3.dd,f_.of ml,h3,kk.ret S3 g4.symm⟩)))
end
theorem iN.pI{a:hC}{H U:Hp}{t p:Addr}{od:Obj}{u:HO}{q:Q}(h:iN a H p q)(ht:H t=some (.iF od u))(k:Kp t H U):iN a U p q:=by
 obtain⟨d,h⟩:=h
 exact⟨d,k _ _ (iC h ht (by intro z;cases z)) h⟩
theorem j9.pI{H U:Hp}{t p:Addr}{od:Obj}{u:HO}{fs:List Vaunia.Factor}(h:j9 H p fs)(ht:H t=some (.iF od u))(k:Kp t H U):j9 U p fs:=by
 obtain⟨ps,h1,h2⟩:=h
 exact⟨ps,k _ _ (iC h1 ht (by intro z;cases z)) h1,h2.mono λx y ⟨n,r1,r2⟩=>⟨n,k _ _ (iC r1 ht (by intro z;cases z)) r1,k _ _ (iC r2 ht (by intro z;cases z)) r2⟩⟩
theorem lG.pI{a:hC}{H U:Hp}{t d p:Addr}{od:Obj}{u:HO}{e:Vaunia.Entry}{w:FW}(h:lG a d H p e w)(ht:H t=some (.iF od u))(k:Kp t H U):lG a d U p e w:=by
 obtain⟨lK,nv,lf,lr,pd,pk,h1,h2,h3,h4,h5,h6,h7⟩:=h
 refine⟨lK,nv,lf,lr,pd,pk,k _ _ (iC h1 ht (by intro z;cases z)) h1,λhb=>?_,h3.pI ht k,h4.pI ht k,h5,k _ _ (iC h6 ht (by intro z;cases z)) h6,h7⟩
 obtain⟨ln,e1,e2⟩:=h2 hb
 exact⟨ln,e1,e2.pI ht k⟩
theorem iB.pI{a:hC}{H U:Hp}{t bk d:Addr}{od:Obj}{u:HO}{b:Vaunia.Book}{kvs:List (List Key×V)}(B:iB a H bk d b kvs)(hd:H d=some (.dT kvs))(ht:H t=some (.iF od u))(k:Kp t H U):iB a U bk d b kvs:=by
 obtain⟨bx,ho⟩:=B.obj
 exact⟨B.ok,⟨bx,k _ _ (iC ho ht (by intro z;cases z)) ho⟩,.inl (k _ _ (iC hd ht (by intro z;cases z)) hd),B.all.mono λx y ⟨e1,p,e2,r⟩=>⟨e1,p,e2,r.pI ht k⟩⟩
theorem NR{a:hC}{H:Hp}{bk d dx:Addr}(hb:H bk=some (.ins a.k5 dx [("entries",.ref d)]))(hd:H d=some (.dT [])):iB a H bk d [] []:=
 ⟨⟨.nil,aU _,λ_ h=>(by cases h),λ_ h=>(by cases h),λ_ h=>(by cases h),λ_ h=>(by cases h),λ_ h=>(by cases h)⟩,⟨dx,hb⟩,.inl hd,Zip.nil⟩
noncomputable def abg(C:Addr):Sp:=λvs H Q _=>∃p dx,vs=[.ref p]/\H p=some (.ins C dx [])/\∀d,H d=none->Q .ia (upd (upd H d (.dT [])) p (.ins C dx [("entries",.ref d)]))
section
variable{P:Program}{w:World}{K:Fg}{mg:Str->Option Value}{base:Heap}{a:hC}
theorem WS(T:Txt K mg a){f:Addr}{fd:FuncData}(F:pZ K "__init__" ("Book"++".__init__") (inClass Dl 0) f fd):m5 P w K mg base oZ 1 f fd ["self"] (abg a.k5):=by
 refine F.ok aar (λvs H Q E h=>?_) (λh8 A outer s H vs Q E hr h=>?_)
 ·obtain⟨_,_,rfl,_⟩:=h
  rfl
 ·obtain⟨p,dx,rfl,hp,k⟩:=h
  refine⟨_,g9 (jH (pv 0) Yd rfl),λd hd=>?_⟩
  dsimp only[il]
  have xl:p≠d:=λz=>by rw[<-z,hp]at hd;cases hd
  refine(a_ rfl ⟨p,_,dx,a_ rfl ⟨(by rw[ip xl];exact hp),T.j0.cl,T.ki,(by show 0<1000;decide),?_⟩⟩)
  exact k d hd
noncomputable def toldOf(b:Vaunia.Book)(cs:List (List (List Int))):List Int:=PyFlat.told (PyFlat.played VauniaNeutral.step ⟨b⟩ (cs.map PyVaunia.whole))
theorem abT{b:Vaunia.Book}{c:List (List Int)}{cs:List (List (List Int))}{k:Vaunia.Call}(hk:VauniaNeutral.callOf (PyVaunia.whole c)=some k):
 toldOf b (c::cs)=(((VauniaNeutral.encode (Vaunia.step ⟨b⟩ k).2).length:Nat):Int)::(VauniaNeutral.encode (Vaunia.step ⟨b⟩ k).2++toldOf (Vaunia.step ⟨b⟩ k).1.book cs):=by
 have e:VauniaNeutral.step ⟨b⟩ (PyVaunia.whole c)=((Vaunia.step ⟨b⟩ k).1,VauniaNeutral.encode (Vaunia.step ⟨b⟩ k).2):=by
  unfold VauniaNeutral.step
  rw[hk]
 unfold toldOf
 rw[aO]
 show PyFlat.told ((VauniaNeutral.step ⟨b⟩ (PyVaunia.whole c)).2::PyFlat.played VauniaNeutral.step (VauniaNeutral.step ⟨b⟩ (PyVaunia.whole c)).1 (cs.map PyVaunia.whole))=_
 rw[e]
 unfold PyFlat.told
 rw[gK]
 rfl
theorem NZ{f:Nat}{cs:List (List (List Int))}(h:PyFlat.calls PyVaunia.shape f []=some cs):cs=[]:=by
 cases f<;>exact(ae h).symm
theorem NY{f:Nat}{p:Int}{r:List Int}{cs:List (List (List Int))}(h:PyFlat.calls PyVaunia.shape f (p::r)=some cs):∃c t mL g,cs=c::mL/\PyFlat.call PyVaunia.shape (p::r)=some (c,t)/\PyFlat.calls PyVaunia.shape g t=some mL:=by
 cases f with
 | zero=>cases h
 | succ g=>
  have h:(match PyFlat.call PyVaunia.shape (p::r) with
   | none=>none
   | some (c,t)=>match PyFlat.calls PyVaunia.shape g t with
    | none=>none
    | some cs=>some (c::cs))=some cs:=h
  split at h
  ·cases h
  ·rename_i c t e
   split at h
   ·cases h
   ·rename_i mL e2
    exact⟨c,t,mL,g,(ae h).symm,e,e2⟩
noncomputable def Ma(K:Fg):Sp:=λvs H R _=>∃(l:Addr) (ns:List Int),vs=[.ref l]/\f_ K H l (ns.map V.int)/\ns.length<sizeLine/\PyVaunia.answers_asked ns=true/\∀q U,c_ H U->U q=some (.lst ((PyVaunia.answers ns).map V.int))->R (.ref q) U
theorem Q8(T:Txt K mg a)(ht:P.given.tree=none){f:Addr}{fd:FuncData}(F:pZ K "answers" "answers" Dm f fd):m5 P w K mg base oZ 44 f fd ["calls"] (Ma K):=by
 refine F.ok KI (λvs H Q E h=>?_) (λh8 A outer s H vs Q E hr h=>?_)
 ·obtain⟨_,_,rfl,_⟩:=h
  rfl
 ·obtain⟨l,ns,rfl,hl,hsz,oH,k⟩:=h
  have nd:=KI.nd
  obtain⟨bf,bfd,bM,bF,bB⟩:=T.j0.ini
  have n1:=hr.mono (show 1<=43 by decide)
  have n2:=hr.mono (show 2<=43 by decide)
  refine⟨_,gZ (ic (i:=1) nd rfl (Or.inl rfl) (jk (GG T) n2 (b_ (pv 0) d_)))
   (gZ (ic (i:=2) nd rfl (Or.inl rfl) (Yh (lJ:=[]) (ds:=[]) (E:=E0) bM (WS T bF) n2 rfl T.j0.Gx bB .nil CM))
   (gZ (ic (i:=3) nd rfl (Or.inl rfl) (iL d_))
   (gZ (uY aX (lD (ju (hU (Hg T) n1 (b_ (pv 1) d_)) (λ_=>rfl)))
    (gZ (ic (i:=4) nd rfl (Or.inl rfl) (CQ (hU (WW T ht) hr (b_ (pv 2) (b_ (pv 1) d_)))))
    (gZ (lR (lP aT bV bW rC (pv 3) (b_ (i7 ka (by rfl) T.jO aV (b_ (pv 4) d_)) d_)))
    (g9 (lR (lP aT fh fi GH (pv 3) (b_ (pv 4) d_)))))))
   (g9 (hJ (pv 3)))))),?_⟩
  dsimp only[il]
  obtain⟨oy,EZ,Ta,Sd⟩:∃oy,PyFlat.calls PyVaunia.shape ns.length ns=some oy/\oy.length<=400/\∀c∈oy,∃k,VauniaNeutral.callOf (PyVaunia.whole c)=some k:=by
   unfold PyVaunia.answers_asked PyVaunia.calls at oH
   cases e:PyFlat.calls PyVaunia.shape ns.length ns with
   | none=>rw[e]at oH;cases oH
   | some oy=>
    rw[e]at oH
    have oH:(PyFlat.atMost 400 (oy.map PyVaunia.whole)&&VauniaNeutral.asked (oy.map PyVaunia.whole))=true:=oH
    rw[aZ]at oH
    have h1:=aL oH.1
    rw[ab]at h1
    have h2:=oH.2
    unfold VauniaNeutral.asked at h2
    rw[aZ,aZ]at h2
    refine⟨oy,rfl,h1,λc hc=>?_⟩
    have:=cx.mp h2.1.2 (PyVaunia.whole c) (List.mem_map_of_mem hc)
    exact cP.mp this
  have QD:PyVaunia.answers ns=toldOf [] oy:=by
   unfold PyVaunia.answers PyVaunia.calls
   rw[EZ]
   rfl
  rw[QD]at k
  refine(a_ rfl ⟨rfl,λtp dx FQ nX iJ=>?_⟩)
  have s1:=c_.jc (o:=.ins a.me dx (qE [.ref l])) (o':=.own tp) FQ nX
  have ux:upd (upd H dx (.own tp)) tp (.ins a.me dx (qE [.ref l])) tp=some (iZ a dx l 0):=by rw[e_];rfl
  generalize upd (upd H dx (.own tp)) tp (.ins a.me dx (qE [.ref l]))=H1 at s1 ux
  intro bk bx EX Sm Bo
  have s2:=c_.jc (o:=.ins a.k5 bx []) (o':=.own bk) EX Sm
  refine⟨bk,bx,rfl,e_,λd hd=>⟨rfl,?_⟩⟩
  have Sk:upd (upd H1 bx (.own bk)) bk (.ins a.k5 bx []) bk=some (.ins a.k5 bx []):=e_
  have uN:bk≠d:=λz=>by rw[<-z,Sk]at hd;cases hd
  have SA:H d=none:=s1.free (s2.free hd)
  have s3:c_ H1 (upd (upd (upd (upd H1 bx (.own bk)) bk (.ins a.k5 bx [])) d (.dT [])) bk (.ins a.k5 bx [("entries",.ref d)])):=λb o e=>by
   rw[ip (jB e EX)]
   exact(s2.trans (c_.new (o:=.dT []) hd)) _ _ e
  have yE:upd (upd (upd (upd H1 bx (.own bk)) bk (.ins a.k5 bx [])) d (.dT [])) bk (.ins a.k5 bx [("entries",.ref d)]) bk=some (.ins a.k5 bx [("entries",.ref d)]):=e_
  have wj:upd (upd (upd (upd H1 bx (.own bk)) bk (.ins a.k5 bx [])) d (.dT [])) bk (.ins a.k5 bx [("entries",.ref d)]) d=some (.dT []):=by rw[ip (cJ uN),e_]
  generalize upd (upd (upd (upd H1 bx (.own bk)) bk (.ins a.k5 bx [])) d (.dT [])) bk (.ins a.k5 bx [("entries",.ref d)])=H3 at s3 yE wj
  have jY:=s1.trans s3
  refine⟨aU _,λan qp=>?_⟩
  have s4:=c_.new (o:=.lst []) qp
  have ES:H an=none:=jY.free qp
  have Uj:∀(U:Hp) (o:HO),c_ H U->c_ H (upd U an o):=λU o s b u e=>by rw[ip (jB e ES)];exact s b u e
  refine⟨λm σ U=>∃(j:Nat) (b:Vaunia.Book) (kvs:List (List Key×V)) (cs:List (List (List Int))) (out:List Int) (g:Nat) (r4:Option V),σ=[some (.ref l),some (.ref tp),some (.ref bk),some (.ref an),r4]/\c_ H U/\U tp=some (iZ a dx l j)/\U d=some (.dT kvs)/\U an=some (.lst (out.map V.int))/\(∀o,iB a (upd U an o) bk d b kvs)/\
   PyFlat.calls PyVaunia.shape g (ns.drop j)=some cs/\(∀c∈cs,∃k,VauniaNeutral.callOf (PyVaunia.whole c)=some k)/\out++toldOf b cs=toldOf [] oy/\cs.length<=400/\out.length<=(400-cs.length)*20001/\m=cs.length,
   ⟨_,0,[],[],oy,[],ns.length,none,rfl,jY.trans s4,s4 _ _ (s3 _ _ ux),s4 _ _ wj,e_,λo=>NR (dx:=bx) (by rw[ip (jB yE qp),ip (jB yE qp)];exact yE) (by rw[ip (jB wj qp),ip (jB wj qp)];exact wj),EZ,Sd,rfl,Ta,aU _,rfl⟩,?_⟩
  rintro m σ H4 ⟨j,b,kvs,cs,out,g,r4,rfl,s5,yW,Bd,wd,B5,ui,jq,yq,hlen,TH,rfl⟩
  refine⟨_,rfl,tp,dx,l,j,ns,rfl,yW,s5.seq hl,_,rfl,?_⟩
  by_cases c:ns.length<=j
  ·rw[ah c]
   rw[fO c]at ui
   have el:=NZ ui
   rw[el]at yq
   have e0:toldOf b []=[]:=rfl
   rw[e0,cv]at yq
   rw[yq]at wd
   exact iz (a_ rfl (k an _ s5 wd))
  ·rw[az c]
   have hj:j<ns.length:=by omega
   have E4:=cI hj
   rw[E4]at ui
   obtain⟨c1,rest,mL,g',QF,yG,Sx⟩:=NY ui
   rw[<-E4]at yG
   subst QF
   obtain⟨kc,Ff⟩:=jq c1 (aD ..)
   refine iu ⟨_,λik U n=>n,?_⟩
   refine⟨an,_,wd,trivial,λod=>?_⟩
   have Cw:tp≠an:=iC yW wd (by intro z;cases z)
   have Cn:d≠an:=iC Bd wd (by intro z;cases z)
   have acW:d≠tp:=iC Bd yW (by intro z;cases z)
   refine(a_ rfl (a_ rfl ⟨bk,d,b,kvs,tp,dx,l,ns,j,c1,rest,kc,rfl,B5 _,(by rw[ip Cn];exact Bd),(by rw[ip Cw];exact yW),(Uj _ _ s5).seq hl,hsz,yG,Ff,?_⟩))
   intro p H6 lu j' Gc Ub ej E1 B6 yT S_
   have Bc:H6 an=some (.iF od (.lst (out.map V.int))):=Gc _ _ (cJ Cn) (cJ Cw) e_
   refine⟨Bc,?_⟩
   generalize Sg:VauniaNeutral.encode (Vaunia.step ⟨b⟩ kc).2=ans at yT S_
   have Cu:p≠an:=iC yT Bc (by intro z;cases z)
   have mh:(c1::mL).length=mL.length+1:=rfl
   have FK:(400-(mL.length+1))*20001+20001<=(400-mL.length)*20001:=by
    have:400-mL.length=(400-(mL.length+1))+1:=by rw[mh]at hlen;omega
    rw[this,Nat.add_mul];omega
   have acI:(400-mL.length)*20001<=400*20001:=eT _ (by omega)
   have hz:400*20001<sizeLine:=by decide
   rw[mh]at TH
   have s6:c_ H H6\/True:=.inr trivial
   refine(a_ rfl ⟨.inl ⟨rfl,_,f_.of (xs:=out.map V.int) e_⟩,a_ rfl ⟨p,a_ rfl ⟨.inl (f_.of (by rw[ip Cu];exact yT)),an,h9 rfl rfl ⟨e_,(by rw[ab];omega),?_⟩⟩⟩⟩)
   refine(a_ rfl ⟨.inl ⟨rfl,_,f_.of e_⟩,a_ rfl ⟨an,p,h9 rfl rfl ⟨e_,(by rw[ip Cu,ip Cu];exact yT),(by rw[aj,ab,ab,aA];omega),?_⟩⟩⟩)
   have SY:∀x o,x≠an->x≠d->x≠tp->H4 x=some o->H6 x=some o:=λx o n1 n2 n3 e=>Gc _ _ n2 n3 (by rw[ip n1];exact e)
   rw[kn,kn]
   refine⟨mL.length,fV _,j',(Vaunia.step ⟨b⟩ kc).1.book,lu,mL,out++(((ans.length:Nat):Int)::ans),g',some (.ref p),rfl,?_,?_,?_,?_,?_,by rw[ej];exact Sx,λc hc=>jq c (aw _ hc),?_,by rw[mh]at hlen;omega,?_,rfl⟩
   ·refine λx o e=>?_
    have n1:x≠an:=jB e ES
    have n2:x≠d:=jB e SA
    have n3:x≠tp:=jB e FQ
    rw[ip n1]
    exact SY x o n1 n2 n3 (s5 _ _ e)
   ·rw[ip Cw];exact Ub
   ·rw[ip Cn];exact E1
   ·rw[e_,au,aO,ab,bR];rfl
   ·intro o
    rw[kn]
    exact B6.pI E1 Bc Kp.upd
   ·rw[<-yq,abT Ff,Sg,bR];rfl
   ·rw[aj,ai];omega
end
end MB
namespace MB
open PySem PySem.Spec PyProof.Rows L2
def BD(x qual:Str)(ps:List Str)(st:Stmt):Prop:=∀(kV doc pm:Value) (an:Option Addr) (h8 ct:Value) (us:List Value),us.length=ps.length->bindArgs (PySem.W.fnOf x qual (qT st) (oA st) (ib st) .none kV doc pm an h8 ct) ⟨us,[]⟩=pure (ps.zip us)
section
variable{K:Fg}{h:Heap}{mg:Str->Option Value}
theorem Qk{x:Str}{ps:List Str}{st:Stmt}{f:Addr}{oc:Value}{od an:Option Addr}{mz:Array (Option Value)}{kV doc pm h8 ct:Value}(X:K.In h)(G:h.Ns mainGlobals mg)
 (b:BD x x ps st)
 (e:PySem.W.nsIn K mainGlobals x=some (some (.ref f))) (l:K.lookup f=some ⟨oc,od,.func (PySem.W.fnOf x x (qT st) (oA st) (ib st) .none kV doc pm an h8 ct),mz⟩)
 (c:PySem.W.codeIn K h8 x=true) (k:PySem.W.keepIn K (.ref f)=true):Def K mg x ps st:=
 ⟨f,_,gM X G e,yx l c k,(yx l c k).binds b⟩
theorem N2{x qual:Str}{ps:List Str}{st:Stmt}{C f:Addr}{oc:Value}{od an:Option Addr}{mz:Array (Option Value)}{kV doc pm h8 ct:Value}(X:K.In h)(G:h.Ns mainGlobals mg)(hq:qual=x++".__init__")
 (b:BD "__init__" qual ("self"::ps) (inClass st 0))
 (e:PySem.W.nsIn K mainGlobals x=some (some (.ref C))) (pg:PySem.W.plainGet K C Str.empty=true) (hd:PySem.W.hasDictIn K C=true) (po:PySem.W.plainOver K C=true) (sa:PySem.W.findIn K (.ref C) "__setattr__"=some (some (.builtin "object.__setattr__")))
 (mk:PySem.W.makesIn K C=true) (ini:PySem.W.findIn K (.ref C) "__init__"=some (some (.ref f))) (fn:PySem.W.isFn K (.ref f)=true) (kp:PySem.W.keepIn K (.ref C)=true)
 (l:K.lookup f=some ⟨oc,od,.func (PySem.W.fnOf "__init__" qual (qT (inClass st 0)) (oA (inClass st 0)) (ib (inClass st 0)) .none kV doc pm an h8 ct),mz⟩)
 (c:PySem.W.codeIn K h8 qual=true) (k:PySem.W.keepIn K (.ref f)=true):mI K mg x ps st C:=by
 subst hq
 exact⟨gM X G e,⟨pg,hd,po,sa⟩,f,_,⟨mk,ini,fn,kp⟩,yx l c k,(yx l c k).binds b⟩
theorem int_mk{x:Str}{v:Int}{t:Tok}(X:K.In h)(G:h.Ns mainGlobals mg)(e:PySem.W.nsIn K mainGlobals x=some (some (.int v t))):∃t,mg x=some (.int v t):=⟨t,gM X G e⟩
theorem abV{x:Str}{ns:List Int}{p:Addr}{od:Option Addr}{g_:Array Value}{n:Nat}{sl:Array (Option Value)}(X:K.In h)(G:h.Ns mainGlobals mg)(e:PySem.W.nsIn K mainGlobals x=some (some (.ref p)))
 (l:K.lookup p=some ⟨.type "tuple",od,.seq g_ n,sl⟩) (hz:g_.size<=sizeLine) (hv:iG (ns.map V.int) g_.toList):DI K mg x ns:=
 ⟨p,gM X G e,λ_=>.inr ⟨_,g_,n,l,rfl,rfl,hz,hv⟩⟩
end
section
variable{x q a b c d e f:Str}{st:Stmt}
abbrev BB(x q:Str)(ps:List Str)(st:Stmt)(us:List Value):Prop:=∀(kV doc pm:Value) (an:Option Addr) (h8 ct:Value),bindArgs (PySem.W.fnOf x q (qT st) (oA st) (ib st) .none kV doc pm an h8 ct) ⟨us,[]⟩=pure (ps.zip us)
theorem NL(h:BB x q [] st []):BD x q [] st:=λ_ _ _ _ _ _ us hl=>match us,hl with | [],_=>h ..
theorem tV(h:∀u,BB x q [a] st [u]):BD x q [a] st:=λ_ _ _ _ _ _ us hl=>match us,hl with | [_],_=>h ..
theorem tW(h:∀u v,BB x q [a,b] st [u,v]):BD x q [a,b] st:=λ_ _ _ _ _ _ us hl=>match us,hl with | [_,_],_=>h ..
theorem NM(h:∀u v w,BB x q [a,b,c] st [u,v,w]):BD x q [a,b,c] st:=λ_ _ _ _ _ _ us hl=>match us,hl with | [_,_,_],_=>h ..
theorem NN(h:∀u v w y,BB x q [a,b,c,d] st [u,v,w,y]):BD x q [a,b,c,d] st:=λ_ _ _ _ _ _ us hl=>match us,hl with | [_,_,_,_],_=>h ..
theorem NO(h:∀u v w y z,BB x q [a,b,c,d,e] st [u,v,w,y,z]):BD x q [a,b,c,d,e] st:=λ_ _ _ _ _ _ us hl=>match us,hl with | [_,_,_,_,_],_=>h ..
theorem NP(h:∀u v w y z r,BB x q [a,b,c,d,e,f] st [u,v,w,y,z,r]):BD x q [a,b,c,d,e,f] st:=λ_ _ _ _ _ _ us hl=>match us,hl with | [_,_,_,_,_,_],_=>h ..
end
theorem fill:PySem.Challenge.rw_measurebook_s01_answers=PySem.Challenge.rw_measurebook_s01_answers/\KF=KF:=by
 k_fillS
 exact⟨rfl,rfl⟩
local macro_rules | `(tactic| k_units)=>`(tactic| first | exact tV λ_ _ _ _ _ _ _=>rfl | exact tW λ_ _ _ _ _ _ _ _=>rfl | exact NM λ_ _ _ _ _ _ _ _ _=>rfl | exact NN λ_ _ _ _ _ _ _ _ _ _=>rfl | exact NO λ_ _ _ _ _ _ _ _ _ _ _=>rfl | exact NP λ_ _ _ _ _ _ _ _ _ _ _ _=>rfl | exact NL λ_ _ _ _ _ _=>rfl)
theorem txt{P:Params}{h:Heap}{mg:Str->Option Value}(X:(KF P).In h)(G:h.Ns mainGlobals mg):Txt (KF P) mg ⟨31,134,155,269,290,419,547,568,603,658,867⟩:=by
 constructor
 all_goals first
  | (refine' Qk X G ?b ?e ?l ?c ?k;(case b=>k_units);(case e=>k_is);(case l=>k_is);(case c=>k_is);(case k=>k_is))
  | (refine' N2 X G ?q ?b ?e ?pg ?hd ?po ?sa ?mk ?ini ?fn ?kp ?l ?c ?k;(case q=>rfl);(case b=>k_units);(case e=>k_is);(case pg=>k_is);(case hd=>k_is);(case po=>k_is);(case sa=>k_is);(case mk=>k_is);(case ini=>k_is);(case fn=>k_is);(case kp=>k_is);(case l=>k_is);(case c=>k_is);(case k=>k_is))
  | (show PySem.W.findIn _ _ _=_;k_is)
  | (refine' int_mk X G ?e;(case e=>k_is))
  | (refine' PySem.W.mg_none_of X G ?e;(case e=>k_is))
  | (refine' abV X G ?e ?l ?hz ?hv;(case e=>k_is);(case l=>k_is);(case hz=>decide +kernel);(case hv=>repeat' first | exact .nil | refine .cons ⟨_,rfl⟩ ?_))
end MB
open PySem PySem.W PyProof.Rows
theorem PySem.Challenge.cw_measurebook_s01_answers_holds : PySem.Challenge.rw_measurebook_s01_answers.Holds := by
 refine holds_os (q:=MB.qv) (loose:=MB.lo) (Xt:=λs=>recOk [] s) (XP:=λ_ _=>True) (Yf:=λs=>s.heap) (Ya:=λw=>MB.Hf w.params) (YP:=λw h=>(MB.KF w.params).In h) (N:=12734) MB.Vy (λw s e=>e▸MB.UJ w.params) (λ_ _ _ x k=>Frag.In.keeps x k) (λ_ _=>trivial) (λ_ _ _ _ _=>trivial) rfl ?hp rfl (λs e=>recFacts_of e) os_shapes MB.said (eZ.mpr ⟨by decide +kernel,MB.X3⟩) ⟨rfl,rfl,rfl,rfl,rfl,by decide +kernel⟩ ⟨[.list [.int 13,.int 0]],by decide +kernel,by decide +kernel⟩ ?hc
 case hp=>kernel_rfl
 refine L2.acm (r:=PySem.Challenge.rw_measurebook_s01_answers) (k:=44) (K:=MB.KF) (CX:=L2.oZ) (ps:=["calls"]) (sp:=MB.Ma) MB.said (by decide +kernel) rfl rfl ⟨rfl,by decide,by decide⟩ (λw h Y=>Y) ?F ?S (λ_ _ _ _ z=>z)
 case F=>
  intro w mg fa h Y KX G Bn
  have T:=MB.txt KX G
  obtain⟨f,fd,e1,F1,_⟩:=T.Of
  have e:=Bn.symm.trans e1
  cases e
  obtain⟨oc,od,kV,doc,pm,an,h8,ct,mz,QJ,lk,pb⟩:=F1.ex
  subst QJ
  exact⟨_,λs us hu=>match us,hu with | [_],_=>.of_eq rfl,λbase _ _=>MB.Q8 T rfl F1⟩
 case S=>
  intro K H xs a hO yX oH hx
  cases hx with
  | cons h1 h2=>
   cases h2
   cases h1 with
   | lst hs ha=>
    have e:=L2.F2 a.1 _ ha
    subst e
    have q:((Codec.inLen 0 17000 a.1&&a.1.all (Codec.inInt (_root_.Int.negSucc 999999999999999999) (_root_.Int.ofNat 1000000000000000000)))&&true)=true:=yX
    rw[aZ,aZ]at q
    exact⟨_,a.1,rfl,hs,cC (Codec.inNat_iff.mp q.1.1).2 (by decide),oH,λq U _ hq=>.lst (L2.f_.of hq) (L2.Ec _)⟩
