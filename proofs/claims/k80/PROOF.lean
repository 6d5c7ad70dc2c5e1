import PyProof.Rows.All
import Wide.All
import OpenK.AllK
import Wide.FinOn
import Lean
import PyProof.EqAt
import PyProof.EqKinds
import PyProof.NeKinds
import PyProof.TupleCall
import PySem.Challenge.RW_rinsework_k80_house_not_made
set_option Elab.async false
set_option linter.all false
set_option maxRecDepth 100000
namespace PySem.W.Fast
def tw10088876519922597241:=0
def tw12377041906227754049:=0
def tw13446311794124763863:=0
def tw15098270029972922383:=0
def tw16071621641365794542:=0
def tw16502125656316395269:=0
def tw16624841233173720594:=0
def tw18149548433144550682:=0
def tw18419398280837231349:=0
def tw2704821471091906412:=0
def tw5303700390088160311:=0
def tw691972983082570039:=0
def tw8131545069494939387:=0
def tw8560509011978218009:=0
def tw8754392199905722635:=0
def tw945096974722914057:=0
def tw9528861093951652616:=0
def tw16924304719622031804:=0
def tw1344822358418907224:=0
def tw9399931162435173512:=0
def tw8309382516095301329:=0
def tw8451544869788864734:=0
def tw3194556375960664268:=0
def tw300463279561124699:=0
def tw16613230168111185240:=0
def tw17950987900981813738:=0
def tw2659767965031512460:=0
def tw7904552589692130881:=0
def tw14958409736284286375:=0
def tw2443070558547300165:=0
def tw8964269158782711359:=0
def tw9426174408518114611:=0
def tw14554784915269601444:=0
def tw4006759471700095374:=0
def tw15753064262027690636:=0
def tw9787669058866383280:=0
def tw1897861254796401877:=0
def tw8590345587894553225:=0
def tw15306905292179990633:=0
def tw17027686662190517742:=0
def tw5516735138866382087:=0
def tw7686721590182337026:=0
def tw12698578648506467543:=0
def tw4846653547483915047:=0
def tw3405973897731304333:=0
def tw16223846925435755720:=0
def tw14526898981703381337:=0
def tw9061394468971549540:=0
def tw15309686207872715397:=0
def tw15370360809556416761:=0
def tw16125896315439446142:=0
def tw1531775463353009252:=0
def tw14699275994117176093:=0
def tw16886115693478792603:=0
def tw9087740202889187592:=0
def tw1038436443969520614:=0
def tw4045766029439825674:=0
def tw7634780265512829222:=0
def tw6450504433634516015:=0
def tw18322782659874808083:=0
def tw7797907766321786279:=0
def tw1402803207930733283:=0
def tw52377023686460812:=0
def tw12608842502986670365:=0
def tw1594626579660209474:=0
def tw14984801510997124561:=0
def tw1733801349941184867:=0
def tw14130449311589644636:=0
def tw9801357234459176671:=0
def tw7130897485792310347:=0
def tw18208864833511510572:=0
def tw478313660961865810:=0
def tw15870705597663480366:=0
def tw14878425138565450724:=0
def tw4277349235912218436:=0
def tw1000506915786731969:=0
def tw3335961378750429942:=0
def tw2364202761130577202:=0
def tw9806277713221420062:=0
def tw8782539187703854806:=0
def tw18266786246601172815:=0
def tw2298639213573259530:=0
def tw11755316381430004302:=0
def tw15941720567957134933:=0
def tw9246682428472546943:=0
def tw6351313860269779923:=0
def tw15300238202697622883:=0
def tw18365855015842809202:=0
def tw16672142425031481299:=0
def tw5775531857546547262:=0
def tw1695142269325575297:=0
def tw15750821475921954527:=0
def tw18118945374286089642:=0
def tw3940233791771352931:=0
def tw5256790127884867213:=0
def tw13163201474486316989:=0
def tw13188829594268049564:=0
def tw10505505534220828389:=0
def tw6669823953706228667:=0
def tw4964981317138617847:=0
def tw11048149331675625088:=0
def tw12041358470474511564:=0
def tw6747241456300339568:=0
def tw764837772096809617:=0
def tw14891283144054222989:=0
def tw10999873771810121723:=0
def tw1193037049407712411:=0
def tw17935769725503686577:=0
def tw14899001502240453768:=0
def tw185572907477813004:=0
def tw10447863445387756059:=0
def tw12305698576347254679:=0
def tw4873270063400514388:=0
def tw4068866936651044938:=0
def tw841481789316806974:=0
def tw12838385429900302909:=0
def tw2976255965738585015:=0
def tw3811269777442173528:=0
def tw18005493840982157778:=0
def tw2719443905900309201:=0
def tw4538504565233001368:=0
def tw10475100066257232567:=0
def tw11771660212130065500:=0
def tw11218798893759012026:=0
def tw4277590292087016404:=0
def tw5572514912201885287:=0
def tw6544279558344107032:=0
def tw11097329844454390296:=0
def tw11184069229681073586:=0
def tw9418471806769080291:=0
def tw1548899334442774305:=0
def tw11424619990371612919:=0
def tw10750717505472815842:=0
def tw6395499800261051102:=0
def tw5066888960801303312:=0
def tw10889643047388800787:=0
def tw14499776349182378873:=0
def tw4644396429166338220:=0
def tw10333456655850546762:=0
def tw14941802713482886983:=0
def tw4045788812529545004:=0
def tw4198967336458379615:=0
def tw9413421413989642612:=0
def tw620172701253919967:=0
def tw6155180232435645009:=0
def tw3161637175380711767:=0
def tw8035112606322110528:=0
def tw14601346641390727842:=0
def tw17170570403343115269:=0
def tw10369285995766611748:=0
def tw11146264043233826556:=0
def tw3990085631307377711:=0
def tw7769903236933002269:=0
def tw6535686819294550476:=0
def tw7438421288605622341:=0
def tw8793815533621196145:=0
def tw4987447030923226556:=0
def tw11324863888873694899:=0
def tw17193020237399004736:=0
def tw16267557699399489532:=0
def tw4832044029852952065:=0
def tw12719274400008538569:=0
def tw14644509055493742254:=0
def tw13709144566060184450:=0
def tw256879023486987149:=0
def tw2676209029008893097:=0
def tw7010265011143766274:=0
def tw4386350430444687652:=0
def tw13282942515448454047:=0
def tw8074159956092407545:=0
def tw89322791539156488:=0
def tw10438227925351340499:=0
def tw336230711253116569:=0
def tw13795441841083497869:=0
def tw6813777372050574703:=0
def tw4759430723124041240:=0
def tw7141175939173635248:=0
def tw11505596224065476980:=0
def tw5640322220683930821:=0
def tw226875583077311543:=0
def tw9469349186955097191:=0
def tw5062834933291378763:=0
def tw14891694506503649056:=0
def tw2748129060494159347:=0
def tw18430229887999419774:=0
def tw9670178580492155802:=0
def tw8929046534470460010:=0
def tw12096149908362833671:=0
def tw16260667640015385077:=0
def tw517447629560319052:=0
def tw6404556036374157862:=0
def tw18243411739528797428:=0
def tw13324033799565120906:=0
def tw11028706542992481445:=0
def tw14525864730289621996:=0
def tw17823175047902166087:=0
def tw6207509182716312476:=0
def tw11051406796644822227:=0
def tw17535192002910469435:=0
def tw13847086074068841185:=0
def tw14718987006767062893:=0
def tw14057929534490570653:=0
def tw15483618725723704907:=0
def tw16950055537951982499:=0
def tw5492804353841924644:=0
def tw879379886210016161:=0
def tw7371901499241987630:=0
def tw15413921151985889370:=0
def tw13803273511656109186:=0
def tw3666982645446281607:=0
def tw8129072295441934577:=0
def tw10607808977558680413:=0
def tw3800057382222449124:=0
def tw9982097918654700296:=0
def tw9428809987982274479:=0
def tw12369312272391137546:=0
def tw14005455251100659401:=0
def tw11447637895660994406:=0
def tw3049302141244780537:=0
def tw15806014262495606572:=0
def tw6042709880831494874:=0
def tw3714939742473878198:=0
def tw14320123496769695638:=0
def tw10406995256405455768:=0
def tw6455240957453462940:=0
def tw17648982063958087105:=0
def tw13177786565255045763:=0
def tw10354487339606747723:=0
def tw2519521385579181001:=0
def tw16829723927875967169:=0
def tw2654811290276881858:=0
def tw17599334833566696374:=0
def tw8734795343641148566:=0
def tw14443868126751825271:=0
def tw6882887239987191009:=0
def tw11763943217750012376:=0
def tw12815875456393775776:=0
def tw4331672495646755722:=0
def tw6514079026837622706:=0
def tw9661792239720210500:=0
def tw15250451149890402239:=0
def tw14223204977951886049:=0
def tw1037541884853686124:=0
def tw4347698933455953391:=0
def tw5565402413466138717:=0
def tw9761350464307183159:=0
def tw1427129301484405527:=0
def tw14325411244232658477:=0
def tw13247020832540461554:=0
def tw14864813532765625781:=0
def tw2978942085407564501:=0
def tw8935199838183443426:=0
def tw6255273870211133744:=0
def tw6955086891110339500:=0
def tw11899518458450042639:=0
def tw730812273848417649:=0
def tw4099577394466685160:=0
def tw2632366229705895692:=0
def tw18351457289407518167:=0
def tw1775535581234974279:=0
def tw16666296975407751692:=0
def tw7796104512595476478:=0
def tw2577811027647649153:=0
def tw2041405335088858149:=0
def tw17705699222624485163:=0
def tw18234988963242875348:=0
def tw15588872180237859518:=0
def tw15734878993124594:=0
def tw7236649197668891287:=0
def tw9382853444635047020:=0
def tw11585873881950711346:=0
def tw10489110229929632483:=0
def tw2557966433907300217:=0
def tw12633007578468351678:=0
def tw12911738543729798104:=0
def tw13621572203081686428:=0
def tw8733072917267172539:=0
def tw16788411758499682336:=0
def tw13501066780871943006:=0
def tw2734694872728449155:=0
def tw16624810366454305217:=0
def tw18422110894253792251:=0
def tw10119961778481050297:=0
def tw8554949320998834009:=0
def tw2726940181198431453:=0
def tw2876755384224299124:=0
def tw5581978793864677869:=0
def tw418598219664222435:=0
def tw8938776251423000542:=0
def tw11869429250164506642:=0
def tw2116848513143686732:=0
def tw13664130595433716437:=0
def tw8697221671108390062:=0
def tw13606184322944139106:=0
def tw16022290883776162546:=0
def tw18160926985429254907:=0
def tw3345107914120666173:=0
def tw8882649525573057951:=0
def tw11985748238212422769:=0
def tw252888465898084739:=0
def tw10971438670682663222:=0
def tw17636802204795901325:=0
def tw12819535240771114837:=0
def tw3442152984028118227:=0
def tw14348238098477703620:=0
def tw16395533375631253240:=0
def tw3411651595431631524:=0
def tw17868931935367345047:=0
def tw10300825496469511588:=0
def tw402309643928436051:=0
def tw3295594546796171430:=0
def tw5608655394654885916:=0
def tw13641443862170959796:=0
def tw11253046188926846055:=0
def tw9737528442266739925:=0
def tw12522251033630212093:=0
def tw7165502455580445691:=0
def tw5735282221437248978:=0
def tw7168645509850268447:=0
def tw17387492667126120526:=0
def tw2048256857875609514:=0
def tw5169411802604965497:=0
def tw1212815716340951477:=0
def tw17271826478966794384:=0
def tw18114810510738625597:=0
def tw7025886415166564472:=0
def tw13062828662578524189:=0
def tw15327399298874727612:=0
def tw2535467874059529974:=0
def tw5617421597407258399:=0
def tw10028204282112977342:=0
def tw1687068853090320162:=0
def tw5925843722608585916:=0
def tw6429160040289441742:=0
def tw153651028034122426:=0
def tw43154843419561525:=0
def tw4802167310731037845:=0
def tw15197850735133762821:=0
def tw6721909233335608403:=0
def tw11373590044525310521:=0
def tw9742137591276651073:=0
def tw7447217035535567917:=0
def tw441136810884686496:=0
def tw2313511077403900658:=0
def tw4497869098899829966:=0
def tw1836652465209654520:=0
def tw15800502894037874701:=0
def tw6655112951015209351:=0
def tw15782775694936000378:=0
def tw1661149072360887768:=0
def tw585559904862662301:=0
def tw14260532698445569923:=0
def tw3985152859481057936:=0
def tw8279913331963517100:=0
def tw15016807124601387119:=0
def tw13657549180713311798:=0
def tw8820155675522125754:=0
def tw2029057813785551054:=0
def tw13036443504887821933:=0
def tw16273505837438255311:=0
def tw11080731262383737684:=0
def tw15455655835193639385:=0
def tw8081397380132437267:=0
def tw2367899409292294523:=0
def tw7929566865633151338:=0
def tw15533756134095326093:=0
def tw8397548231282449626:=0
def tw6757386781095656550:=0
def tw14677041679724329164:=0
def tw9075319150377938257:=0
def tw504488767098543046:=0
def tw10946152153559721839:=0
def tw5491221385777084384:=0
def tw1249735743014217174:=0
def tw7507364790608377773:=0
def tw4154392698354270516:=0
def tw13729615416899031161:=0
def tw2590228654913598162:=0
def tw18136470949443680721:=0
def tw3043931035406536602:=0
def tw13804418653965943308:=0
def tw3761999319544453823:=0
def tw6663267448818796945:=0
def tw4883791153105033348:=0
def tw6905322916123540152:=0
def tw16237317942939326625:=0
def tw11368568887927420400:=0
def tw4171332224131384747:=0
def tw5933448975324038025:=0
def tw10031564643950882246:=0
def tw9255935756631116628:=0
def tw1834071293960675864:=0
def tw13739445024194232817:=0
def tw3062639912117714337:=0
def tw1714537741180695038:=0
def tw11406617862831046636:=0
def tw308696316157583137:=0
def tw8453819380998762082:=0
def tw17818432171541137746:=0
def tw8118739486462534240:=0
def tw1261362516844512440:=0
def tw4643086476307632250:=0
def tw8798404340375130741:=0
def tw12102581090358033031:=0
def tw16078005493751049884:=0
def tw3657096347224163086:=0
def tw734098682801091562:=0
def tw17405119805357311193:=0
def tw12314164539429764115:=0
def tw1646471394079851422:=0
def tw3021442569502467186:=0
def tw6495686480507223526:=0
def tw6299881225950427861:=0
def tw9830709495688295285:=0
def tw17516647150069457051:=0
def tw6716224472232345376:=0
def tw16159605340959896161:=0
def tw10502570380890186843:=0
def tw5784223583819871276:=0
def tw13536368738749864033:=0
def tw12207772794592722822:=0
def tw6210487831639693397:=0
def tw3776077552766824185:=0
def tw7267875048420004403:=0
def tw13874455014920378728:=0
def tw12262687948476985926:=0
def tw1007649188191321752:=0
def tw11157164971915414276:=0
def tw16103204631423674973:=0
def tw303139553878866546:=0
def tw16000663716384273482:=0
def tw3933011508957435422:=0
def tw13452217033847621834:=0
def tw16226638878433729535:=0
def tw15169387739876234707:=0
def tw10117338002616054009:=0
def tw9673751034510187054:=0
def tw3978043837818928039:=0
def tw35223432204230424:=0
def tw7682173032013004230:=0
def tw1322785783537481780:=0
def tw16218858531835554597:=0
def tw10076439837219421539:=0
def tw5864170454424416215:=0
def tw13680352032768223535:=0
def tw2241542007784965812:=0
def tw9656925916636104748:=0
def tw5521075168943596712:=0
def tw3852539841947773732:=0
def tw293555696290789087:=0
def tw3849475946367045511:=0
def tw8811159975097188395:=0
def tw10913273042898963735:=0
def tw16531962208364422834:=0
def tw7201306479210966783:=0
def tw11922618559658969289:=0
def tw1032728129279587486:=0
def tw15521993623340458121:=0
def tw6820263203370763199:=0
def tw14353423136522230733:=0
def tw14679256488676322938:=0
def tw1469955298023370494:=0
def tw10712499762291248437:=0
def tw8449393037972564530:=0
def tw838947284727157965:=0
def tw6604533857767220413:=0
def tw15833760547342686913:=0
def tw7437880404380031193:=0
def tw12276422914341934988:=0
def tw17453061958004438755:=0
def tw15635575902383166978:=0
def tw15271433748284701614:=0
def tw16540263963938136004:=0
def tw5598289924271351265:=0
def tw17761357133323039258:=0
def tw13358504461075441691:=0
def tw6585196086970904834:=0
def tw9480664008009050843:=0
def tw10886934312611399937:=0
def tw73305908406810269:=0
def tw3834263061356166292:=0
def tw7493675914923676549:=0
def tw363940693537534591:=0
def tw91181618326167532:=0
def tw12196692277324837651:=0
def tw8953208601107392381:=0
def tw16550817293165212699:=0
def tw3893774238642444590:=0
def tw3434503808470215351:=0
def tw4411652685566673244:=0
def tw6159171192742062612:=0
def tw5766527544026009352:=0
def tw14665773140368662613:=0
def tw16303310069437974921:=0
def tw7342055983354478037:=0
def tw11661425420383023296:=0
def tw15246188908661987122:=0
def tw12020959994555001297:=0
def tw12123417473842728068:=0
def tw13022287073118557567:=0
def tw17380655218117810546:=0
def tw13917651173094148971:=0
def tw4774490605960163597:=0
def tw1759144354519443364:=0
def tw17585491722574508118:=0
def tw13927698412533473923:=0
def tw11799645047098362764:=0
def tw8781501400627902360:=0
def tw14801736081929814645:=0
def tw5041894299504899003:=0
def tw2255765091345240197:=0
def tw8056788264133413428:=0
def tw3247139624690826971:=0
def tw5823506553622067124:=0
def tw9172237720410802149:=0
def tw14877125517672243047:=0
def tw6877667848996642818:=0
def tw11265812954364340913:=0
def tw5800240540690577239:=0
def tw2222157869405200406:=0
def tw15473072435210341547:=0
def tw3223612374868910264:=0
def tw10494934282319174946:=0
def tw6643165311256086683:=0
def tw3312041720249811767:=0
def tw17561705575115717508:=0
def tw1611401414946033931:=0
def tw14624201051526317210:=0
def tw13299357337004608306:=0
def tw2647877648821392724:=0
def tw13287974996006081601:=0
def tw16243176517589606036:=0
def tw9978370250128373940:=0
def tw8234364671462663170:=0
def tw16506458548379007774:=0
def tw16651853546186069795:=0
def tw14468375276598002659:=0
end PySem.W.Fast
abbrev yZ:=@List.length_map
abbrev yY:=@PySem.wpAny_bind
abbrev yW:=@List.size_toArray
abbrev yV:=@Bool.false_ne_true
abbrev yU:=@PySem.Heap.get?_push_of_some
abbrev yT:=@List.mem_cons_of_mem
abbrev yS:=@Nat.le_refl
abbrev yR:=@List.mem_cons_self
abbrev yQ:=@PySem.Heap.lt_size
abbrev yP:=@PySem.wpAny_pure
abbrev yO:=@List.mem_singleton
abbrev yN:=@List.getElem?_map
abbrev yM:=@Option.bind_some
abbrev yL:=@decide_eq_false
abbrev yK:=@List.getElem?_set
abbrev yJ:=@List.mem_cons
abbrev yI:=@Option.map_eq_some_iff
abbrev yH:=@Nat.ne_of_lt
abbrev yG:=@List.not_mem_nil
abbrev yF:=@List.map_cons
abbrev yE:=@Nat.lt_of_lt_of_le
abbrev yD:=@List.length_append
abbrev yC:=@List.append_nil
abbrev yB:=@List.mem_append
abbrev yA:=@List.getElem?_eq_getElem
abbrev yz:=@List.length_cons
abbrev yy:=@List.mem_append_right
abbrev yx:=@List.map_append
abbrev yw:=@List.length_set
abbrev yv:=@List.getElem?_eq_some_iff
abbrev yu:=@PySem.Heap.get?_push_size
abbrev yt:=@Bool.and_eq_true
abbrev yr:=@List.getElem?_set_ne
abbrev yq:=@List.map_map
abbrev yp:=@List.mem_map
abbrev yo:=@decide_eq_true
abbrev yn:=@List.getElem_mem
abbrev ym:=@List.getElem_toArray
abbrev yk:=@List.nodup_cons
abbrev yj:=@Int.emod_lt_of_pos
abbrev yi:=@of_decide_eq_true
abbrev yh:=@PySem.Heap.get?_none_of_le
abbrev yg:=@List.mem_append_left
abbrev yf:=@List.drop_eq_getElem_cons
abbrev ye:=@Int.emod_nonneg
abbrev yd:=@Nat.le_trans
abbrev yc:=@List.lookup_cons
abbrev yb:=@List.getD_eq_getElem?_getD
abbrev ya:=@List.mem_filterMap
abbrev uZ:=@Nat.zero_le
abbrev uY:=@List.all_eq_true
abbrev uX:=@List.getElem?_set_self
abbrev uW:=@PySem.Heap.get?_update_other
abbrev uV:=@List.replicate_succ
abbrev uU:=@Nat.lt_irrefl
abbrev uT:=@List.mem_of_getElem?
abbrev uS:=@List.append_assoc
abbrev uR:=@List.mem_map_of_mem
abbrev uQ:=@Nat.le_of_lt
abbrev uP:=@Array.getElem?_eq_some_iff
abbrev uO:=@List.drop_length
abbrev uN:=@List.getElem?_append_left
abbrev uM:=@List.find?_cons
abbrev uL:=@Option.map_some
abbrev uK:=@List.getElem_of_mem
abbrev uJ:=@List.getElem?_append_right
abbrev uI:=@List.flatten_cons
abbrev uH:=@List.mem_range
abbrev uG:=@List.getElem?_replicate
abbrev uF:=@List.length_eq_zero_iff
abbrev uE:=@Int.eq_ofNat_of_zero_le
abbrev uD:=@Bool.false_eq_true
abbrev uC:=@Nat.lt_of_le_of_lt
abbrev uB:=@Nat.le_succ
abbrev uA:=@Int.toNat_natCast
abbrev uz:=@PySem.Heap.get?_update_self
abbrev uy:=@List.nodup_nil
abbrev ux:=@Nat.lt_succ_self
abbrev uw:=@List.length_drop
abbrev uu:=@Option.getD_none
namespace Nk
open PySem
variable{a b:Addr}{h:Heap}{Q:Bool->Shared->Prop}
variable {P:Program}{w:World}{K L:Type}[DecidableEq K][DecidableEq L](B:HeapKind P w K)(kd:KeyKind P w L)
def IsP (h:Heap)(x:K×List L)(a:Addr):Prop:=∃ o c vs n,h.get? a=some o/\o.cls = .type "tuple"/\o.data = .seq (Value.ref c::vs).toArray n/\B.is h x.1 c/\ItemsAre kd x.2 vs
variable {B kd}
theorem IsP.ty {s:Shared}{x:K×List L}(p:IsP B kd s.heap x a):s.TypeIs (.ref a) "tuple":=by obtain ⟨o,_,_,_,e,f,_⟩:=p;exact ⟨o,e,f⟩
theorem IsP.inj {x y:K×List L}(p:IsP B kd h x a)(q:IsP B kd h y a):x=y:=by obtain ⟨o,c,vs,n,e1,_,e2,b1,i1⟩:=p;obtain ⟨o',c',vs',n',f1,_,f2,b2,i2⟩:=q;rw [e1] at f1;cases f1;rw [e2] at f2;injection f2 with g _;have g:Value.ref c::vs=Value.ref c'::vs':=congrArg Array.toList g;injection g with g1 g2;injection g1 with g1;subst g1 g2;exact Prod.ext (B.inj b1 b2) (i1.inj i2)
theorem IsP.keeps {h':Heap}{x:K×List L}{d:Addr}{o:Obj}{es ep}(p:IsP B kd h x a)(e:h.get? d=some o)(f:o.data = .dict es ep)(k:Heap.SameBut d h h'):IsP B kd h' x a:=by
 obtain ⟨o',c,vs,n,e1,e2,e3,b,i⟩:=p;have ne:a≠d:=λz=>by subst z;rw [e] at e1;cases e1;rw [f] at e3;cases e3
 exact ⟨o',c,vs,n,(k.2 a ne).trans e1,e2,e3,B.keeps b e f k,i⟩
def Yk (B:HeapKind P w K)(kd:KeyKind P w L)(x:K×List L):Int:=reduceHash (Builtin.Tuple.tupleHashOf (B.hash x.1::x.2.map kd.hash))
variable {A:Around}{E:Value->Shared->Prop}{s:Shared}
theorem Bf {x:K×List L}{Q:Int->Shared->Prop}(hu:A.units<cLine)(hB:∀ A':Around,A'.units<=A.units+1->B.room A')(p:IsP B kd s.heap x a)(h:Q (Yk B kd x) { s with toks:=s.toks+(B.draws x.1+x.2.length+1) }):wpAny (model P w) A (pyHash (.ref a)) Q E s:=by
 have T:=p.ty;obtain ⟨o,c,vs,n,e1,e2,e3,b,i⟩:=p;obtain ⟨k,ls⟩:=x;unfold pyHash
 first|unfold pyHashByItsType|skip
 first|refine yY (wpAny_cRoomFor_or (.inr hu) ?_)|skip
 refine yY (wpAny_specialOf T F.slot_tuple_hash.lookup ?_);rw [if_neg (by rw [beq_builtin_none];exact yV)];refine yY (wpAny_specialOf T F.slot_tuple_hash.lookup ?_);refine yY (wpAny_callSpecialIfBoundUnlessNone?_slot T F.slot_tuple_hash (wpAny_call_entry F.slot_tuple_hash T F.entry_tuple_hash ?_ (F.args_tuple_hash_1 _)))
 change wpAny _ _ (Bind.bind (Builtin.Tuple.tupleItemsOf (Value.ref a)) _) _ _ _
 refine yY (wpAny_tupleItemsOf e1 e3 (yY ?_));rw [<- Array.forIn_toList];refine wpAny_forIn_list _ (λr (z:Array Int) t=>(r=Value.ref c::vs/\z=#[]/\t=s)∨∃ d l,ls=d++l/\ItemsAre kd l r/\z.toList=B.hash k::d.map kd.hash/\t={ s with toks:=s.toks+(B.draws k+d.length) }) _ ?_ ?_ _ _ (.inl ⟨rfl,rfl,rfl⟩)
 ·rintro v r z t (⟨q1,rfl,rfl⟩|⟨d,l,rfl,q1,q2,rfl⟩)
  ·injection q1 with q1 q2;subst q1 q2;refine yY (B.pyHash (hB _ (yS _)) b ?_)
   first
    |exact yP (.inr ⟨[],ls,rfl,i,rfl,rfl⟩)
    |exact yY (yP (yP (.inr ⟨[],ls,rfl,i,rfl,rfl⟩)))
  ·cases q1 with
   |@cons k' _ l' _ g g' =>
    have en:({ s with toks:=s.toks+(B.draws k+d.length)+1 }:Shared)={ s with toks:=s.toks+(B.draws k+(d++[k']).length) }:=by rw [yD];rfl
    refine yY (kd.pyHash g ?_)
    first
     |exact yP (.inr ⟨d++[k'],l',by rw [uS];rfl,g',by simp [q2],en⟩)
     |exact yY (yP (yP (.inr ⟨d++[k'],l',by rw [uS];rfl,g',by simp [q2],en⟩)))
 ·rintro z t (⟨q1,_⟩|⟨d,l,rfl,q1,q2,rfl⟩)
  ·cases q1
  ·cases q1;rw [yC] at h;have hd:Builtin.Tuple.tupleHashOf z.toList=Builtin.Tuple.tupleHashOf (B.hash k::d.map kd.hash):=by rw [q2]
   have h':Q (reduceHash (Builtin.Tuple.tupleHashOf z.toList)) { s with toks:=s.toks+(B.draws k+d.length)+1 }:=by rw [hd];exact h
   clear h hd;refine wpAny_ret_mkInt ?_;generalize Builtin.Tuple.tupleHashOf z.toList=N at h' ⊢
   change wpAny _ _ (ite (and (decide (-(2:Int) ^ 63<=N)) (decide (N<2 ^ 63))=true) _ _) _ _ _
   unfold reduceHash at h';split
   next z1=>rw [if_pos z1] at h';exact yP h'
   next z1=>rw [if_neg z1] at h';exact yY (wpAny_rule (yP h'))
theorem KI {x y:K×List L}{Z:Fin->Shared->Prop}(hB:B.room A)(p:IsP B kd s.heap x a)(q:IsP B kd s.heap y b)(h:Z (.done (.ret (.bool (decide (x=y))))) s):wpAny (model P w) A (Builtin.«tuple.__eq__» ⟨[.ref a,.ref b],[]⟩) Z E s:=by
 have T:=q.ty;obtain ⟨o,c,vs,n,e1,e2,e3,b1,i1⟩:=p;obtain ⟨o',c',us,n',f1,f2,f3,b2,i2⟩:=q;obtain ⟨k,ls⟩:=x;obtain ⟨k',ls'⟩:=y
 change wpAny _ _ (Bind.bind (isInstance (Value.ref b) (Value.type "tuple")) _) _ _ _
 refine yY (wpAny_isInstance T isSubtype_tuple_tuple ?_);simp only [Bool.not_true,uD,if_false];refine yY (wpAny_tupleItemsOf e1 e3 (yY (wpAny_tupleItemsOf f1 f3 (yY ?_))));refine wpAny_forIn_list _ (λr (z:Option Fin×Unit) t=>z.1=none/\t=s/\(r=(Value.ref c,Value.ref c')::vs.zip us∨(k=k'/\∃ x' y' xs ys,r=List.zip xs ys/\ItemsAre kd x' xs/\ItemsAre kd y' ys/\(x'=y'↔ls=ls')/\(xs.length=ys.length↔vs.length=us.length)))) _ ?_ ?_ _ _ ⟨rfl,rfl,.inl rfl⟩
 ·rintro ⟨u,v⟩ r z t ⟨hz,rfl,g⟩;rcases g with g|⟨kk,x',y',xs,ys,g,g1,g2,g3,g4⟩
  ·injection g with g g';injection g with g1 g2;subst g1 g2 g';refine yY (B.eqBool hB b1 b2 ?_);by_cases kk:k=k'
   ·rw [yo kk];exact yP ⟨rfl,rfl,.inr ⟨kk,ls,ls',vs,us,rfl,i1,i2,Iff.rfl,Iff.rfl⟩⟩
   ·rw [yL kk];have:decide ((k,ls)=(k',ls'))=false:=yL λz=>kk (Prod.mk.inj z).1;rw [this] at h;exact yY (yP (yP (yP h)))
  ·cases g1 with
   |nil=>cases g
   |@cons m1 v1 l1 r1 c1 d1 =>
    cases g2 with
    |nil=>cases g
    |@cons m2 v2 l2 r2 c2 d2 =>
     injection g with g g';injection g with g1 g2;subst g1 g2 g';refine yY (kd.eqBool c1 c2 ?_);by_cases mm:m1=m2
     ·rw [yo mm];refine yP ⟨rfl,rfl,.inr ⟨kk,l1,l2,r1,r2,rfl,d1,d2,?_,?_⟩⟩
      ·rw [<- g3,mm];exact ⟨λz=>by rw [z],λz=>(List.cons.inj z).2⟩
      ·rw [<- g4,yz,yz];omega
     ·rw [yL mm];have:decide ((k,ls)=(k',ls'))=false:=yL λz=>mm (List.cons.inj (g3.mpr (Prod.mk.inj z).2)).1;rw [this] at h;exact yY (yP (yP (yP h)))
 ·rintro ⟨z,z'⟩ t ⟨hz,rfl,g⟩;obtain rfl:z=none:=hz;rcases g with g|⟨kk,x',y',xs,ys,g,g1,g2,g3,g4⟩
  ·cases g
  ·refine yP ?_;have key:((Value.ref c::vs).toArray.size==(Value.ref c'::us).toArray.size)=decide ((k,ls)=(k',ls')):=by
    have e1:vs.length=us.length↔ls=ls':=by rw [<- g3,<- g4];cases g1<;>cases g2<;>first|(simp;done)|cases g
    rw [yW,yW,yz,yz];by_cases q:ls=ls'
    ·rw [e1.mpr q,kk,q];simp
    ·have n1:¬ vs.length=us.length:=λz=>q (e1.mp z);rw [yL λz=>q (Prod.mk.inj z).2];exact beq_false_of_ne (by omega)
   change Z (.done (.ret (.bool ((Value.ref c::vs).toArray.size==(Value.ref c'::us).toArray.size)))) _
   rw [key];exact h
theorem KH {x y:K×List L}(hu:A.units<cLine)(hB:∀ A':Around,A'.units<=A.units+1->B.room A')(p:IsP B kd s.heap x a)(q:IsP B kd s.heap y b)(h:Q (decide (x=y)) s):wpAny (model P w) A (eqBool (.ref a) (.ref b)) Q E s:=by
 unfold eqBool
 try with_reducible refine wpAny_holding ?_
 change wpAny _ _ (ite ((Value.ref a==Value.ref b)=true) _ _) _ _ _
 split
 next z =>
  have z':a=b:=by have:=eq_of_beq z;injection this
  subst z';rw [yo (p.inj q)] at h;exact yY (wpAny_rule (yP h))
 next z =>
  refine yY (wpAny_richCompare_same_room (op:= .Eq) p.ty q.ty F.slot_tuple_eq (wpAny_call_entry F.slot_tuple_eq p.ty F.entry_tuple_eq (KI (hB _ ?_) p q ⟨_,rfl,(λe=>nomatch e),wpAny_truthy_bool h⟩) (F.args_tuple_eq_2 _ _)) hu);exact yS _
theorem DF {ks:List L}{n:Nat}(p:IsTupleKey kd s.heap ks a)(h:Q true s):wpAny (model P w) A (eqIsQuiet (n+1) (.ref a)) Q E s:=by
 have T:=p.typeIs;obtain ⟨o,its,m,e1,e2,e3,i⟩:=p;unfold eqIsQuiet;refine yY (wpAny_specialOf T F.slot_tuple_eq.lookup ?_)
 change wpAny _ _ (Bind.bind (isInstance (Value.ref a) (Value.type "tuple")) _) _ _ _
 refine yY (wpAny_isInstance T isSubtype_tuple_tuple ?_);simp only [Bool.not_true,uD,if_false];refine yY (wpAny_seqItems e1 e3 (yY ?_))
 change wpAny _ _ (forIn its _ _) _ _ _
 rw [<- Array.forIn_toList];refine wpAny_forIn_list _ (λr (z:Option Bool×Unit) t=>z.1=none/\t=s/\∀ v∈r,carriedByValue v=true) _ ?_ ?_ _ _ ⟨rfl,rfl,i.byValue⟩
 ·rintro v r z t ⟨hz,rfl,g⟩;rw [eqIsQuiet_byValue _ (g v yR)];exact yY (yP (yP ⟨rfl,rfl,λu hu=>g u (yT _ hu)⟩))
 ·rintro ⟨z,z'⟩ t ⟨hz,rfl,_⟩;obtain rfl:z=none:=hz;exact yP h
theorem DG (hq:∀{A:Around}{E:Value->Shared->Prop}{s:Shared}{k:K}{c:Addr}{Q:Bool->Shared->Prop},B.is s.heap k c->Q true s->wpAny (model P w) A (eqIsQuiet 7 (.ref c)) Q E s){x:K×List L}(p:IsP B kd s.heap x a)(h:Q true s):wpAny (model P w) A (eqIsQuiet 8 (.ref a)) Q E s:=by
 have T:=p.ty;obtain ⟨o,c,vs,n,e1,e2,e3,b,i⟩:=p;unfold eqIsQuiet;refine yY (wpAny_specialOf T F.slot_tuple_eq.lookup ?_)
 change wpAny _ _ (Bind.bind (isInstance (Value.ref a) (Value.type "tuple")) _) _ _ _
 refine yY (wpAny_isInstance T isSubtype_tuple_tuple ?_);simp only [Bool.not_true,uD,if_false];refine yY (wpAny_seqItems e1 e3 (yY ?_))
 change wpAny _ _ (forIn (Value.ref c::vs).toArray _ _) _ _ _
 rw [<- Array.forIn_toList];refine wpAny_forIn_list _ (λr (z:Option Bool×Unit) t=>z.1=none/\t=s/\∀ v∈r,v=Value.ref c∨carriedByValue v=true) _ ?_ ?_ _ _ ⟨rfl,rfl,λv hv=>(yJ.mp hv).imp id (i.byValue v)⟩
 ·rintro v r z t ⟨hz,rfl,g⟩;rcases g v yR with rfl|gv
  ·exact yY (hq b (yP ⟨rfl,rfl,λu hu=>g u (yT _ hu)⟩))
  ·rw [eqIsQuiet_byValue _ gv];exact yY (yP (yP ⟨rfl,rfl,λu hu=>g u (yT _ hu)⟩))
 ·rintro ⟨z,z'⟩ t ⟨hz,rfl,_⟩;obtain rfl:z=none:=hz;exact yP h
def Px (kd:KeyKind P w L):HeapKind P w (List L×List L) where
 is:=IsP (tupleKind kd) kd
 hash:=Yk (tupleKind kd) kd
 draws:=λx=>(tupleKind kd).draws x.1+x.2.length+1
 room:=λA=>A.units+1<cLine
 inj:=λp q=>p.inj q
 keeps:=λp e f k=>p.keeps e f k
 pyHash:=λhu p h=>Bf (Nat.lt_of_succ_lt hu) (λ_ l=>uC l hu) p h
 eqBool:=λhu p q h=>KH (Nat.lt_of_succ_lt hu) (λ_ l=>uC l hu) p q h
 quiet:=λp h=>DG (λb g=>DF (n:=6) b g) p h
def KW (kd:KeyKind P w L):HeapKind P w (List L×List L) where
 is:=λh x a=>x.1=[]/\(tupleKind kd).is h x.2 a
 hash:=λx=>(tupleKind kd).hash x.2
 draws:=λx=>(tupleKind kd).draws x.2
 room:=λA=>A.units+1<cLine
 inj:=λp q=>Prod.ext (p.1.trans q.1.symm) ((tupleKind kd).inj p.2 q.2)
 keeps:=λp e f k=>⟨p.1,(tupleKind kd).keeps p.2 e f k⟩
 pyHash:=λhu p h=>(tupleKind kd).pyHash (Nat.lt_of_succ_lt hu) p.2 h
 eqBool:=λ{_ _ _ x y _ _ _} hu p q h=>(tupleKind kd).eqBool (Nat.lt_of_succ_lt hu) p.2 q.2 (by
  have e:decide (x.2=y.2)=decide (x=y):=decide_eq_decide.mpr ⟨λz=>Prod.ext (p.1.trans q.1.symm) z,λz=>by rw [z]⟩;rw [e];exact h)
 quiet:=λp h=>(tupleKind kd).quiet p.2 h
def anyKind (fl:Bool)(kd:KeyKind P w L):HeapKind P w (List L×List L):=match fl with
 |true=>KW kd
 |false=>Px kd
theorem any_room {fl:Bool}{kd:KeyKind P w L}{A:Around}(hu:A.units+2<cLine):(anyKind fl kd).room A.in1:=by cases fl<;>exact hu
end Nk
namespace L2
abbrev Fg:=PySem.W.Frag
end L2
namespace L2
open PySem PySem.Spec PyProof.Rows
variable{us:List Value}{C a b dx it:Addr}{u:Value}{P:Program}{w:World}{base h:Heap}{g':Array GenState}{j n t':Nat}{d':Drawn}{ch fp:List Addr}{m qual x:Str}{c e tg:Expr}{N ps:List Str}{A:Around}{E Q:Value->Shared->Prop}{s s':Shared}{α:Type}{pins:List (Addr×Obj)}{pos:Pos}{op op':CmpOp}{K:Fg}{f:Value->Value->Sem Value}{es:List Expr}{lo:Int}{pl:Sem Bool}{mA mg:Str->Option Value}{kw:List (Str×Value)}{fd:FuncData}{outer:List Env}{scope:Scope}
abbrev v7:=Sum Int Str
def vh:v7->Value->Bool
 | .inl k,v=>Value.isInt k v
 | .inr x,v=>Value.isStrOf x v
def keyH (w:World):v7->Int
 | .inl k=>hashInt k
 | .inr x=>hashStr w x
theorem zW:∀{k:v7}{v:Value},vh k v=true->(∃ i t,k=Sum.inl i/\v=Value.int i t)∨(∃ x t,k=Sum.inr x/\v=Value.str x t)
 | .inl i,v,h=>by
  obtain ⟨t,e⟩:=Value.isInt_shape (k:=i) (v:=v) h;exact .inl ⟨i,t,rfl,e⟩
 | .inr x,v,h=>by
  obtain ⟨t,e⟩:=Value.isStrOf_shape (x:=x) (v:=v) h;exact .inr ⟨x,t,rfl,e⟩
theorem BN (i:Int)(t:Tok):vh (.inl i) (.int i t)=true:=by simp [vh,Value.isInt]
theorem Yq (x:Str)(t:Tok):vh (.inr x) (.str x t)=true:=by simp [vh,Value.isStrOf]
theorem BO (a b:Int):decide ((Sum.inl a:v7)=Sum.inl b)=(a==b):=by
 by_cases e:a=b
 ·subst e;simp
 ·have h:¬ (Sum.inl a:v7)=Sum.inl b:=λq=>e (Sum.inl.inj q);rw [yL h];exact (beq_eq_false_iff_ne.mpr e).symm
theorem BR (a b:Str):decide ((Sum.inr a:v7)=Sum.inr b)=decide (a=b):=by
 by_cases e:a=b
 ·subst e;simp
 ·have h:¬ (Sum.inr a:v7)=Sum.inr b:=λq=>e (Sum.inr.inj q);rw [yL h,yL e]
theorem BP (a:Int)(b:Str):decide ((Sum.inl a:v7)=Sum.inr b)=false:=yL (λq=>nomatch q)
theorem BQ (a:Str)(b:Int):decide ((Sum.inr a:v7)=Sum.inl b)=false:=yL (λq=>nomatch q)
def qF (prog:Program)(w:World):PySem.KeyKind prog w v7 where
 is:=vh
 hash:=keyH w
 inj:=λv a b ha hb=>by
  rcases zW ha with ⟨i,t,rfl,rfl⟩|⟨x,t,rfl,rfl⟩
  ·rcases zW hb with ⟨j,u,rfl,e⟩|⟨y,u,rfl,e⟩
   ·injection e with e1 _;rw [e1]
   ·exact nomatch e
  ·rcases zW hb with ⟨j,u,rfl,e⟩|⟨y,u,rfl,e⟩
   ·exact nomatch e
   ·injection e with e1 _;rw [e1]
 byValue:=λk v h=>by
  rcases zW h with ⟨i,t,rfl,rfl⟩|⟨x,t,rfl,rfl⟩<;>rfl
 pyHash:=λhv h=>by
  rcases zW hv with ⟨i,t,rfl,rfl⟩|⟨x,t,rfl,rfl⟩
  ·exact wpAny_pyHash_int h
  ·exact wpAny_pyHash_str h
 eqBool:=λhu hv h=>by
  rcases zW hu with ⟨i,t,rfl,rfl⟩|⟨x,t,rfl,rfl⟩
  ·rcases zW hv with ⟨j,u,rfl,rfl⟩|⟨y,u,rfl,rfl⟩
   ·rw [BO] at h;exact wpAny_eqBool_int h
   ·rw [BP] at h;exact SeqAt.EqAt.int_str i t y u _ _ _ _ h
  ·rcases zW hv with ⟨j,u,rfl,rfl⟩|⟨y,u,rfl,rfl⟩
   ·rw [BQ] at h;exact SeqAt.EqAt.str_int x t j u _ _ _ _ h
   ·rw [BR] at h;exact wpAny_eqBool_str h
 «strs»:=λk x t v h=>by
  rcases zW h with ⟨i,u,rfl,e⟩|⟨y,u,rfl,e⟩
  ·exact nomatch e
  ·injection e with e1 _;subst e1;cases v<;>rfl
theorem Po (prog:Program)(w:World)(i:Int)(t:Tok):(qF prog w).is (.inl i) (.int i t)=true:=BN i t
theorem YH (prog:Program)(w:World)(x:Str)(t:Tok):(qF prog w).is (.inr x) (.str x t)=true:=Yq x t
inductive V where
 |non|bl (b:Bool)|int (i:Int)|str (x:Str)|byt (b:Array UInt8)|flt (b:UInt64)|ref (a:Addr)|ty (n:String)
 deriving DecidableEq
variable{vs xs:List V}{v y:V}
def RelV:V->Value->Prop
 | .non,u=>u=Value.none
 | .bl b,u=>u=Value.bool b
 | .int i,u=>∃ t,u=Value.int i t
 | .str x,u=>∃ t,u=Value.str x t
 | .byt b,u=>∃ t,u=Value.bytes b t
 | .flt b,u=>∃ t,u=Value.float b t
 | .ref a,u=>u=Value.ref a
 | .ty n,u=>u=Value.type n
abbrev Vals:List V->List Value->Prop:=Paired RelV
theorem Vals.length (r:Vals xs us):xs.length=us.length:=Paired.length r
theorem Vals.get:∀{xs:List V}{us:List Value}{i:Nat}{x:V},Vals xs us->xs[i]?=some x->∃ u,us[i]?=some u/\RelV x u
 |_,_,_,_,.nil,e=>by simp at e
 |_,_,0,_,.cons r _,e=>by simp at e;subst e;exact ⟨_,rfl,r⟩
 |_,_,i+1,x,.cons _ t,e=>by
  obtain ⟨u,h1,h2⟩:=Vals.get (i:=i) (x:=x) t (by simpa using e);exact ⟨u,by simpa using h1,h2⟩
theorem Vals.set {x:V}{u:Value}(r:RelV x u):∀{xs:List V}{us:List Value}(i:Nat),Vals xs us->Vals (xs.set i x) (us.set i u)
 |_,_,_,.nil=> .nil
 |_,_,0,.cons _ t=> .cons r t
 |_,_,i+1,.cons q t=> .cons q (Vals.set r i t)
theorem Vals.append:∀{xs ys:List V}{us ws:List Value},Vals xs us->Vals ys ws->Vals (xs++ys) (us++ws)
 |_,_,_,_,.nil,s=>s
 |_,_,_,_,.cons r t,s=> .cons r (Vals.append t s)
theorem Vals.take:∀{xs:List V}{us:List Value}(n:Nat),Vals xs us->Vals (xs.take n) (us.take n)
 |_,_,0,_=> .nil
 |_,_,_+1,.nil=> .nil
 |_,_,n+1,.cons r t=> .cons r (Vals.take n t)
theorem Vals.drop:∀{xs:List V}{us:List Value}(n:Nat),Vals xs us->Vals (xs.drop n) (us.drop n)
 |_,_,0,r=>r
 |_,_,_+1,.nil=> .nil
 |_,_,n+1,.cons _ t=>Vals.drop n t
def RelO:Option V->Option Value->Prop
 |some v,some u=>RelV v u
 |none,none=>True
 |_,_=>False
def KV {κ:Type}:List (κ×V)->List (κ×Value)->Prop:=Paired λ(p:κ×V) (q:κ×Value)=>p.1=q.1/\RelV p.2 q.2
def kV:v7->V
 | .inl i=> .int i
 | .inr x=> .str x
def TABS:List (Addr×Array Value×List (Pos×Str)):=[]
abbrev g0:=List v7×List v7
inductive HO where
 /-- a list -/
 |lst (xs:List V)
 /-- a tuple (never changes) -/
 |tup (xs:List V)
 /-- a dict whose keys are ints and texts;one whose keys are tuples of ints and texts (the empty one is o6) -/
 |dK (kvs:List (v7×V))|dT (fl:Bool) (as:List Addr) (kvs:List (g0×V))
 /-- a set of ints: its members,its size -/
 |set (S:Int->Bool) (n:Nat)
 /-- an instance of the class at C,its dict at dx,its attributes -/
 |ins (C dx:Addr) (fs:List (Str×V))
 /-- the dict of the instance at x -/
 |own (x:Addr)
 /-- the dict of an exception -/
 |xd (fs:List (Str×V))
 /-- a bound method,f of x -/
 |met (f x:Addr)
 /-- a range object lo,lo+1,.. below hi -/
 |rng (lo hi:Int)
 /-- a thing that is known to the object (the script;a dict while a loop walks it): read,never written while it is so -/
 |frz (o:Obj) (u:HO)
 /-- a code object's table -/
 |tbl (ps:Array Value) (q:List (Pos×Str))
 /-- any other thing,by what is true of its one object (a def of one's own: SetO a S n:=HO.ext λh=> ..) -/
 |ext (φ:Heap->Prop)
variable{o:HO}
abbrev Hp:=Addr->Option HO
variable{H H':Hp}{R:V->V->Hp->Prop}
def z6 (H:Hp)(a:Addr)(o:HO):Hp:=λb=>if b=a then some o else H b
theorem v3 :z6 H a o a=some o:=by unfold z6;rw [if_pos rfl]
theorem z7 (h:b≠a):z6 H a o b=H b:=by unfold z6;rw [if_neg h]
theorem ne_of {u:HO}(h:H a=some o)(h':H b=some u)(d:o≠u):a≠b:=by intro e;subst e;rw [h] at h';exact d (Option.some.inj h')
theorem w6 (h:H a=some o)(h':H b=none):a≠b:=by intro e;subst e;rw [h] at h';cases h'
def KeyH (fl:Bool)(H:Hp)(b:Addr)(k:g0):Prop:=(fl=true/\k.1=[]/\H b=some (.tup (k.2.map kV)))∨(fl=false/\∃ c,H b=some (.tup (.ref c::k.2.map kV))/\H c=some (.tup (k.1.map kV)))
theorem KeyH.keeps {fl:Bool}{k:g0}(x:KeyH fl H b k)(ht:∀ b xs,H b=some (.tup xs)->H' b=some (.tup xs)):KeyH fl H' b k:=by
 rcases x with ⟨f,n,p⟩|⟨f,c,p,q⟩
 ·exact .inl ⟨f,n,ht _ _ p⟩
 ·exact .inr ⟨f,c,ht _ _ p,ht _ _ q⟩
section
variable (P:Program)(w:World)
def ObjOk (H:Hp)(h:Heap)(a:Addr):HO->Prop
 | .lst xs=>xs.length<=sizeLine/\∃ (its:List Value) (n:Nat),Vals xs its/\h.get? a=some { cls:= .type "list",data:= .seq its.toArray n }
 | .tup xs=>xs.length<=sizeLine/\∃ its:List Value,Vals xs its/\IsTup h a its.toArray
 | .dK kvs=>kvs.length<=sizeLine/\(a==sysModules)=false/\∃ vs,KV kvs vs/\h.DictOf (qF P w) a vs
 | .dT fl as kvs=>kvs.length<=sizeLine/\(a==sysModules)=false/\∃ xs:List (g0×Addr×Value),
   Paired (λ(p:g0×V) (q:g0×Addr×Value)=>p.1=q.1/\KeyH fl H q.2.1 p.1/\RelV p.2 q.2.2) kvs xs /\
   ∃ o es ep,h.get? a=some o/\o.ExactDict/\o.data = .dict es ep/\es.toList=xs.map (entryOfKey (Nk.anyKind fl (qF P w)))/\(xs.map (·.1)).Nodup/\xs.map (·.2.1)=as
 | .set S n=>h.SetOf (intKind P w) a S n
 | .ins C dx fs=>H dx=some (.own a)/\fs.length<=1000/\dx≠a/\h.get? a=some (PySem.W.instObj C dx) /\
   ∃ mA,h.Ns1 dx mA/\(∀ f,RelO (fs.lookup f) (mA f))/\PySem.Within mA (fs.map (·.1))
 | .own _=>∃ o,h.get? a=some o
 | .xd fs=>∃ mA,h.Ns1 a mA/\∀ f,RelO (fs.lookup f) (mA f)
 | .rng lo hi=>∃ t u v,h.get? a=some { cls:= .type "range",data:= .fields #[.int lo t,.int hi u,.int 1 v] }
 | .frz o u=>h.get? a=some o/\ObjOk H h a u
 | .tbl ps q=>∃ more:Array Value,h.get? a=some { cls:= .none,data:= .fields (ps++more) }/\TriplesOk (ps++more).toList /\
   ∀ p∈q,codeAmong p.1 (ps++more).toList=none∨∃ c o vs t,codeAmong p.1 (ps++more).toList=some (.ref c)/\H c=some (.frz o (.own a))/\o.data = .fields vs/\vs[1]?=some (.str p.2 t)
 | .met f x=>h.get? a=some (PySem.W.methodObj (.ref f) (.ref x))
 | .ext φ=>φ h/\(∃ o,h.get? a=some o)/\∀ h1 h2:Heap,φ h1->(∀ o,h1.get? a=some o->h2.get? a=some o)->φ h2
def HOk (H:Hp)(h:Heap):Prop:=∀ a o,H a=some o->ObjOk P w H h a o
end
section
variable {P:Program}{w:World}{H H':Hp}{h h':Heap}{a:Addr}{o:HO}
theorem ObjOk.lt (x:ObjOk P w H h a o):a<h.objs.size:=by
 cases o with
 |lst xs=>obtain ⟨_,_,_,_,e⟩:=x;exact yQ e
 |tup xs=>obtain ⟨_,_,_,p⟩:=x;exact p.lt
 |dK kvs=>obtain ⟨_,_,_,_,o,_,_,e,_⟩:=x;exact yQ e
 |dT fl as kvs=>obtain ⟨_,_,_,_,o,_,_,e,_⟩:=x;exact yQ e
 |set S n=>obtain ⟨o,_,_,_,e,_⟩:=x;exact yQ e
 |ins C dx fs=>obtain ⟨_,_,_,e,_⟩:=x;exact yQ e
 |own y=>obtain ⟨_,e⟩:=x;exact yQ e
 |xd fs=>obtain ⟨_,⟨_,_,_,e,_⟩,_⟩:=x;exact yQ e
 |rng lo hi=>obtain ⟨_,_,_,e⟩:=x;exact yQ e
 |frz ob u=>obtain ⟨e,_⟩:=x;exact yQ e
 |tbl ps q=>obtain ⟨_,e,_⟩:=x;exact yQ e
 |met f y=>exact yQ (show h.get? a=some _ from x)
 |ext φ=>obtain ⟨_,⟨_,e⟩,_⟩:=x;exact yQ e
theorem Paired.mapP {α β:Type}{F G:α->β->Prop}:∀{l₁:List α}{l₂:List β},Paired F l₁ l₂->(∀ a b,F a b->G a b)->Paired G l₁ l₂
 |_,_,.nil,_=> .nil
 |_,_,.cons r t,f=> .cons (f _ _ r) (Paired.mapP t f)
theorem ObjOk.stay (x:ObjOk P w H h a o)(k:∀ b u,(b=a∨H b=some (.own a))->h.get? b=some u->h'.get? b=some u)(ho:∀ b,H b=some (.own a)->H' b=some (.own a))(ht:∀ b xs,H b=some (.tup xs)->H' b=some (.tup xs))(hz:∀ b o u,H b=some (.frz o u)->H' b=some (.frz o u)):ObjOk P w H' h' a o:=by
 induction o with
 |lst xs=>obtain ⟨z,its,n,r,e⟩:=x;exact ⟨z,its,n,r,k _ _ (.inl rfl) e⟩
 |tup xs=>obtain ⟨z,its,r,ob,e,c⟩:=x;exact ⟨z,its,r,ob,k _ _ (.inl rfl) e,c⟩
 |dK kvs=>obtain ⟨z,y,vs,r,ob,es,ep,e,c⟩:=x;exact ⟨z,y,vs,r,ob,es,ep,k _ _ (.inl rfl) e,c⟩
 |dT fl as kvs=>obtain ⟨z,y,xs,r,ob,es,ep,e,c⟩:=x;exact ⟨z,y,xs,Paired.mapP r λp q z=>⟨z.1,z.2.1.keeps ht,z.2.2⟩,ob,es,ep,k _ _ (.inl rfl) e,c⟩
 |set S n=>obtain ⟨ob,es,ep,t,e,c⟩:=x;exact ⟨ob,es,ep,t,k _ _ (.inl rfl) e,c⟩
 |ins C dx fs=>obtain ⟨d,z,ne,e,mA,⟨od,es,ep,e2,c⟩,r⟩:=x;exact ⟨ho _ d,z,ne,k _ _ (.inl rfl) e,mA,⟨od,es,ep,k _ _ (.inr d) e2,c⟩,r⟩
 |own y=>obtain ⟨ob,e⟩:=x;exact ⟨ob,k _ _ (.inl rfl) e⟩
 |xd fs=>obtain ⟨mA,⟨od,es,ep,e,c⟩,r⟩:=x;exact ⟨mA,⟨od,es,ep,k _ _ (.inl rfl) e,c⟩,r⟩
 |rng lo hi=>obtain ⟨t,u,v,e⟩:=x;exact ⟨t,u,v,k _ _ (.inl rfl) e⟩
 |frz ob u ih=>obtain ⟨e,q⟩:=x;exact ⟨k _ _ (.inl rfl) e,ih q⟩
 |tbl ps q =>
  obtain ⟨more,e,t,r⟩:=x;refine ⟨more,k a _ (.inl rfl) e,t,λp hp=>?_⟩;rcases r p hp with z|⟨c,o,vs,t,z,oc,e2⟩
  ·exact .inl z
  ·exact .inr ⟨c,o,vs,t,z,hz c o _ oc,e2⟩
 |met f y=>have e:h.get? a=some (PySem.W.methodObj (.ref f) (.ref y)):=x;show h'.get? a=some (PySem.W.methodObj (.ref f) (.ref y));exact k a _ (.inl rfl) e
 |ext φ=>obtain ⟨p,⟨o,e⟩,st⟩:=x;exact ⟨st _ _ p λo q=>k _ _ (.inl rfl) q,⟨o,k _ _ (.inl rfl) e⟩,st⟩
theorem HOk.lt (x:HOk P w H h)(e:H a=some o):a<h.objs.size:=(x a o e).lt
theorem HOk.fresh (x:HOk P w H h)(e:h.objs.size<=a):H a=none:=by
 cases q:H a with
 |none=>rfl
 |some u=>exact absurd (yE (x.lt q) e) (uU _)
theorem HOk.kept (x:HOk P w H h)(k:∀ b u,h.get? b=some u->h'.get? b=some u):HOk P w H h':=λa o e =>
 (x a o e).stay (λb u _ q=>k b u q) (λ_ q=>q) (λ_ _ q=>q) λ_ _ _ q=>q
theorem HOk.laid (x:HOk P w H h)(k:∀ b u,h.get? b=some u->h'.get? b=some u)(hp:h.objs.size<=a)(new:ObjOk P w (z6 H a o) h' a o):HOk P w (z6 H a o) h':=λb u e=>by
 have hn:=x.fresh hp;by_cases hb:b=a
 ·subst hb;rw [v3] at e;cases e;exact new
 ·rw [z7 hb] at e;exact (x b u e).stay (λc v _ q=>k c v q) (λc q=>by rw [z7 (w6 q hn)];exact q) (λc xs q=>by rw [z7 (w6 q hn)];exact q) λc _ _ q=>by rw [z7 (w6 q hn)];exact q
end
def Rd (H:Hp)(a:Addr)(u:HO):Prop:=H a=some u∨∃ o,H a=some (.frz o u)
theorem Rd.ok {u:HO}(r:Rd H a u)(x:HOk P w H h):ObjOk P w H h a u:=by
 rcases r with r|⟨o,r⟩
 ·exact x a u r
 ·obtain ⟨_,q⟩:=x a _ r;exact q
def Mut:Option HO->Prop
 |some (.lst _)=>True
 |some (.dK _)=>True
 |some (.dT _ _ _)=>True
 |some (.set _ _)=>True
 |some (.ins _ _ _)=>True
 |some (.ext _)=>True
 |_=>False
section
variable {P:Program}{w:World}{H:Hp}{h h':Heap}{x e:Addr}{o':HO}
theorem HOk.write (ok:HOk P w H h)(mu:Mut (H x))(he:e=x∨H e=some (.own x))(k:∀ b u,b≠e->h.get? b=some u->h'.get? b=some u)(heo:∃ u,h'.get? e=some u)(new:ObjOk P w (z6 H x o') h' x o'):HOk P w (z6 H x o') h':=λb u q=>by
 have nown:∀ c y,H c=some (.own y)->c≠x:=λc y r z=>by subst z;rw [r] at mu;exact mu
 have ntup:∀ c xs,H c=some (.tup xs)->c≠x:=λc xs r z=>by subst z;rw [r] at mu;exact mu
 have nfrz:∀ c ob xs,H c=some (.frz ob xs)->c≠x:=λc ob xs r z=>by subst z;rw [r] at mu;exact mu
 by_cases hb:b=x
 ·subst hb;rw [v3] at q;cases q;exact new
 ·rw [z7 hb] at q;by_cases hbe:b=e
  ·have q':H b=some (.own x):=by
    rcases he with z|z
    ·exact absurd (hbe.trans z) hb
    ·rw [hbe];exact z
   rw [q] at q';cases q';obtain ⟨v,hv⟩:=heo;exact ⟨v,by rw [hbe];exact hv⟩
  ·refine (ok b u q).stay (λc v hc r=>k c v ?_ r) (λc r=>by rw [z7 (nown c b r)];exact r) (λc xs r=>by rw [z7 (ntup c xs r)];exact r) λc ob xs r=>by rw [z7 (nfrz c ob xs r)];exact r
   rcases hc with rfl|hc
   ·exact hbe
   ·rintro rfl;rcases he with z|z
    ·exact nown c b hc z
    ·rw [hc] at z;cases z;exact hb rfl
end
structure Un (fs ex:List Addr)(H H':Hp)(h h':Heap):Prop where
 keep:∀ b o,h.get? b=some o->H b=none->b∉fs->b∉ex->h'.get? b=some o
 slot:∀ b o,h.get? b=some o->H b=none->b∈fs->b∉ex->∃ sl,h'.get? b=some { o with slots:=sl }
 free:∀ b o,h.get? b=some o->H b=none->b∉ex->H' b=none
 there:∀ b o,h.get? b=some o->b∉ex->∃ o',h'.get? b=some o'
 tups:∀ b xs,H b=some (.tup xs)->H' b=some (.tup xs)
 frzs:∀ b o u,H b=some (.frz o u)->H' b=some (.frz o u)
 tbls:∀ b ps q,H b=some (.tbl ps q)->H' b=some (.tbl ps q)
section
variable {fs fs' ex ex':List Addr}{H H1 H2:Hp}{h h1 h2 h':Heap}{a x e:Addr}{o:HO}
theorem Un.any (u:Un fs ex H H1 h h1){ob:Obj}(q:h.get? b=some ob)(n:H b=none)(hx:b∉ex):∃ sl,h1.get? b=some { ob with slots:=sl }:=by
 by_cases hb:b∈fs
 ·exact u.slot b ob q n hb hx
 ·exact ⟨ob.slots,u.keep b ob q n hb hx⟩
theorem Un.kept (k:∀ b u,h.get? b=some u->h'.get? b=some u):Un fs ex H H h h' :=
 ⟨λb ob q _ _ _=>k b ob q,λb ob q _ _ _=>⟨ob.slots,k b ob q⟩,λ_ _ _ n _=>n,λb ob q _=>⟨ob,k b ob q⟩,λ_ _ q=>q,λ_ _ _ q=>q,λ_ _ _ q=>q⟩
theorem Un.refl:Un fs ex H H h h:=Un.kept λ_ _ q=>q
theorem Un.laid (k:∀ b u,h.get? b=some u->h'.get? b=some u)(hp:h.objs.size<=a)(hn:H a=none):Un fs ex H (z6 H a o) h h' where
 keep:=λb u q _ _ _=>k b u q
 slot:=λb u q _ _ _=>⟨u.slots,k b u q⟩
 free:=λb u q n _=>by rw [z7 (yH (yE (yQ q) hp))];exact n
 there:=λb u q _=>⟨u,k b u q⟩
 tups:=λb xs q=>by rw [z7 (w6 q hn)];exact q
 frzs:=λb u xs q=>by rw [z7 (w6 q hn)];exact q
 tbls:=λb ps z q=>by rw [z7 (w6 q hn)];exact q
theorem Un.write (mu:Mut (H x))(he:e=x∨H e=some (.own x))(k:∀ b u,b≠e->h.get? b=some u->h'.get? b=some u)(heo:∃ u,h'.get? e=some u):Un fs ex H (z6 H x o) h h':=by
 have hx:∀ b,H b=none->b≠x:=λb n z=>by subst z;rw [n] at mu;exact mu
 have hb:∀ b,H b=none->b≠e:=λb n z=>by
  subst z;rcases he with r|r
  ·exact hx b n r
  ·rw [n] at r;cases r
 have hm:∀ b u,H b=some u->¬ Mut (some u)->b≠x:=λb u q nm z=>by subst z;rw [q] at mu;exact nm mu
 refine ⟨λb u q n _ _=>k b u (hb b n) q,λb u q n _ _=>⟨u.slots,k b u (hb b n) q⟩,λb u q n _=>by rw [z7 (hx b n)];exact n,λb u q _=>?_,
  λb xs q=>by rw [z7 (hm b _ q λz=>z)];exact q,λb u xs q=>by rw [z7 (hm b _ q λz=>z)];exact q,λb ps r q=>by rw [z7 (hm b _ q λz=>z)];exact q⟩
 by_cases hbe:b=e
 ·subst hbe;exact heo
 ·exact ⟨u,k b u hbe q⟩
end
def trk (h:Heap)(H:Hp):List Addr:=(List.range h.objs.size).filter λa=>(H a).isSome
def zV (h:Heap)(H:Hp):Heap:=PySem.W.hideAll h (trk h H)
theorem Bh (h:Heap)(H:Hp):(zV h H).objs.size=h.objs.size:=PySem.W.hideAll_size _ _
theorem Bg {o:Obj}(e:h.get? b=some o)(n:H b=none):(zV h H).get? b=some o :=
 PySem.W.hideAll_get _ e λhm=>by
  have q:(H b).isSome=true:=(List.mem_filter.mp hm).2;rw [n] at q;simp at q
theorem PB {o:Obj}(e:(zV h H).get? b=some o):h.get? b=some o/\H b=none:=by
 have e':h.get? b=some o:=PySem.W.of_hideAll (trk h H) e;refine ⟨e',?_⟩;cases q:H b with
 |none=>rfl
 |some x=>have hm:b∈trk h H:=List.mem_filter.mpr ⟨uH.mpr (yQ e'),by simp [q]⟩;have z:(zV h H).get? b=none:=PySem.W.hideAll_none (trk h H) hm;rw [z] at e;cases e
structure Mod (K:Fg)(mg:Str->Option Value)(base:Heap):Prop where
 kin:K.In base
 glob:base.Ns mainGlobals mg
 blt:∃ mb,base.Ns builtinsNs mb/\∀ x:Str,x ≠ "__name__"->mb x=bootBuiltins x
 nolimit:base.NoLimit
 bmn:∃ bm ob,mg "__builtins__"=some (.ref bm)/\bm≠builtinsNs/\base.get? bm=some ob/\ob.cls = .type "module"/\ob.dict=some builtinsNs/\ob.data = .plain
structure Cx where
 prog:Program
 w:World
 K:Fg
 mg:Str->Option Value
 base:Heap
 A:Around
 N:List Str
 s₀:Shared
 H₀:Hp
 env:Env
 outer:List Env
 stack:List Env
 ex:List Addr
 fn:Str->Bool
 calm:Bool
 pn:List (Addr×Obj)
 xe:Value->Shared->Prop
variable{X:Cx}
def b9 (l:List Env):List Addr:=l.filterMap (·.frame)
abbrev Cx.fs (X:Cx):List Addr:=b9 X.outer
def Vis (sc:Scope)(x:Str):Prop:=sc.names.lookup x=some .local∨sc.names.lookup x=some .cell∨sc.names.lookup x=some .free
def Loc (sc:Scope)(x:Str):Prop:=sc.names.lookup x=some .local∨sc.names.lookup x=some .cell
def Look (env:Env)(h:Heap)(m:Str->Option Value)(x:Str)(u:Value):Prop :=
 (env.kindOf x=some .local/\m x=some u)∨((env.kindOf x=some .cell∨env.kindOf x=some .free)/\∃ c,env.cells.lookup x=some c/\h.IsCell c (some u))
structure Cx.Ok (X:Cx):Prop where
 mod:Mod X.K X.mg X.base
 kind:X.env.scope.kind = .function
 glob:X.env.globals=mainGlobals
 blt:X.env.builtins=builtinsNs
 above:X.s₀.heap.objs.size<=X.env.locals
 inj:∀ x y c,X.env.cells.lookup x=some c->X.env.cells.lookup y=some c->x=y
 has:∀ x,(X.env.kindOf x=some .cell∨X.env.kindOf x=some .free)->∃ c,X.env.cells.lookup x=some c
 cab:∀ x c,X.fn x=true->X.env.cells.lookup x=some c->X.s₀.heap.objs.size<=c
 hd:X.calm=true->X.A.handled=none
 frames:X.A.frames=some X.stack
 stk:X.stack=X.outer∨(X.stack=X.env::X.outer/\X.env.frame=some X.env.locals)
 exf:∀ b∈X.ex,b≠X.env.locals/\∀ x c,X.env.cells.lookup x=some c->c≠b
 bs:∀ b o,X.base.get? b=some o->X.s₀.heap.get? b=some o/\X.H₀ b=none
 bsz:X.base.objs.size<=X.s₀.heap.objs.size
 noex:∀ b o,X.base.get? b=some o->b∉X.ex
 exfs:∀ b∈X.ex,b∉X.fs
 funs:X.s₀.heap.FunFrames X.base X.outer
 frf:∀ b∈X.fs,X.H₀ b=none
 tbs:∀ p∈TABS,X.H₀ p.1=some (.tbl p.2.1 p.2.2)
structure Inv (X:Cx)(pins:List (Addr×Obj))(σ:List (Option V))(H:Hp)(s:Shared):Prop where
 ok:X.Ok
 os:s.os=X.s₀.os
 bare:AllBare s.gens
 base:Un X.fs X.ex X.H₀ H X.s₀.heap s.heap
 loc:∃ m,s.heap.Ns X.env.locals m/\∀(i:Nat)(x:Str)(v:V),X.N[i]?=some x->σ[i]?=some (some v)->Vis X.env.scope x->∃ u,RelV v u/\Look X.env s.heap m x u
 cell:∀ x c,X.env.cells.lookup x=some c->∃ v,s.heap.IsCell c v
 free:H X.env.locals=none
 freeC:∀ x c,X.env.cells.lookup x=some c->H c=none
 pin:∀ p∈X.pn++pins,s.heap.get? p.1=some p.2/\H p.1=none/\p.1≠X.env.locals/\p.1∉X.fs/\∀ v,p.2.data ≠ .cell v
 hok:HOk X.prog X.w H s.heap
 len:σ.length=X.N.length
section
variable {X:Cx}{pins:List (Addr×Obj)}{σ:List (Option V)}{H H':Hp}{s:Shared}{h':Heap}
theorem Cx.Ok.nofr (ok:X.Ok){o:Obj}(e:X.base.get? b=some o):b∉X.fs:=λhb=>by
 have:=(ok.funs.mem hb).1;rw [e] at this;cases this
theorem Inv.bs (I:Inv X pins σ H s):∀ b o,X.base.get? b=some o->s.heap.get? b=some o/\H b=none:=λb o e =>
 ⟨I.base.keep b o (I.ok.bs b o e).1 (I.ok.bs b o e).2 (I.ok.nofr e) (I.ok.noex b o e),I.base.free b o (I.ok.bs b o e).1 (I.ok.bs b o e).2 (I.ok.noex b o e)⟩
theorem Inv.bk (I:Inv X pins σ H s):∀ b o,X.base.get? b=some o->s.heap.get? b=some o:=λb o e=>(I.bs b o e).1
theorem Inv.mod (I:Inv X pins σ H s):Mod X.K X.mg X.base:=I.ok.mod
theorem Inv.kIn (I:Inv X pins σ H s):X.K.In s.heap:=I.ok.mod.kin.keeps I.bk
theorem Inv.fr (I:Inv X pins σ H s):∃ m,Fr X.base X.env.locals s.heap m :=
 let ⟨m,hn,_⟩:=I.loc
 ⟨m,hn,I.bk,yd I.ok.bsz I.ok.above⟩
theorem Inv.lt (I:Inv X pins σ H s):X.env.locals<s.heap.objs.size:=let ⟨_,hn,_⟩:=I.loc;hn.lt
theorem Inv.sz (I:Inv X pins σ H s):X.s₀.heap.objs.size<=s.heap.objs.size:=yd I.ok.above (uQ I.lt)
theorem Inv.nofs (I:Inv X pins σ H s)(h:s.heap.objs.size<=a):a∉X.fs:=λhb=>by
 obtain ⟨_,o,ho,_⟩:=I.ok.funs.mem hb;exact absurd (yE (yQ ho) (yd I.sz h)) (uU _)
theorem Inv.cne (I:Inv X pins σ H s):∀ x c,X.env.cells.lookup x=some c->c≠X.env.locals:=λx c e z=>by
 obtain ⟨v,o,ho,hd⟩:=I.cell x c e;obtain ⟨m,⟨o',es,ep,ho',hd',_⟩,_⟩:=I.loc;rw [z,ho'] at ho;cases ho;rw [hd'] at hd;cases hd
theorem Inv.funs (I:Inv X pins σ H s):s.heap.FunFrames X.base X.outer:=by
 have all:∀(l:List Env),(∀ b∈b9 l,b∈X.fs)->X.s₀.heap.FunFrames X.base l->s.heap.FunFrames X.base l:=by
  intro l
  induction l with
  |nil=>intro _ _;trivial
  |cons env r ih=>intro hs hl;obtain ⟨hk,⟨L,o,hf,hn,ho,hd⟩,hr⟩:=hl;have hL:L∈X.fs:=hs L (by unfold b9;rw [List.filterMap_cons,hf];exact yR);obtain ⟨sl,e⟩:=I.base.slot L o ho (I.ok.frf L hL) hL λz=>I.ok.exfs L z hL;exact ⟨hk,⟨L,_,hf,hn,e,hd⟩,ih (λb hb=>hs b (by unfold b9;rw [List.filterMap_cons,hf];exact yT _ hb)) hr⟩
 exact all X.outer (λ_ hb=>hb) I.ok.funs
theorem Inv.stack (I:Inv X pins σ H s):s.heap.FunFrames X.base X.stack:=by
 rcases I.ok.stk with e|⟨e,hf⟩
 ·rw [e];exact I.funs
 ·rw [e];obtain ⟨m,hn,_⟩:=I.loc;refine .cons (by rw [I.ok.kind];decide) hf hn ?_ I.funs;exact yh (yd I.ok.bsz I.ok.above)
theorem Inv.stkSub (I:Inv X pins σ H s):∀ b∈b9 X.stack,b∈X.env.locals::X.fs:=λb hb=>by
 rcases I.ok.stk with e|⟨e,hf⟩
 ·rw [e] at hb;exact yT _ hb
 ·rw [e] at hb;unfold b9 at hb;rw [List.filterMap_cons,hf] at hb;exact hb
theorem Inv.stkFree (I:Inv X pins σ H s):∀ b∈b9 X.stack,H b=none:=λb hb=>by
 rcases yJ.mp (I.stkSub b hb) with e|hb
 ·rw [e];exact I.free
 ·obtain ⟨_,o,ho,_⟩:=I.ok.funs.mem hb;exact I.base.free b o ho (I.ok.frf b hb) λz=>I.ok.exfs b z hb
theorem Inv.step (I:Inv X pins σ H s)(hch:∀ b∈ch,(b∈X.ex∨X.s₀.heap.objs.size<=b)/\b≠X.env.locals/\(∀ x c,X.env.cells.lookup x=some c->c≠b)/\∀ p∈X.pn++pins,p.1≠b)(keep:∀ b o,b≠X.env.locals->b∉X.fs->b∉ch->s.heap.get? b=some o->H b=none->h'.get? b=some o)(slot:∀ b o,b≠X.env.locals->b∈X.fs->b∉ch->s.heap.get? b=some o->H b=none->∃ sl,h'.get? b=some { o with slots:=sl })(free:∀ b o,b∉ch->s.heap.get? b=some o->H b=none->H' b=none)(there:∀ b o,b∉ch->s.heap.get? b=some o->∃ o',h'.get? b=some o')(tups:∀ b xs,H b=some (.tup xs)->H' b=some (.tup xs))(frzs:∀ b o u,H b=some (.frz o u)->H' b=some (.frz o u))(tbls:∀ b ps q,H b=some (.tbl ps q)->H' b=some (.tbl ps q))(ns:∀ m,s.heap.Ns X.env.locals m->h'.Ns X.env.locals m)(hok:HOk X.prog X.w H' h')(hg:AllBare g'):Inv X pins σ H' { s with heap:=h',gens:=g',drawn:=d',toks:=t' }:=by
 have neL:∀ b o,X.s₀.heap.get? b=some o->b≠X.env.locals:=λb o e=>yH (yE (yQ e) I.ok.above);have neC:∀ b o,X.s₀.heap.get? b=some o->b∉X.ex->b∉ch:=λb o e hx hb=>by
  rcases (hch b hb).1 with z|z
  ·exact hx z
  ·exact absurd (yE (yQ e) z) (uU _)
 have cellK:∀ x c,X.env.cells.lookup x=some c->∀ v,s.heap.IsCell c v->h'.IsCell c v:=λx c e v ⟨o,ho,hd⟩=>by
  have nch:c∉ch:=λz=>(hch c z).2.2.1 x c e rfl;by_cases hc:c∈X.fs
  ·obtain ⟨sl,q⟩:=slot c o (I.cne x c e) hc nch ho (I.freeC x c e);exact ⟨_,q,hd⟩
  ·exact ⟨o,keep c o (I.cne x c e) hc nch ho (I.freeC x c e),hd⟩
 refine ⟨I.ok,I.os,hg,⟨λb o e n hb hx=>?_,λb o e n hb hx=>?_,λb o e n hx=>?_,λb o e hx=>?_,λb xs e=>tups b xs (I.base.tups b xs e),λb o xs e=>frzs b o xs (I.base.frzs b o xs e),λb ps q e=>tbls b ps q (I.base.tbls b ps q e)⟩,?_,λx c e=>?_,?_,λx c e=>?_,λp hp=>?_,hok,I.len⟩
 ·exact keep b o (neL b o e) hb (neC b o e hx) (I.base.keep b o e n hb hx) (I.base.free b o e n hx)
 ·obtain ⟨sl,e1⟩:=I.base.slot b o e n hb hx;obtain ⟨sl',e2⟩:=slot b _ (neL b o e) hb (neC b o e hx) e1 (I.base.free b o e n hx);exact ⟨sl',e2⟩
 ·obtain ⟨o',e1⟩:=I.base.there b o e hx;exact free b o' (neC b o e hx) e1 (I.base.free b o e n hx)
 ·obtain ⟨o',e1⟩:=I.base.there b o e hx;exact there b o' (neC b o e hx) e1
 ·obtain ⟨m,hn,hl⟩:=I.loc;refine ⟨m,ns m hn,λi x v e1 e2 e3=>?_⟩;obtain ⟨u,r,l⟩:=hl i x v e1 e2 e3;refine ⟨u,r,?_⟩;rcases l with l|⟨k,c,e,z⟩
  ·exact .inl l
  ·exact .inr ⟨k,c,e,cellK x c e _ z⟩
 ·obtain ⟨v,z⟩:=I.cell x c e;exact ⟨v,cellK x c e v z⟩
 ·obtain ⟨m,⟨o,_,_,ho,_⟩,_⟩:=I.loc;exact free _ o (λz=>(hch _ z).2.1 rfl) ho I.free
 ·obtain ⟨v,o,ho,hd⟩:=I.cell x c e;exact free c o (λz=>(hch c z).2.2.1 x c e rfl) ho (I.freeC x c e)
 ·obtain ⟨e,n,ne,nf,d⟩:=I.pin p hp;have nch:p.1∉ch:=λz=>(hch p.1 z).2.2.2 p hp rfl;exact ⟨keep p.1 p.2 ne nf nch e n,free p.1 p.2 nch e n,ne,nf,d⟩
theorem Inv.un (I:Inv X pins σ H s)(u:Un X.fs [] H H' s.heap h')(hok:HOk X.prog X.w H' h'):Inv X pins σ H' { s with heap:=h',toks:=t' }:=by
 obtain ⟨m,⟨o,es,ep,ho,r⟩,_⟩:=id I.loc;obtain ⟨sl,hL⟩:=u.any ho I.free (by simp);exact I.step (g':=s.gens) (d':=s.drawn) (ch:=[]) (λ_ z=>nomatch z) (λb o _ hb _ e n=>u.keep b o e n hb (by simp)) (λb o _ hb _ e n=>u.slot b o e n hb (by simp)) (λb o _ e n=>u.free b o e n (by simp)) (λb o _ e=>u.there b o e (by simp)) u.tups u.frzs u.tbls (λm' hm=>by
  obtain ⟨o',es',ep',ho',r'⟩:=hm;rw [ho] at ho';cases ho';exact ⟨_,es',ep',hL,r'⟩) hok I.bare
theorem Inv.call (I:Inv X pins σ H s)(u:Un (b9 X.stack) ch H H' s.heap h')(hok:HOk X.prog X.w H' h')(hg:AllBare g')(hch:∀ b∈ch,(b∈X.ex∨X.s₀.heap.objs.size<=b)/\b≠X.env.locals/\(∀ x c,X.env.cells.lookup x=some c->c≠b)/\∀ p∈X.pn++pins,p.1≠b):Inv X pins σ H' { s with heap:=h',gens:=g',drawn:=d',toks:=t' }:=by
 obtain ⟨m,⟨o,es,ep,ho,r⟩,_⟩:=id I.loc;obtain ⟨sl,hL⟩:=u.any ho I.free λz=>(hch _ z).2.1 rfl;exact I.step (ch:=ch) hch (λb o hL hb hc e n=>u.keep b o e n (λz=>(yJ.mp (I.stkSub b z)).elim hL hb) hc) (λb o _ _ hc e n=>u.any e n hc) (λb o hc e n=>u.free b o e n hc) (λb o hc e=>u.there b o e hc) u.tups u.frzs u.tbls (λm' hm=>by
  obtain ⟨o',es',ep',ho',r'⟩:=hm;rw [ho] at ho';cases ho';exact ⟨_,es',ep',hL,r'⟩) hok hg
theorem Inv.turned (I:Inv X pins σ H s)(k:∀ b o,b≠it->s.heap.get? b=some o->h'.get? b=some o)(hn:H it=none)(hL:it≠X.env.locals)(h1:it∈X.ex∨X.s₀.heap.objs.size<=it)(h2:∀ x c,X.env.cells.lookup x=some c->c≠it)(h3:∀ p∈X.pn++pins,p.1≠it):Inv X pins σ H { s with heap:=h',toks:=t' }:=by
 have nit:∀ b u,H b=some u->b≠it:=λb u e z=>by rw [z,hn] at e;cases e
 refine I.step (g':=s.gens) (d':=s.drawn) (ch:=[it]) (λb hb=>?_) (λb o _ _ hc e _=>k b o (λz=>hc (by simp [z])) e) (λb o _ _ hc e _=>⟨o.slots,k b o (λz=>hc (by simp [z])) e⟩) (λ_ _ _ _ n=>n)
  (λb o hc e=>⟨o,k b o (λz=>hc (by simp [z])) e⟩) (λ_ _ e=>e) (λ_ _ _ e=>e) (λ_ _ _ e=>e) (λm hm=>?_) (λb u e=>?_) I.bare
 ·have e:b=it:=by simpa using hb
  subst e;exact ⟨h1,hL,h2,h3⟩
 ·obtain ⟨o,es,ep,ho,r⟩:=hm;exact ⟨o,es,ep,k _ o (Ne.symm hL) ho,r⟩
 ·refine (I.hok b u e).stay (λc v hc q=>k c v ?_ q) (λ_ q=>q) (λ_ _ q=>q) λ_ _ _ q=>q;rcases hc with z|z
  ·rw [z];exact nit b u e
  ·exact nit c _ z
theorem Inv.tok (I:Inv X pins σ H s)(t:Nat):Inv X pins σ H { s with toks:=t }:=I.un (h':=s.heap) (t':=t) Un.refl I.hok
theorem Inv.kept (I:Inv X pins σ H s)(k:∀ b u,s.heap.get? b=some u->h'.get? b=some u):Inv X pins σ H { s with heap:=h',toks:=t' }:=I.un (Un.kept k) (I.hok.kept k)
theorem Inv.laid (I:Inv X pins σ H s)(k:∀ b u,s.heap.get? b=some u->h'.get? b=some u)(hp:s.heap.objs.size<=a)(new:ObjOk X.prog X.w (z6 H a o) h' a o):Inv X pins σ (z6 H a o) { s with heap:=h',toks:=t' }:=I.un (Un.laid k hp (I.hok.fresh hp)) (I.hok.laid k hp new)
theorem Inv.write {x e:Addr}(I:Inv X pins σ H s)(mu:Mut (H x))(he:e=x∨H e=some (.own x))(k:∀ b u,b≠e->s.heap.get? b=some u->h'.get? b=some u)(heo:∃ u,h'.get? e=some u)(new:ObjOk X.prog X.w (z6 H x o) h' x o):Inv X pins σ (z6 H x o) { s with heap:=h',toks:=t' }:=I.un (Un.write mu he k heo) (I.hok.write mu he k heo new)
theorem Inv.weak {σ':List (Option V)}(I:Inv X pins σ H s)(hl:σ'.length=σ.length)(w:∀(i:Nat) v,σ'[i]?=some (some v)->σ[i]?=some (some v)):Inv X pins σ' H s :=
 ⟨I.ok,I.os,I.bare,I.base,let ⟨m,hn,hl'⟩:=I.loc;⟨m,hn,λi x v e1 e2 e3=>hl' i x v e1 (w i v e2) e3⟩,I.cell,I.free,I.freeC,I.pin,I.hok,hl.trans I.len⟩
theorem Inv.pins_of {pins':List (Addr×Obj)}(I:Inv X pins σ H s)(h:∀ p∈pins',s.heap.get? p.1=some p.2/\H p.1=none/\p.1≠X.env.locals/\p.1∉X.fs/\∀ v,p.2.data ≠ .cell v):Inv X pins' σ H s :=
 ⟨I.ok,I.os,I.bare,I.base,I.loc,I.cell,I.free,I.freeC,λp hp=>(yB.mp hp).elim (λz=>I.pin p (yg _ z)) (h p),I.hok,I.len⟩
theorem ZQ (hN:N.Nodup){i:Nat}(a:N[i]?=some x)(b:N[j]?=some x):i=j:=by obtain ⟨h1,e1⟩:=yv.mp a;obtain ⟨h2,e2⟩:=yv.mp b;exact (List.getElem_inj hN).mp (e1.trans e2.symm)
theorem UL {M:Model}{i:Nat}{Q:Unit->Shared->Prop}(I:Inv X pins σ H s)(hN:X.N.Nodup)(hi:X.N[i]?=some x)(hx:Loc X.env.scope x)(r:RelV v u)(h:∀ s',Inv X pins (σ.set i (some v)) H s'->(∃ a,Heap.SameBut a s.heap s'.heap/\(a=X.env.locals∨X.env.cells.lookup x=some a))->Q () s')(hf:X.fn x=true∨X.env.scope.names.lookup x=some .local:=by first|exact .inl rfl|exact .inr rfl|assumption):wpAny M A (storeName X.env x u) Q E s:=by
 obtain ⟨m,hn,hl⟩:=id I.loc;have hcls:(X.env.scope.kind == .class || (X.env.scope.kind == .module&&X.env.locals != X.env.globals))=false:=by rw [I.ok.kind];rfl
 have hiσ:i<σ.length:=by rw [I.len];exact (yv.mp hi).1
 have cne:=I.cne;have tracked:∀{a:Addr}{h':Heap},(∃ o,s.heap.get? a=some o/\H a=none)->Heap.SameBut a s.heap h'->HOk X.prog X.w H h':=λ{a h'} ha hs b ob e=>by
  obtain ⟨_,_,hfree⟩:=ha;refine (I.hok b ob e).stay (λc w' hc q=>(hs.2 c ?_).trans q) (λ_ q=>q) (λ_ _ q=>q) λ_ _ _ q=>q;rintro rfl;rcases hc with rfl|hc
  ·rw [hfree] at e;cases e
  ·rw [hfree] at hc;cases hc
 rcases hx with hk|hk
 ·refine wpAny_storeName_local hk hn (λh' hn' hs=>?_) hcls;obtain ⟨oL,_,_,hoL,_⟩:=id hn;refine h _ ⟨I.ok,I.os,I.bare,⟨λb o e n hb hx=>?_,λb o e n hb hx=>?_,I.base.free,λb o e hx=>?_,I.base.tups,I.base.frzs,I.base.tbls⟩,⟨_,hn',λj y v' e1 e2 e3=>?_⟩,λy c e=>?_,I.free,I.freeC,λp hp=>?_,tracked ⟨oL,hoL,I.free⟩ hs,by simpa using I.len⟩ ⟨_,hs,.inl rfl⟩
  ·exact (hs.2 b (yH (yE (yQ e) I.ok.above))).trans (I.base.keep b o e n hb hx)
  ·obtain ⟨sl,e1⟩:=I.base.slot b o e n hb hx;exact ⟨sl,(hs.2 b (yH (yE (yQ e) I.ok.above))).trans e1⟩
  ·obtain ⟨o',e1⟩:=I.base.there b o e hx;exact ⟨o',(hs.2 b (yH (yE (yQ e) I.ok.above))).trans e1⟩
  ·by_cases hj:j=i
   ·subst hj;rw [hi] at e1;cases e1;rw [uX hiσ] at e2;cases e2;exact ⟨u,r,.inl ⟨hk,by simp⟩⟩
   ·rw [yr (Ne.symm hj)] at e2;obtain ⟨u',r',q⟩:=hl j y v' e1 e2 e3;refine ⟨u',r',?_⟩;rcases q with ⟨k,e⟩|⟨k,c,e,z⟩
    ·refine .inl ⟨k,?_⟩;have:y≠x:=λe=>hj (ZQ hN e1 (e▸hi));simp [this,e]
    ·exact .inr ⟨k,c,e,z.sameBut hs (cne y c e)⟩
  ·obtain ⟨w',z⟩:=I.cell y c e;exact ⟨w',z.sameBut hs (cne y c e)⟩
  ·obtain ⟨e,n,ne,nf,d⟩:=I.pin p hp;exact ⟨(hs.2 p.1 ne).trans e,n,ne,nf,d⟩
 ·have hfn:X.fn x=true:=by
   rcases hf with z|z
   ·exact z
   ·rw [z] at hk;cases hk
  obtain ⟨c,hc⟩:=I.ok.has x (.inl hk);obtain ⟨w',z⟩:=I.cell x c hc;refine wpAny_storeName_cell I.ok.kind hk hc z (λh' hc' hs=>?_);obtain ⟨oc,hoc,hocd⟩:=id z;refine h { s with heap:=h' } ⟨I.ok,I.os,I.bare,⟨λb o e n hb hx=>?_,λb o e n hb hx=>?_,I.base.free,λb o e hx=>?_,I.base.tups,I.base.frzs,I.base.tbls⟩,⟨m,hn.sameBut hs (Ne.symm (cne x c hc)),λj y v' e1 e2 e3=>?_⟩,λy c' e=>?_,I.free,I.freeC,λp hp=>?_,tracked ⟨oc,hoc,I.freeC x c hc⟩ hs,by simpa using I.len⟩ ⟨c,hs,.inr hc⟩
  ·exact (hs.2 b (yH (yE (yQ e) (I.ok.cab x c hfn hc)))).trans (I.base.keep b o e n hb hx)
  ·obtain ⟨sl,e1⟩:=I.base.slot b o e n hb hx;exact ⟨sl,(hs.2 b (yH (yE (yQ e) (I.ok.cab x c hfn hc)))).trans e1⟩
  ·obtain ⟨o',e1⟩:=I.base.there b o e hx;exact ⟨o',(hs.2 b (yH (yE (yQ e) (I.ok.cab x c hfn hc)))).trans e1⟩
  ·by_cases hj:j=i
   ·subst hj;rw [hi] at e1;cases e1;rw [uX hiσ] at e2;cases e2;exact ⟨u,r,.inr ⟨.inl hk,c,hc,hc'⟩⟩
   ·rw [yr (Ne.symm hj)] at e2;obtain ⟨u',r',q⟩:=hl j y v' e1 e2 e3;refine ⟨u',r',?_⟩;rcases q with q|⟨k,c',e,z'⟩
    ·exact .inl q
    ·refine .inr ⟨k,c',e,z'.sameBut hs ?_⟩;rintro rfl;exact hj (ZQ hN e1 (I.ok.inj _ _ _ e hc▸hi))
  ·by_cases hcc:c'=c
   ·subst hcc;exact ⟨_,hc'⟩
   ·obtain ⟨w2,z2⟩:=I.cell y c' e;exact ⟨w2,z2.sameBut hs hcc⟩
  ·obtain ⟨e,n,ne,nf,d⟩:=I.pin p hp;refine ⟨(hs.2 p.1 ?_).trans e,n,ne,nf,d⟩;intro q;rw [q,hoc] at e;have q':oc=p.2:=Option.some.inj e;exact d w' (by rw [<- q'];exact hocd)
theorem Vi {M:Model}{i:Nat}{Q:Unit->Shared->Prop}(I:Inv X pins σ H s)(hN:X.N.Nodup)(hi:X.N[i]?=some x)(hx:Loc X.env.scope x)(r:RelV v u)(h:∀ s',Inv X pins (σ.set i (some v)) H s'->Q () s')(hf:X.fn x=true∨X.env.scope.names.lookup x=some .local:=by first|exact .inl rfl|exact .inr rfl|assumption):wpAny M A (storeName X.env x u) Q E s :=
 UL I hN hi hx r (λs' I' _=>h s' I') hf
theorem Inv.call' (I:Inv X pins σ H s)(ho:s'.os=s.os)(u:Un (b9 X.stack) ch H H' s.heap s'.heap)(hok:HOk X.prog X.w H' s'.heap)(hg:AllBare s'.gens)(hch:∀ b∈ch,(b∈X.ex∨X.s₀.heap.objs.size<=b)/\b≠X.env.locals/\(∀ x c,X.env.cells.lookup x=some c->c≠b)/\∀ p∈X.pn++pins,p.1≠b):Inv X pins σ H' s':=by obtain ⟨h',g',d',t',o'⟩:=s';have e:o'=s.os:=ho;subst e;exact I.call (g':=g') (t':=t') (d':=d') u hok hg hch
end
abbrev XK:=Value->Option Addr->Hp->Prop
abbrev St:=List (Option V)
variable{σ:St}
abbrev VK:=V->Hp->Prop
abbrev TE:=St->Hp->VK->Prop
variable{t te:TE}
abbrev TT:=St->Hp->(Bool->Hp->Prop)->Prop
abbrev TA:=St->Hp->(List V->Hp->Prop)->Prop
structure qu where
 nx:St->Hp->Prop
 rt:VK
 bk:St->Hp->Prop:=λ_ _=>False
 ct:St->Hp->Prop:=λ_ _=>False
variable{D:qu}
abbrev TS:=qu->St->Hp->Prop
def EP (X:Cx)(pins:List (Addr×Obj))(σ:St)(Q:VK)(u:Value)(s':Shared):Prop:=∃ v H',Inv X pins σ H' s'/\RelV v u/\Q v H'
def TP (X:Cx)(pins:List (Addr×Obj))(σ:St)(Q:Bool->Hp->Prop)(b:Bool)(s':Shared):Prop:=∃ H',Inv X pins σ H' s'/\Q b H'
def AP (X:Cx)(pins:List (Addr×Obj))(σ:St)(Q:List V->Hp->Prop)(us:List Value)(s':Shared):Prop:=∃ vs H',Inv X pins σ H' s'/\Vals vs us/\Q vs H'
def SP (X:Cx)(pins:List (Addr×Obj))(D:qu)(f:Flow)(s':Shared):Prop :=
 match f with
 | .next=>∃ σ' H',Inv X pins σ' H' s'/\D.nx σ' H'
 | .brk=>∃ σ' H',Inv X pins σ' H' s'/\D.bk σ' H'
 | .cont=>∃ σ' H',Inv X pins σ' H' s'/\D.ct σ' H'
 | .ret u=>∃ v σ' H',Inv X pins σ' H' s'/\RelV v u/\D.rt v H'
def PE (X:Cx)(e:Expr)(t:TE):Prop :=
 ∀(pins:List (Addr×Obj))(s:Shared)(σ:St)(H:Hp)(Q:VK),Inv X pins σ H s->t σ H Q->wpAny (model X.prog X.w) X.A (eval e X.env) (EP X pins σ Q) X.xe s
def PT (X:Cx)(e:Expr)(t:TT):Prop :=
 ∀(pins:List (Addr×Obj))(s:Shared)(σ:St)(H:Hp)(Q:Bool->Hp->Prop),Inv X pins σ H s->t σ H Q->wpAny (model X.prog X.w) X.A (isTrue e X.env (eval e X.env)) (TP X pins σ Q) X.xe s
def PW (X:Cx)(e:Expr)(t:TT):Prop :=
 ∀(whole:Sem Value)(pins:List (Addr×Obj))(s:Shared)(σ:St)(H:Hp)(Q:Bool->Hp->Prop),Inv X pins σ H s->t σ H Q->wpAny (model X.prog X.w) X.A (isTrue e X.env whole) (TP X pins σ Q) X.xe s
theorem PW.pt {t:TT}(h:PW X e t):PT X e t:=h _
def PA (X:Cx)(es:List Expr)(t:TA):Prop :=
 ∀(pos:Pos)(pins:List (Addr×Obj))(s:Shared)(σ:St)(H:Hp)(Q:List V->Hp->Prop),Inv X pins σ H s->t σ H Q->wpAny (model X.prog X.w) X.A (spliced (backTo pos (starEach es X.env))) (AP X pins σ Q) X.xe s
def PS (X:Cx)(st:Stmt)(t:TS):Prop :=
 ∀(pins:List (Addr×Obj))(s:Shared)(σ:St)(H:Hp)(D:qu),Inv X pins σ H s->t D σ H->wpAny (model X.prog X.w) X.A (exec st X.env) (SP X pins D) X.xe s
def PSs (X:Cx)(st:List Stmt)(t:TS):Prop :=
 ∀(pins:List (Addr×Obj))(s:Shared)(σ:St)(H:Hp)(D:qu),Inv X pins σ H s->t D σ H->wpAny (model X.prog X.w) X.A (execs st X.env) (SP X pins D) X.xe s
theorem j5 {t:Sem α}{Q Q':α->Shared->Prop}{M:Model}(h:wpAny M A t Q E s)(hQ:∀ a s,Q a s->Q' a s):wpAny M A t Q' E s:=wpAny_mono h hQ λ_ _ x=>x
section
variable {X:Cx}
theorem bin {a b:Expr}{ta tb:TE}(ha:PE X a ta)(hb:PE X b tb)(I:Inv X pins σ H s)(h:ta σ H λx H1=>tb σ H1 λy H2=>R x y H2){Q:α->Shared->Prop}{f:Value->Value->Sem α}(hf:∀ v u s2 x y H2,Inv X pins σ H2 s2->RelV x v->RelV y u->R x y H2->wpAny (model X.prog X.w) X.A (f v u) Q X.xe s2):wpAny (model X.prog X.w) X.A (eval a X.env) (λv s₁=>wpAny (model X.prog X.w) X.A (eval b X.env) (λu s₂=>wpAny (model X.prog X.w) X.A (f v u) Q X.xe s₂) X.xe s₁) X.xe s:=by refine j5 (ha pins s σ H _ I h) λv s1 zq=>?_;obtain ⟨x,H1,I1,r1,q1⟩:=zq;refine j5 (hb pins s1 σ H1 _ I1 q1) λu s2 zq=>?_;obtain ⟨y,H2,I2,r2,q2⟩:=zq;exact hf v u s2 x y H2 I2 r1 r2 q2
def qh (i:Nat):TE:=λσ H Q=>∃ v,σ[i]?=some (some v)/\Q v H
def tC (v:V):TE:=λ_ H Q=>Q v H
theorem Dg {i:Nat}(hN:X.N[i]?=some x)(hv:Vis X.env.scope x)(hd:(x==("__debug__":Str))=false:=by decide)(hcd:(x==("__classdict__":Str))=false:=by decide):PE X (.Name x pos) (qh i):=by
 intro pins s σ H Q I h;obtain ⟨v,e,h⟩:=h;obtain ⟨m,hn,hl⟩:=I.loc;obtain ⟨u,r,l⟩:=hl i x v hN e hv;have fin:EP X pins σ Q u s:=⟨v,H,I,r,h⟩;rcases l with ⟨hk,hm⟩|⟨hk,c,hc,hcell⟩
 ·exact wpAny_Name (wpAny_loadName_local I.ok.kind hk hn hm fin) hd
 ·rcases hk with hk|hk
  ·exact wpAny_Name (wpAny_loadName_cell I.ok.kind hk hc hcell fin) hd
  ·exact wpAny_Name (wpAny_loadName_free I.ok.kind hk hc hcell fin hcd) hd
theorem j3 {i j pos}:PE X (.Constant (.int i) j pos) (tC (.int i)):=λ_ _ _ H _ I h=>wpAny_Constant_int ⟨.int i,H,I.tok _,⟨_,rfl⟩,h⟩
theorem qU {b j pos}:PE X (.Constant (.bool b) j pos) (tC (.bl b)):=λ_ _ _ H _ I h=>Constant_bool ⟨.bl b,H,I,rfl,h⟩
theorem xX {j pos}:PE X (.Constant .none j pos) (tC .non):=λ_ _ _ H _ I h=>Constant_none ⟨.non,H,I,rfl,h⟩
theorem xj {x j pos}:PE X (.Constant (.str x) j pos) (tC (.str x)):=λ_ _ _ H _ I h=>Calls.Constant_str ⟨.str x,H,I.tok _,⟨_,rfl⟩,h⟩
def Gl (X:Cx)(x:Str):Prop:=X.env.kindOf x=some .globalImplicit
theorem vj (I:Inv X pins σ H s)(hg:Gl X x)(hm:X.mg x=some u)(h:Q u s)(hd:(x==("__debug__":Str))=false:=by decide):wpAny (model X.prog X.w) X.A (eval (.Name x pos) X.env) Q E s :=
 Calls.Name_function_global I.ok.kind hg (Calls.loadGlobal_global (by rw [I.ok.glob];exact I.mod.glob.keeps I.bk) hm h) hd
theorem vi (I:Inv X pins σ H s)(hg:Gl X x)(hm:X.mg x=none)(hv:bootBuiltins x=some u)(h:Q u s)(hn:x ≠ "__name__":=by decide)(hd:(x==("__debug__":Str))=false:=by decide):wpAny (model X.prog X.w) X.A (eval (.Name x pos) X.env) Q E s:=by obtain ⟨mb,h1,h2⟩:=I.mod.blt;exact Calls.Name_function_global I.ok.kind hg (Calls.loadGlobal_builtin (by rw [I.ok.glob];exact I.mod.glob.keeps I.bk) hm (by rw [I.ok.blt];exact h1.keeps I.bk) ((h2 x hn).trans hv) h) hd
theorem jO (hg:Gl X x)(hm:X.mg x=some u)(r:RelV v u)(hd:(x==("__debug__":Str))=false:=by decide):PE X (.Name x pos) (tC v) :=
 λ_ _ _ H _ I h=>vj I hg hm ⟨v,H,I,r,h⟩ hd
theorem vy (hg:Gl X x)(hm:X.mg x=none)(hv:bootBuiltins x=some u)(r:RelV v u)(hn:x ≠ "__name__":=by decide)(hd:(x==("__debug__":Str))=false:=by decide):PE X (.Name x pos) (tC v) :=
 λ_ _ _ H _ I h=>vi I hg hm hv ⟨v,H,I,r,h⟩ hn hd
variable {a b:Expr}{ta tb:TE}{pos:Pos}
def PC (X:Cx)(op:CmpOp)(a b:Expr)(t:TE):Prop :=
 ∀(pins:List (Addr×Obj))(s:Shared)(σ:St)(H:Hp)(Q:VK),Inv X pins σ H s->t σ H Q ->
  wpAny (model X.prog X.w) X.A (eval a X.env) (λv s₁=>wpAny (model X.prog X.w) X.A (eval b X.env) (λu s₂=>wpAny (model X.prog X.w) X.A (compareOp op v u) (EP X pins σ Q) X.xe s₂) X.xe s₁) X.xe s
def tB (t:TE):TT:=λσ H Q=>t σ H λx H1=>∃ c,x = .bl c/\Q c H1
theorem DC (h:PC X op a b t)(h1:behindInMarks op b=false:=by first|exact nobehind _ (by decide) (by decide)|rfl):PT X (.Compare a [op] [b] pos) (tB t):=by intro pins s σ H Q I hw;refine wpAny_isTrue_Compare1 (j5 (h pins s σ H _ I hw) λv s1 h1=>j5 h1 λu s2 h2=>j5 h2 λc s3 zq=>?_) h1;obtain ⟨x,H1,I1,r1,q1⟩:=zq;obtain ⟨d,rfl,q⟩:=q1;cases r1;exact wpAny_truthy_bool ⟨H1,I1,q⟩
variable {tA tB':TT}{rest:List Expr}
def tAnd (t u:TT):TT:=λσ H Q=>t σ H λc H1=>if c=true then u σ H1 Q else Q false H1
def tOr (t u:TT):TT:=λσ H Q=>t σ H λc H1=>if c=true then Q true H1 else u σ H1 Q
def tNot (t:TT):TT:=λσ H Q=>t σ H λc H1=>Q (!c) H1
theorem Ue (ha:PT X a tA):PW X (.BoolOp .And [a] pos) tA:=by
 intro wh pins s σ H Q I h;refine isTrue_and (j5 (ha pins s σ H Q I h) λc s1 e=>?_);cases c with
 |true=>exact isTrue_and_nil e
 |false=>exact e
theorem vC (ha:PT X a tA):PW X (.BoolOp .Or [a] pos) tA:=by
 intro wh pins s σ H Q I h;refine isTrue_or (j5 (ha pins s σ H Q I h) λc s1 e=>?_);cases c with
 |false=>exact isTrue_or_nil e
 |true=>exact e
theorem Ud (ha:PT X a tA)(hb:PW X (.BoolOp .And (b::rest) pos) tB'):PW X (.BoolOp .And (a::b::rest) pos) (tAnd tA tB'):=by
 intro wh pins s σ H Q I h;refine isTrue_and (j5 (ha pins s σ H _ I h) λc s1 zq=>?_);obtain ⟨H1,I1,q1⟩:=zq;cases c with
 |true=>exact hb wh pins s1 σ H1 Q I1 q1
 |false=>exact ⟨H1,I1,q1⟩
theorem jP (ha:PT X a tA)(hb:PW X (.BoolOp .Or (b::rest) pos) tB'):PW X (.BoolOp .Or (a::b::rest) pos) (tOr tA tB'):=by
 intro wh pins s σ H Q I h;refine isTrue_or (j5 (ha pins s σ H _ I h) λc s1 zq=>?_);obtain ⟨H1,I1,q1⟩:=zq;cases c with
 |true=>exact ⟨H1,I1,q1⟩
 |false=>exact hb wh pins s1 σ H1 Q I1 q1
theorem xP (ha:PT X a tA):PT X (.UnaryOp .Not a pos) (tNot tA):=by intro pins s σ H Q I h;exact isTrue_not (ha pins s σ H (λc H1=>Q (!c) H1) I h)
def UO (ta tb:TE):TE:=λσ H Q=>ta σ H λx H1=>∃ c,x = .bl c/\if c=true then tb σ H1 Q else Q (.bl false) H1
def UR (ta:TE):TE:=λσ H Q=>ta σ H λx H1=>∃ c,x = .bl c/\Q (.bl (!c)) H1
theorem Xz {op}(h:PE X a t):PE X (.BoolOp op [a] pos) t:=λpins s σ H Q I hw=>BoolOp_one (h pins s σ H Q I hw)
theorem Qm (ha:PE X a ta)(hb:PE X (.BoolOp .And (b::rest) pos) tb):PE X (.BoolOp .And (a::b::rest) pos) (UO ta tb):=by
 intro pins s σ H Q I h;refine BoolOp_and (j5 (ha pins s σ H _ I h) λv s1 zq=>?_);obtain ⟨x,H1,I1,r1,q1⟩:=zq;obtain ⟨c,rfl,q1⟩:=q1;cases r1;refine wpAny_truthy_bool ?_;cases c with
 |true=>exact hb pins s1 σ H1 Q I1 q1
 |false=>exact ⟨.bl false,H1,I1,rfl,q1⟩
theorem De (ha:PE X a ta):PE X (.UnaryOp .Not a pos) (UR ta):=by intro pins s σ H Q I h;refine UnaryOp_ (j5 (ha pins s σ H _ I h) λv s1 zq=>?_);obtain ⟨x,H1,I1,r1,q1⟩:=zq;obtain ⟨c,rfl,q1⟩:=q1;cases r1;exact not_of (wpAny_truthy_bool ⟨.bl (!c),H1,I1,rfl,q1⟩)
def tIf (t:TT)(ta tb:TE):TE:=λσ H Q=>t σ H λc H1=>if c=true then ta σ H1 Q else tb σ H1 Q
theorem Jb (hc:PT X c tA)(ha:PE X a ta)(hb:PE X b tb):PE X (.IfExp c a b pos) (tIf tA ta tb):=by
 intro pins s σ H Q I h;refine wpAny_IfExp (j5 (hc pins s σ H _ I h) λd s1 zq=>?_);obtain ⟨H1,I1,q1⟩:=zq;cases d with
 |true=>exact ha pins s1 σ H1 Q I1 q1
 |false=>exact hb pins s1 σ H1 Q I1 q1
end
def SqL (K:Fg)(H:Hp)(a:Addr)(xs:List V):Prop :=
 Rd H a (.lst xs) ∨
  ∃ (o:Obj) (its:Array Value) (n:Nat),K.lookup a=some o/\o.cls = .type "list"/\o.dict=none/\o.data = .seq its n/\its.size<=sizeLine/\Vals xs its.toList
def SqT (K:Fg)(H:Hp)(a:Addr)(xs:List V):Prop :=
 Rd H a (.tup xs) ∨
  ∃ (o:Obj) (its:Array Value) (n:Nat),K.lookup a=some o/\o.cls = .type "tuple"/\o.data = .seq its n/\its.size<=sizeLine/\Vals xs its.toList
def absV:Value->Option V
 | .none=>some .non
 | .bool b=>some (.bl b)
 | .int i _=>some (.int i)
 | .str x _=>some (.str x)
 | .bytes b _=>some (.byt b)
 | .float b _=>some (.flt b)
 | .ref a=>some (.ref a)
 | .type n=>some (.ty n)
 |_=>none
theorem RelV.abs {x:V}(r:RelV x u):absV u=some x:=by
 cases x with
 |non=>cases r;rfl
 |bl _=>cases r;rfl
 |int _=>obtain ⟨t,rfl⟩:=r;rfl
 |str _=>obtain ⟨t,rfl⟩:=r;rfl
 |byt _=>obtain ⟨t,rfl⟩:=r;rfl
 |flt _=>obtain ⟨t,rfl⟩:=r;rfl
 |ref _=>cases r;rfl
 |ty _=>cases r;rfl
theorem RelV.inj {x:V}(r:RelV x u)(q:RelV y u):x=y:=Option.some.inj (r.abs.symm.trans q.abs)
theorem Vals.inj:∀{xs ys:List V}{us:List Value},Vals xs us->Vals ys us->xs=ys
 |_,_,_,.nil,.nil=>rfl
 |_,_,_,.cons r t,.cons r' t'=>by rw [r.inj r',Vals.inj t t']
section
variable {X:Cx}{pins:List (Addr×Obj)}{σ:St}{H:Hp}{s:Shared}{a:Addr}{xs ys:List V}
theorem SqL.of (h:H a=some (.lst xs)):SqL K H a xs:= .inl (.inl h)
theorem SqT.of (h:H a=some (.tup xs)):SqT K H a xs:= .inl (.inl h)
theorem Inv.list (I:Inv X pins σ H s)(h:SqL X.K H a xs):∃ its:List Value,Vals xs its/\PlainL s.heap a its.toArray/\xs.length<=sizeLine:=by
 rcases h with h|⟨o,its,n,hk,hc,hd,hs,hz,r⟩
 ·obtain ⟨z,its,n,r,e⟩:=h.ok I.hok;exact ⟨its,r,⟨_,n,e,rfl,rfl,rfl⟩,z⟩
 ·refine ⟨its.toList,r,⟨o,n,I.kIn a o hk,hc,hd,by simpa using hs⟩,?_⟩;have e:=r.length;simp only [Array.length_toList] at e;omega
theorem Inv.tuple (I:Inv X pins σ H s)(h:SqT X.K H a xs):∃ its:List Value,Vals xs its/\IsTup s.heap a its.toArray/\xs.length<=sizeLine:=by
 rcases h with h|⟨o,its,n,hk,hc,hs,hz,r⟩
 ·obtain ⟨z,its,r,p⟩:=h.ok I.hok;exact ⟨its,r,p,z⟩
 ·refine ⟨its.toList,r,⟨o,I.kIn a o hk,hc,n,by simpa using hs⟩,?_⟩;have e:=r.length;simp only [Array.length_toList] at e;omega
theorem Inv.list_inj (I:Inv X pins σ H s)(h:SqL X.K H a xs)(h':SqL X.K H a ys):xs=ys:=by
 obtain ⟨its,r,⟨o,n,e,_,_,d⟩,_⟩:=I.list h;obtain ⟨its',r',⟨o',n',e',_,_,d'⟩,_⟩:=I.list h';rw [e] at e';cases e';rw [d] at d';injection d' with d1 _;have:its=its':=by simpa using congrArg Array.toList d1
 subst this;exact r.inj r'
theorem Inv.tuple_inj (I:Inv X pins σ H s)(h:SqT X.K H a xs)(h':SqT X.K H a ys):xs=ys:=by
 obtain ⟨its,r,⟨o,e,_,n,d⟩,_⟩:=I.tuple h;obtain ⟨its',r',⟨o',e',_,n',d'⟩,_⟩:=I.tuple h';rw [e] at e';cases e';rw [d] at d';injection d' with d1 _;have:its=its':=by simpa using congrArg Array.toList d1
 subst this;exact r.inj r'
end
abbrev Cx.wish (X:Cx)(E:Value->Shared->Prop):Cx:={ X with xe:=E }
abbrev Cx.nox (X:Cx):Cx:=X.wish λ_ _=>False
theorem Cx.Ok.wish (ok:X.Ok)(E:Value->Shared->Prop):(X.wish E).Ok :=
 ⟨ok.mod,ok.kind,ok.glob,ok.blt,ok.above,ok.inj,ok.has,ok.cab,ok.hd,ok.frames,ok.stk,ok.exf,ok.bs,ok.bsz,ok.noex,ok.exfs,ok.funs,ok.frf,ok.tbs⟩
theorem Cx.Ok.unwish (ok:(X.wish E).Ok):X.Ok :=
 ⟨ok.mod,ok.kind,ok.glob,ok.blt,ok.above,ok.inj,ok.has,ok.cab,ok.hd,ok.frames,ok.stk,ok.exf,ok.bs,ok.bsz,ok.noex,ok.exfs,ok.funs,ok.frf,ok.tbs⟩
section
variable {X:Cx}{pins:List (Addr×Obj)}{σ:St}{H:Hp}{s:Shared}{E:Value->Shared->Prop}
theorem Inv.wish (I:Inv X pins σ H s)(E:Value->Shared->Prop):Inv (X.wish E) pins σ H s:=⟨I.ok.wish E,I.os,I.bare,I.base,I.loc,I.cell,I.free,I.freeC,I.pin,I.hok,I.len⟩
theorem Inv.unwish (I:Inv (X.wish E) pins σ H s):Inv X pins σ H s:=⟨I.ok.unwish,I.os,I.bare,I.base,I.loc,I.cell,I.free,I.freeC,I.pin,I.hok,I.len⟩
theorem SP.unwish {f:Flow}(h:SP (X.wish E) pins D f s'):SP X pins D f s':=by
 cases f with
 |next=>obtain ⟨σ',H',I,q⟩:=h;exact ⟨σ',H',I.unwish,q⟩
 |brk=>obtain ⟨σ',H',I,q⟩:=h;exact ⟨σ',H',I.unwish,q⟩
 |cont=>obtain ⟨σ',H',I,q⟩:=h;exact ⟨σ',H',I.unwish,q⟩
 |ret u=>obtain ⟨v,σ',H',I,r,q⟩:=h;exact ⟨v,σ',H',I.unwish,r,q⟩
theorem PSs.nox {st:List Stmt}{t:TS}(h:PSs X.nox st t):PSs X st t:=λpins s σ H D I hw =>
 wpAny_mono (h pins s σ H D (I.wish _) hw) (λ_ _ q=>q.unwish) λ_ _ z=>False.elim z
end
section
variable {X:Cx}{st:Stmt}{rest:List Stmt}{t u:TS}{e:Expr}{te:TE}{pos:Pos}
def XN:TS:=λD σ H=>D.nx σ H
def tSeq (t u:TS):TS:=λD σ H=>t { D with nx:=u D } σ H
theorem qf:PSs X [] XN:=λ_ _ σ H _ I h=>wpAny_execs_nil ⟨σ,H,I,h⟩
theorem j9 (h1:PS X st t)(h2:PSs X rest u):PSs X (st::rest) (tSeq t u):=by
 intro pins s σ H D I h;refine wpAny_execs_cons (j5 (h1 pins s σ H { D with nx:=u D } I h) λf s1 q=>?_);cases f with
 |next=>obtain ⟨σ',H',I',q⟩:=q;exact h2 pins s1 σ' H' D I' q
 |ret v=>exact q
 |brk=>exact q
 |cont=>exact q
theorem v5 (h1:PS X st t):PSs X [st] t:=by
 intro pins s σ H D I h;refine wpAny_execs_cons (j5 (h1 pins s σ H D I h) λf s1 q=>?_);cases f with
 |next=>exact wpAny_execs_nil q
 |ret v=>exact q
 |brk=>exact q
 |cont=>exact q
theorem Inv.quiet (I:Inv X pins σ H s):interactive X.env=false:=by simp [interactive,I.ok.kind]
def xQ (te:TE):TS:=λD σ H=>te σ H λ_ H1=>D.nx σ H1
theorem vA (he:PE X e te)(hs:swapsWith e none pos.line X.env=pure false:=by rfl):PS X (.Expr e pos) (xQ te):=by intro pins s σ H D I h;exact wpAny_Expr_any (j5 (he pins s σ H _ I h) λv s1 ⟨x,H1,I1,r1,q1⟩=>⟨σ,H1,I1,q1⟩) I.quiet hs
def Qz (te:TE):TS:=λD σ H=>te σ H D.rt
theorem u4 (he:PE X e te):PS X (.Return (some e) pos) (Qz te):=by intro pins s σ H D I h;exact wpAny_Return_some (j5 (he pins s σ H _ I h) λv s1 ⟨x,H1,I1,r1,q1⟩=>⟨x,σ,H1,I1,r1,q1⟩)
def Qx (c:TT)(t u:TS):TS:=λD σ H=>c σ H λb H1=>if b=true then t D σ H1 else u D σ H1
theorem qe {a b:List Stmt}{tc:TT}(hc:PT X c tc)(ha:PSs X a t)(hb:PSs X b u):PS X (.If c a b pos) (Qx tc t u):=by
 intro pins s σ H D I h;refine wpAny_If (j5 (hc pins s σ H _ I h) λd s1 zq=>?_);obtain ⟨H1,I1,q1⟩:=zq;cases d with
 |true=>exact ha pins s1 σ H1 D I1 q1
 |false=>exact hb pins s1 σ H1 D I1 q1
end
abbrev TG:=V->St->Hp->(St->Hp->Prop)->Prop
variable{g:TG}
abbrev TGs:=List V->St->Hp->(St->Hp->Prop)->Prop
def PG (X:Cx)(target:Expr)(t:TG):Prop :=
 ∀(pins:List (Addr×Obj))(s:Shared)(σ:St)(H:Hp)(v:V)(u:Value)(Q:St->Hp->Prop),Inv X pins σ H s->RelV v u->t v σ H Q ->
  wpAny (model X.prog X.w) X.A (assign target X.env u) (λ_ s'=>∃ σ' H',Inv X pins σ' H' s'/\Q σ' H') X.xe s
def PGs (X:Cx)(ts:List Expr)(t:TGs):Prop :=
 ∀(pins:List (Addr×Obj))(s:Shared)(σ:St)(H:Hp)(vs:List V)(us:List Value)(Q:St->Hp->Prop),Inv X pins σ H s->Vals vs us->t vs σ H Q ->
  wpAny (model X.prog X.w) X.A (assignInOrder ((assignEach ts X.env).map (·.2)) us) (λ_ s'=>∃ σ' H',Inv X pins σ' H' s'/\Q σ' H') X.xe s
abbrev TSet:=V->V->V->Hp->(Hp->Prop)->Prop
def PSet (X:Cx)(t:TSet):Prop :=
 ∀(pins:List (Addr×Obj))(s:Shared)(σ:St)(H:Hp)(o i v:V)(ov iv u:Value)(Q:Hp->Prop),Inv X pins σ H s->RelV o ov->RelV i iv->RelV v u->t o i v H Q ->
  wpAny (model X.prog X.w) X.A (setItem ov iv u) (λ_ s'=>∃ H',Inv X pins σ H' s'/\Q H') X.xe s
section
variable {X:Cx}{pos:Pos}
def qC (i:Nat):TG:=λv σ H Q=>Q (σ.set i (some v)) H
theorem p5 {i:Nat}(hN:X.N.Nodup)(hi:X.N[i]?=some x)(hx:Loc X.env.scope x)(hf:X.fn x=true∨X.env.scope.names.lookup x=some .local:=by first|exact .inl rfl|exact .inr rfl|assumption):PG X (.Name x pos) (qC i):=by intro pins s σ H v u Q I r h;exact wpAny_assign_Name (Vi I hN hi hx r (λs' I'=>⟨_,H,I',h⟩) hf)
def gNil:TGs:=λvs σ H Q=>vs=[]/\Q σ H
def Xf (t:TG)(u:TGs):TGs:=λvs σ H Q=>∃ v r,vs=v::r/\t v σ H λσ' H'=>u r σ' H' Q
theorem Ji:PGs X [] gNil:=by intro pins s σ H vs us Q I r h;obtain ⟨e,h⟩:=h;subst e;cases r;exact assignInOrder_nil ⟨σ,H,I,h⟩
theorem jj {t:TG}{u:TGs}(h1:PG X e t)(h2:PGs X es u)(hs:(assignEach (e::es) X.env).map (·.2)=assign e X.env::(assignEach es X.env).map (·.2):=by rfl):PGs X (e::es) (Xf t u):=by
 intro pins s σ H vs us Q I r h;obtain ⟨v,vr,e1,h⟩:=h;subst e1;cases r with
 |cons r rr=>rw [hs];refine assignInOrder_cons (j5 (h1 pins s σ H _ _ _ I r h) λ_ s1 zq=>?_);obtain ⟨σ1,H1,I1,q1⟩:=zq;exact h2 pins s1 σ1 H1 _ _ Q I1 rr q1
def gTup (K:Fg)(n:Nat)(t:TGs):TG:=λv σ H Q=>∃ a xs,v = .ref a/\SqT K H a xs/\xs.length=n/\t xs σ H Q
theorem Di {k:Nat}{t:TGs}(hc:X.calm=true)(h:PGs X es t)(hn:(assignEach es X.env).length=n:=by rfl)(hst:(assignEach es X.env).findIdx? (·.1)=none:=by rfl):PG X (.Tuple es k pos) (gTup X.K n t):=by intro pins s σ H v u Q I r hw;obtain ⟨a,xs,e1,hq,hl,hw⟩:=hw;subst e1;cases r;obtain ⟨its,rv,ht,hz⟩:=I.tuple hq;refine assign_Tuple_tuple (I.ok.hd hc) ht (by simp [hn,<- hl,rv.length]) hst λh' hx=>?_;have I1:Inv X pins σ H { s with heap:=h' }:=I.kept (t':=s.toks) λb o e=>hx b o (yH (yQ e)) e;exact h pins _ σ H xs _ Q I1 (by simpa using rv) hw
def gSub (to ti:TE)(t:TSet):TG:=λv σ H Q=>to σ H λo H1=>ti σ H1 λi H2=>t o i v H2 λH3=>Q σ H3
theorem Jg {o i:Expr}{to ti:TE}{t:TSet}(ho:PE X o to)(hi:PE X i ti)(hs:PSet X t)
  (ha:∀ v,assign (.Subscript o i pos) X.env v=(do
   let ov <- holding [v] (eval o X.env)
   let iv <- holding [v,ov] (eval i X.env)
   standAt pos
   holding [v,ov,iv] (setItem ov iv v)
   release [v,ov,iv] []):=by intro _;rfl):PG X (.Subscript o i pos) (gSub to ti t):=by
 intro pins s σ H v u Q I r h;rw [ha];refine yY (wpAny_holding (j5 (ho pins s σ H _ I h) λov s1 zq=>?_));obtain ⟨x,H1,I1,r1,q1⟩:=zq;refine yY (wpAny_holding (j5 (hi pins s1 σ H1 _ I1 q1) λiv s2 zq=>?_));obtain ⟨y,H2,I2,r2,q2⟩:=zq;refine yY (wpAny_standAt (yY (wpAny_holding (j5 (hs pins s2 σ H2 x y v ov iv u _ I2 r1 r2 r q2) λ_ s3 zq=>?_))));obtain ⟨H3,I3,q3⟩:=zq;exact wpAny_release ⟨σ,H3,I3,q3⟩
def xl (te:TE)(g:TG):TS:=λD σ H=>te σ H λx H1=>g x σ H1 D.nx
theorem XF (he:PE X e te)(hg:PG X tg g)(hs:swapsWithSole [tg] e pos.line X.env=pure false:=by rfl)(hw:swappedStores [tg] e X.env=pure none:=by rfl)(h1:(assignEach [tg] X.env).map (·.2)=[assign tg X.env]:=by rfl):PS X (.Assign [tg] e pos) (xl te g):=by intro pins s σ H D I h;refine wpAny_Assign_stores (j5 (he pins s σ H _ I h) λv s1 zq=>?_) hs hw;obtain ⟨x,H1,I1,r1,q1⟩:=zq;rw [h1];exact j5 (hg pins s1 σ H1 x v _ I1 r1 q1) λ_ s2 q=>q
theorem qp {i:Nat}{x:Str}{e:Expr}{te:TE}{pos':Pos}(hN:X.N.Nodup)(hi:X.N[i]?=some x)(hx:Loc X.env.scope x)(he:PE X e te)(hs:swapsWith e (some (.Name x pos')) pos.line X.env=pure false:=by rfl)(hf:X.fn x=true∨X.env.scope.names.lookup x=some .local:=by first|exact .inl rfl|exact .inr rfl|assumption):PS X (.Assign [.Name x pos'] e pos) (xl te (qC i)):=by intro pins s σ H D I h;refine wpAny_Assign_Name (j5 (he pins s σ H _ I h) λv s1 zq=>?_) hs;obtain ⟨y,H1,I1,r1,q1⟩:=zq;exact Vi I1 hN hi hx r1 (λs2 I2=>⟨_,H1,I2,q1⟩) hf
end
structure It where
 go:Nat->Hp->Prop
 yld:Nat->Hp->V->Hp->Prop
 stop:Nat->Hp->Prop
def qT (X:Cx)(pins:List (Addr×Obj))(H:Hp)(b:Addr):Prop :=
 H b=none/\b≠X.env.locals/\b∉X.fs/\(b∈X.ex∨X.s₀.heap.objs.size<=b)/\(∀ x c,X.env.cells.lookup x=some c->c≠b)/\∀ p∈X.pn++pins,p.1≠b
theorem Inv.fpOk (I:Inv X pins σ H s)(hb:s.heap.objs.size<=b)(hn:H' b=none):qT X pins H' b:=by
 refine ⟨hn,Nat.ne_of_gt (yE I.lt hb),I.nofs hb,.inr (yd I.sz hb),λx c e z=>?_,λp hp z=>?_⟩
 ·obtain ⟨v,q⟩:=I.cell x c e;exact absurd (yE q.lt (by rw [z];exact hb)) (uU _)
 ·exact absurd (yE (yQ (I.pin p hp).1) (by rw [z];exact hb)) (uU _)
structure jC (P:Program)(w:World)(K:Fg)(tg:Expr)(J:It)(fp:List Addr)(it:Addr)(tn:Nat->Heap->Prop):Prop where
 mem:it∈fp
 obj:∀ i h,tn i h->∀ b∈fp,∃ o,h.get? b=some o/\∀ v,o.data ≠ .cell v
 keep:∀ i h h',tn i h->(∀ b∈fp,∀ o,h.get? b=some o->h'.get? b=some o)->tn i h'
 item:∀(X:Cx),X.prog=P->X.w=w->X.K=K->X.calm=true->∀(i:Nat)(pins:List (Addr×Obj))(s:Shared)(σ:St)(H:Hp)(E:Value->Shared->Prop),Inv X pins σ H s->(∀ b∈fp,qT X pins H b)->tn i s.heap->J.go i H ->
  wpAny (model P w) X.A (pyNext (.ref it)) (λr s1=>∃ u,r=some u /\
   wpAny (model P w) X.A (letOwnedTupleGo tg (.ref it) u) (λ_ s2=>∃ x H',Inv X pins σ H' s2/\RelV x u/\J.yld i H x H'/\tn (i+1) s2.heap/\∀ b∈fp,H' b=none) E s1) E s
 done:∀(X:Cx),X.prog=P->X.w=w->X.K=K->X.calm=true->∀(i:Nat)(pins:List (Addr×Obj))(s:Shared)(σ:St)(H:Hp)(E:Value->Shared->Prop),Inv X pins σ H s->(∀ b∈fp,qT X pins H b)->tn i s.heap->J.stop i H ->
  wpAny (model P w) X.A (pyNext (.ref it)) (λr s1=>r=none/\Inv X pins σ H s1) E s
 self:∀(A:Around)(i:Nat)(s:Shared)(Q:Value->Shared->Prop)(E:Value->Shared->Prop),tn i s.heap->Q (.ref it) s->wpAny (model P w) A (pyIter (.ref it)) Q E s
abbrev TI:=St->Hp->(It->Hp->Prop)->Prop
def PIE (X:Cx)(pins:List (Addr×Obj))(σ:St)(tg:Expr)(R:It->Hp->Prop)(itv:Value)(s2:Shared):Prop :=
 ∃(it:Addr)(fp:List Addr)(tn:Nat->Heap->Prop)(J:It)(H':Hp),itv = .ref it/\Inv X pins σ H' s2/\jC X.prog X.w X.K tg J fp it tn/\tn 0 s2.heap/\(∀ b∈fp,qT X pins H' b)/\R J H'
def PI (X:Cx)(tg iter:Expr)(wi:TI):Prop :=
 ∀(pins:List (Addr×Obj))(s:Shared)(σ:St)(H:Hp)(R:It->Hp->Prop),Inv X pins σ H s->wi σ H R ->
  wpAny (model X.prog X.w) X.A (eval iter X.env) (λv s1=>wpAny (model X.prog X.w) X.A (pyIter v) (PIE X pins σ tg R) X.xe s1) X.xe s
theorem Zy {M:Model}{o:Obj}{n:String}{vs:Array Value}{Q:Unit->Shared->Prop}(ho:s.heap.get? it=some o)(hc:o.cls = .type n)(hd:o.data = .fields vs)(hn:["enumerate","zip","dict_itemiterator","dict_reverseitemiterator","odict_iterator","itertools.zip_longest","itertools.pairwise"].contains n=false)(hQ:Q () s):wpAny M A (letOwnedTupleGo tg (.ref it) u) Q E s:=by
  unfold letOwnedTupleGo;cases tg<;>first
    |exact yP hQ
    | (cases u <;> first
        |exact yP hQ
        | (refine yY (wpAny_load ho ?_)
           rw [hc,hd];show wpAny M A (if (["enumerate","zip","dict_itemiterator","dict_reverseitemiterator","odict_iterator","itertools.zip_longest","itertools.pairwise"].contains n&&vs[0]?==some (rawInt _))=true then _ else _) Q E s;rw [if_neg (by intro h;rw [hn,Bool.false_and] at h;cases h)];exact yP hQ))
def Itl (K:Fg)(a:Addr):It :=
 ⟨λi H=>∃ xs x,SqL K H a xs/\xs[i]?=some x,λi H x H'=>H'=H/\∀ xs,SqL K H a xs->xs[i]?=some x,λi H=>∃ xs,SqL K H a xs/\xs.length<=i⟩
def Itr (lo:Int)(n:Nat):It:=⟨λi _=>i<n,λi H x H'=>H'=H/\x = .int (lo+i),λi _=>n<=i⟩
theorem Lf (a it:Addr):jC P w K tg (Itl K a) [it] it (λi h=>h.IsListIter it a i) where
 mem:=by simp
 obj:=λi h st b hb=>by
  have e:b=it:=by simpa using hb
  subst e;obtain ⟨o,e,c,d⟩:=st;exact ⟨o,e,λv z=>by rw [d] at z;cases z⟩
 keep:=λi h h' st k=>st.at λo e=>k it (by simp) o e
 item:=by intro X hP hw hK hc i pins s σ H E I hf st hg;subst hP hw hK;obtain ⟨xs,x,hq,hx⟩:=hg;obtain ⟨its,rv,p,hz⟩:=I.list hq;obtain ⟨u,hu,ru⟩:=rv.get hx;obtain ⟨f0,f1,f2,f3,f4,f5⟩:=hf it (by simp);refine wpAny_pyNext_list_item st p.isList (x:=u) (by simpa using hu) λh' st' sb=>?_;have I1:Inv X pins σ H { s with heap:=h' }:=I.turned (t':=s.toks) (λb o hb e=>(sb.2 b hb).trans e) f0 f1 f3 f4 f5;obtain ⟨o,e,c,d⟩:=id st';exact ⟨u,rfl,Zy (s:={ s with heap:=h' }) e c d (by decide) ⟨x,H,I1,ru,⟨rfl,λys hy=>by rw [I.list_inj hy hq];exact hx⟩,st',λb hb=>(hf b hb).1⟩⟩
 done:=by intro X hP hw hK hc i pins s σ H E I hf st hg;subst hP hw hK;obtain ⟨xs,hq,hx⟩:=hg;obtain ⟨its,rv,p,hz⟩:=I.list hq;obtain ⟨f0,f1,f2,f3,f4,f5⟩:=hf it (by simp);have hl:=rv.length;exact wpAny_pyNext_list_end (I.ok.hd hc) st p.isList (by simp;omega) λh' eb=>⟨rfl,I.turned (t':=s.toks) (λb o hb e=>eb b o hb e) f0 f1 f3 f4 f5⟩
 self:=λ_ _ _ _ _ st h=>wpAny_pyIter_listiter st h
theorem Lg (it:Addr)(lo:Int)(n:Nat):jC P w K tg (Itr lo n) [it] it (λi h=>IsRangeIter h it (lo+(i:Nat)*1) ((n:Int)-(i:Nat)) 1) where
 mem:=by simp
 obj:=λi h st b hb=>by
  have e:b=it:=by simpa using hb
  subst e;exact ⟨_,st,λv z=>by
   have z':Data.fields _=Data.cell v:=z;cases z'⟩
 keep:=λi h h' st k=>k it (by simp) _ st
 item:=by intro X hP hw hK hc i pins s σ H E I hf st hg;subst hP hw hK;obtain ⟨f0,f1,f2,f3,f4,f5⟩:=hf it (by simp);have W:=Walks.range (prog:=X.prog) (w:=X.w) (I.ok.hd hc) it lo 1 n;refine W.item i s _ _ hg st λv h' tk hv st' kk=>?_;obtain ⟨t,rfl⟩:=hv;have I1:Inv X pins σ H { s with heap:=h',toks:=tk }:=I.turned (λb o hb e=>kk b o (by simpa using hb) e) f0 f1 f3 f4 f5;refine ⟨_,rfl,Zy (s:={ s with heap:=h',toks:=tk }) (n:="range_iterator") st' rfl rfl (by decide) ⟨.int (lo+i),H,I1,⟨t,?_⟩,⟨rfl,rfl⟩,st',λb hb=>(hf b hb).1⟩⟩;rw [Int.mul_one]
 done:=by intro X hP hw hK hc i pins s σ H E I hf st hg;subst hP hw hK;obtain ⟨f0,f1,f2,f3,f4,f5⟩:=hf it (by simp);exact wpAny_pyNext_range_end (I.ok.hd hc) st (by have:n<=i:=hg;omega) λh' eb=>⟨rfl,I.turned (t':=s.toks) (λb o hb e=>eb b o hb e) f0 f1 f3 f4 f5⟩
 self:=λ_ _ _ _ _ st h=>wpAny_pyIter_rangeiter st h
section
variable {X:Cx}{tg:Expr}
def Xg (K:Fg)(tl:TE):TI:=λσ H R=>tl σ H λx H1=>∃ a,x = .ref a/\(∃ xs,SqL K H1 a xs)/\R (Itl K a) H1
theorem Dl {l:Expr}{tl:TE}(hl:PE X l tl):PI X tg l (Xg X.K tl):=by
 intro pins s σ H R I h;refine j5 (hl pins s σ H _ I h) λv s1 zq=>?_;obtain ⟨x,H1,I1,r1,q1⟩:=zq;obtain ⟨a,e,⟨xs,hq⟩,q⟩:=q1;subst e;cases r1;obtain ⟨its,rv,p,hz⟩:=I1.list hq;refine wpAny_pyIter_list p.isList ?_;refine ⟨s1.heap.objs.size,[s1.heap.objs.size],_,_,H1,rfl,I1.kept (t':=s1.toks) λb o e=>yU _ e,Lf a _,⟨_,yu _ rfl,rfl,rfl⟩,λb hb=>?_,q⟩;have e:b=s1.heap.objs.size:=by simpa using hb
 subst e;exact I1.fpOk (yS _) (I1.hok.fresh (yS _))
theorem DH {R:It->Hp->Prop}{hi:Int}{t u v:Tok}{tk:Nat}(I:Inv X pins σ H s)(h1:-(2 ^ 62)<=lo)(h2:lo<2 ^ 62)(h3:-(2 ^ 62)<=hi)(h4:hi<2 ^ 62)(q:R (Itr lo (hi-lo).toNat) H):wpAny (model X.prog X.w) X.A (pyIter (.ref s.heap.objs.size)) (PIE X pins σ tg R) E { s with heap:=s.heap.push { cls:= .type "range",data:= .fields #[.int lo t,.int hi u,.int 1 v] },toks:=tk }:=by
 refine wpAny_pyIter_range (IsRange.new ..) (small_one h1 h2 h3 h4) ?_;have I1:Inv X pins σ H { s with heap:=s.heap.push { cls:= .type "range",data:= .fields #[.int lo t,.int hi u,.int 1 v] },toks:=tk }:=I.kept λb o e=>yU _ e;refine ⟨(s.heap.push { cls:= .type "range",data:= .fields #[.int lo t,.int hi u,.int 1 v] }).objs.size,[(s.heap.push { cls:= .type "range",data:= .fields #[.int lo t,.int hi u,.int 1 v] }).objs.size],_,_,H,rfl,
  I1.kept (t':=tk) λb o e=>yU _ e,Lg _ lo (hi-lo).toNat,?_,λb hb=>?_,q⟩
 ·have e1:lo+((0:Nat):Int)*1=lo:=by simp
  have e2:(((hi-lo).toNat:Nat):Int)-((0:Nat):Int)=Builtin.Range.rangeSize lo hi 1:=by rw [rangeSize_one];split<;>omega
  show IsRangeIter _ _ (lo+((0:Nat):Int)*1) ((((hi-lo).toNat:Nat):Int)-((0:Nat):Int)) 1;rw [e1,e2];exact yu _ rfl
 ·have e:b=(s.heap.push { cls:= .type "range",data:= .fields #[.int lo t,.int hi u,.int 1 v] }).objs.size:=by simpa using hb
  subst e;exact I1.fpOk (yS _) (I1.hok.fresh (yS _))
def Ym (ta:TA):TI:=λσ H R=>ta σ H λvs H1=>∃ j:Int,vs=[.int j]/\-(2 ^ 62)<=j/\j<2 ^ 62/\R (Itr 0 j.toNat) H1
theorem wA {a:Expr}{ta:TA}{p:Pos}(hg:Gl X "range")(hm:X.mg "range"=none)(ha:PA X [a] ta)(hs:starEach [a] X.env=[(false,eval a X.env)]:=by rfl):PI X tg (.Call (.Name "range" p) [a] [] pos) (Ym ta):=by
 intro pins s σ H R I h;refine Call_ (vi I hg hm boot_range (PyProof.Rows.callWith_type1 (j5 (ha pos pins s σ H _ I h) λus s1 zq=>?_) hs rfl));obtain ⟨vs,H1,I1,r1,q1⟩:=zq;obtain ⟨j,e,q1,q2,q⟩:=q1;subst e;cases r1 with
 |cons r rr=>cases rr;obtain ⟨t,rfl⟩:=r;exact call_range_1 (DH I1 (by omega) (by omega) q1 q2 (by simpa using q))
def tFor (wi:TI)(g:TG)(tb:TS):TS:=λD σ H=>wi σ H λJ H1=>∃ W:Nat->Nat->St->Hp->Prop,(∃ m,W 0 m σ H1)/\∀ i m σ H,W i m σ H ->
 (J.stop i H/\D.nx σ H)∨(J.go i H/\∃ N:St->Hp->Prop,(∀ σ' H',N σ' H'->∃ m',m'<m/\W (i+1) m' σ' H')/\∀ x H',J.yld i H x H'->g x σ H' λσ2 H2=>tb { D with nx:=N,ct:=N,bk:=D.nx } σ2 H2)
def Qn (fp:List Addr)(h:Heap):List (Addr×Obj):=fp.filterMap λb=>(h.get? b).map λo=>(b,o)
theorem Xt {o:Obj}(hb:b∈fp)(e:h.get? b=some o):(b,o)∈Qn fp h:=ya.mpr ⟨b,hb,by rw [e];rfl⟩
theorem PD {p:Addr×Obj}(hp:p∈Qn fp h):p.1∈fp/\h.get? p.1=some p.2:=by
 obtain ⟨b,hb,e⟩:=ya.mp hp;cases q:h.get? b with
 |none=>rw [q] at e;cases e
 |some o=>rw [q] at e;have e':(b,o)=p:=Option.some.inj e;subst e';exact ⟨hb,q⟩
theorem Inv.pinned (I:Inv X pins σ H s)(hf:∀ b∈fp,qT X pins H b)(ho:∀ b∈fp,∃ o,s.heap.get? b=some o/\∀ v,o.data ≠ .cell v):Inv X (pins++Qn fp s.heap) σ H s :=
 I.pins_of λp hp=>(yB.mp hp).elim (λz=>I.pin p (yy _ z)) λz=>by
  obtain ⟨hb,e⟩:=PD z;obtain ⟨f0,f1,f2,_⟩:=hf p.1 hb;obtain ⟨o,e',d⟩:=ho p.1 hb;rw [e] at e';cases e';exact ⟨e,f0,f1,f2,d⟩
theorem Inv.unpinned {pl:List (Addr×Obj)}(I:Inv X (pins++pl) σ H s):Inv X pins σ H s:=I.pins_of λp hp=>I.pin p (yy _ (yg _ hp))
theorem jn {iter:Expr}{body:List Stmt}{wi:TI}{g:TG}{tb:TS}{pos:Pos}(hp:PassesOwn (model X.prog X.w) X.A X.env X.xe)(hc:X.calm=true)(hi:PI X tg iter wi)(hg:PG X tg g)(hb:PSs X body tb)(hs:∀ x,foldedSetIterable iter X.env x=pure x:=by intro _;rfl):PS X (.For tg iter body [] pos) (tFor wi g tb):=by
 intro pins s σ H D I h;refine wpAny_For (j5 (hi pins s σ H _ I h) λv s1 h1=>j5 h1 λitv s2 h2=>?_) hs;obtain ⟨it,fp,tn,J,H2,e,I2,T,st2,f2,W,⟨m0,w0⟩,turn⟩:=h2;subst e
 -- what stays true of the iterator's objects through the loop
 have stat:∀{H':Hp},(∀ b∈fp,H' b=none)->∀ b∈fp,qT X pins H' b:=λhn b hb=>⟨hn b hb,(f2 b hb).2⟩;refine codeAny_forLoop_any (λn s'=>∃ i σ' H',Inv X pins σ' H' s'/\tn i s'.heap/\(∀ b∈fp,H' b=none)/\W i n σ' H') ?_ m0 ⟨0,σ,H2,I2,st2,λb hb=>(f2 b hb).1,w0⟩;rintro n s3 ⟨i,σ3,H3,I3,st3,fr3,w3⟩;rcases turn i n σ3 H3 w3 with ⟨stop,qn⟩|⟨go,N,hN,step⟩
 ·refine wpAny_passesOwn hp (j5 (T.done X rfl rfl rfl hc i pins s3 σ3 H3 X.xe I3 (stat fr3) st3 stop) λr s4 zq=>?_);obtain ⟨hr,I4⟩:=zq;subst hr;exact wpAny_execs_nil ⟨σ3,H3,I4,qn⟩
 ·refine wpAny_passesOwn hp (j5 (T.item X rfl rfl rfl hc i pins s3 σ3 H3 X.xe I3 (stat fr3) st3 go) λr s4 zq=>?_);obtain ⟨u,hr,h4⟩:=zq;subst hr;refine wpAny_passesOwn hp (j5 h4 λ_ s5 zq=>?_);obtain ⟨x,H5,I5,r5,y5,st5,fr5⟩:=zq;have I5':=I5.pinned (stat fr5) (T.obj _ _ st5);refine wpAny_passesOwn hp (j5 (hg _ s5 σ3 H5 x u _ I5' r5 (step x H5 y5)) λ_ s6 zq=>?_);obtain ⟨σ6,H6,I6,q6⟩:=zq;refine wpAny_passesOwn hp (j5 (hb _ s6 σ6 H6 _ I6 q6) λf s7 q7=>?_);have again:∀{σ7:St}{H7:Hp},Inv X (pins++Qn fp s5.heap) σ7 H7 s7->N σ7 H7->∃ m,m<n/\∃ i σ' H',Inv X pins σ' H' s7/\tn i s7.heap/\(∀ b∈fp,H' b=none)/\W i m σ' H':=λ{σ7 H7} I7 n7=>by
   obtain ⟨m',hm,w7⟩:=hN σ7 H7 n7;refine ⟨m',hm,i+1,σ7,H7,I7.unpinned,T.keep _ _ _ st5 λb hb o e=>(I7.pin (b,o) (yy _ (yy _ (Xt hb e)))).1,λb hb=>?_,w7⟩;obtain ⟨o,e,d⟩:=T.obj _ _ st5 b hb;exact (I7.pin (b,o) (yy _ (yy _ (Xt hb e)))).2.1
  cases f with
  |next=>obtain ⟨σ7,H7,I7,n7⟩:=q7;exact again I7 n7
  |cont=>obtain ⟨σ7,H7,I7,n7⟩:=q7;exact again I7 n7
  |brk=>obtain ⟨σ7,H7,I7,q7⟩:=q7;exact ⟨σ7,H7,I7.unpinned,q7⟩
  |ret v=>obtain ⟨x7,σ7,H7,I7,r7,q7⟩:=q7;exact ⟨x7,σ7,H7,I7.unpinned,r7,q7⟩
end
theorem KZ {tb:TS}(Pv:Nat->St->Hp->Prop)(h0:Pv 0 σ H)(hs:∀ i σ H,i<n->Pv i σ H->g (.int (lo+i)) σ H λσ2 H2=>tb { D with nx:=Pv (i+1),ct:=Pv (i+1),bk:=D.nx } σ2 H2)(hd:∀ σ H,Pv n σ H->D.nx σ H):∃ W:Nat->Nat->St->Hp->Prop,(∃ m,W 0 m σ H)/\∀ i m σ H,W i m σ H -> ((Itr lo n).stop i H/\D.nx σ H)∨((Itr lo n).go i H/\∃ N:St->Hp->Prop,(∀ σ' H',N σ' H'->∃ m',m'<m/\W (i+1) m' σ' H')/\∀ x H',(Itr lo n).yld i H x H'->g x σ H' λσ2 H2=>tb { D with nx:=N,ct:=N,bk:=D.nx } σ2 H2):=by
 refine ⟨λi m σ H=>m=n-i/\i<=n/\Pv i σ H,⟨n,by simp,uZ _,h0⟩,?_⟩;rintro i m σ H ⟨rfl,hi,p⟩;by_cases hlt:i<n
 ·refine .inr ⟨hlt,Pv (i+1),λσ' H' p'=>⟨n-(i+1),by omega,rfl,hlt,p'⟩,λx H' y=>?_⟩;obtain ⟨e,y⟩:=y;subst e y;exact hs i σ _ hlt p
 ·have e:i=n:=by omega
  subst e;exact .inl ⟨yS _,hd σ H p⟩
abbrev R2:=V->V->Hp->VK->Prop
variable{r r':R2}
def OpR (X:Cx)(f:Value->Value->Sem Value)(r:R2):Prop :=
 ∀(pins:List (Addr×Obj))(s:Shared)(σ:St)(H:Hp)(x y:V)(v u:Value)(Q:VK),Inv X pins σ H s->RelV x v->RelV y u->r x y H Q ->
  wpAny (model X.prog X.w) X.A (f v u) (EP X pins σ Q) X.xe s
def UnR (X:Cx)(f:Value->Sem Value)(r:V->Hp->VK->Prop):Prop :=
 ∀(pins:List (Addr×Obj))(s:Shared)(σ:St)(H:Hp)(x:V)(v:Value)(Q:VK),Inv X pins σ H s->RelV x v->r x H Q ->
  wpAny (model X.prog X.w) X.A (f v) (EP X pins σ Q) X.xe s
def CallR (X:Cx)(f:Value)(r:List V->Hp->VK->Prop):Prop :=
 ∀(pins:List (Addr×Obj))(s:Shared)(σ:St)(H:Hp)(xs:List V)(us:List Value)(Q:VK),Inv X pins σ H s->Vals xs us->r xs H Q ->
  wpAny (model X.prog X.w) X.A (call f us) (EP X pins σ Q) X.xe s
def TruR (X:Cx)(r:V->Hp->(Bool->Hp->Prop)->Prop):Prop :=
 ∀(pins:List (Addr×Obj))(s:Shared)(σ:St)(H:Hp)(x:V)(v:Value)(Q:Bool->Hp->Prop),Inv X pins σ H s->RelV x v->r x H Q ->
  wpAny (model X.prog X.w) X.A (truthy v) (TP X pins σ Q) X.xe s
def tOp (r:R2)(ta tb:TE):TE:=λσ H Q=>ta σ H λx H1=>tb σ H1 λy H2=>r x y H2 Q
def tUn (r:V->Hp->VK->Prop)(ta:TE):TE:=λσ H Q=>ta σ H λx H1=>r x H1 Q
def rI (C:Int->Int->Prop)(g:Int->Int->V):R2:=λx y H Q=>∃ i j,x = .int i/\y = .int j/\C i j/\Q (g i j) H
def rI0 (g:Int->Int->V):R2:=λx y H Q=>∃ i j,x = .int i/\y = .int j/\Q (g i j) H
def rU (g:Int->V):V->Hp->VK->Prop:=λx H Q=>∃ i,x = .int i/\Q (g i) H
section
variable {X:Cx}{a b c:Expr}{ta tb tc:TE}{pos:Pos}
theorem binT (ha:PE X a ta)(hb:PE X b tb)(I:Inv X pins σ H s)(h:ta σ H λx H1=>tb σ H1 λy H2=>R x y H2)(hf:∀ v u s2 x y H2,Inv X pins σ H2 s2->RelV x v->RelV y u->R x y H2->wpAny (model X.prog X.w) X.A (f v u) Q X.xe s2):wpAny (model X.prog X.w) X.A (eval a X.env) (λv s₁=>wpAny (model X.prog X.w) X.A (eval b X.env) (λu s₂=>wpAny (model X.prog X.w) X.A (f v u) Q X.xe s₂) X.xe s₁) X.xe s:=by refine j5 (ha pins s σ H _ I h) λv s1 zq=>?_;obtain ⟨x,H1,I1,r1,q1⟩:=zq;refine j5 (hb pins s1 σ H1 _ I1 q1) λu s2 zq=>?_;obtain ⟨y,H2,I2,r2,q2⟩:=zq;exact hf v u s2 x y H2 I2 r1 r2 q2
theorem w5 {op:Operator}(ho:OpR X (binaryOp op) r)(ha:PE X a ta)(hb:PE X b tb):PE X (.BinOp a op b pos) (tOp r ta tb):=by intro pins s σ H Q I h;exact wpAny_BinOp (binT ha hb I h λv u s2 x y H2 I2 rx ry q=>ho pins s2 σ H2 x y v u Q I2 rx ry q)
theorem xY {op:UnaryOp}{r:V->Hp->VK->Prop}(ho:UnR X (unaryOp op) r)(ha:PE X a ta):PE X (.UnaryOp op a pos) (tUn r ta):=by intro pins s σ H Q I h;exact UnaryOp_ (j5 (ha pins s σ H _ I h) λv s1 ⟨x,H1,I1,r1,q1⟩=>ho pins s1 σ H1 x v Q I1 r1 q1)
theorem opI {C:Int->Int->Prop}{g:Int->Int->Int}(rule:∀(i j:Int)(t u:Tok)(s:Shared)(Q:Value->Shared->Prop)(E:Value->Shared->Prop),C i j->Q (.int (g i j) s.toks) { s with toks:=s.toks+1 }->wpAny (model X.prog X.w) X.A (f (.int i t) (.int j u)) Q E s):OpR X f (rI C λi j=> .int (g i j)):=by intro pins s σ H x y v u Q I rx ry h;obtain ⟨i,j,rfl,rfl,hc,q⟩:=h;obtain ⟨t,rfl⟩:=rx;obtain ⟨t',rfl⟩:=ry;exact rule i j t t' s _ _ hc ⟨.int (g i j),H,I.tok _,⟨_,rfl⟩,q⟩
theorem opI0 {g:Int->Int->Int}(rule:∀(i j:Int)(t u:Tok)(s:Shared)(Q:Value->Shared->Prop)(E:Value->Shared->Prop),Q (.int (g i j) s.toks) { s with toks:=s.toks+1 }->wpAny (model X.prog X.w) X.A (f (.int i t) (.int j u)) Q E s):OpR X f (rI0 λi j=> .int (g i j)):=by intro pins s σ H x y v u Q I rx ry h;obtain ⟨i,j,rfl,rfl,q⟩:=h;obtain ⟨t,rfl⟩:=rx;obtain ⟨t',rfl⟩:=ry;exact rule i j t t' s _ _ ⟨.int (g i j),H,I.tok _,⟨_,rfl⟩,q⟩
theorem opB0 {g:Int->Int->Bool}(rule:∀(i j:Int)(t u:Tok)(s:Shared)(Q:Value->Shared->Prop)(E:Value->Shared->Prop),Q (.bool (g i j)) s->wpAny (model X.prog X.w) X.A (f (.int i t) (.int j u)) Q E s):OpR X f (rI0 λi j=> .bl (g i j)):=by intro pins s σ H x y v u Q I rx ry h;obtain ⟨i,j,rfl,rfl,q⟩:=h;obtain ⟨t,rfl⟩:=rx;obtain ⟨t',rfl⟩:=ry;exact rule i j t t' s _ _ ⟨.bl (g i j),H,I,rfl,q⟩
def jA (i j:Int):Prop:=0<=j/\j<=1000000/\i.natAbs<2 ^ 64
def CMul (i j:Int):Prop:=(-(2 ^ 64)<i/\i<2 ^ 64)∨(-(2 ^ 64)<j/\j<2 ^ 64)
theorem CMul.ok {i j:Int}(h:CMul i j):IntMulOk i j:=by
 rcases h with ⟨h1,h2⟩|⟨h1,h2⟩
 ·exact .of_left (intBits_le_64 h1 h2)
 ·exact .of_right (intBits_le_64 h1 h2)
theorem op_add:OpR X (binaryOp .Add) (rI0 λi j=> .int (i+j)):=opI0 λ_ _ _ _ _ _ _ q=>add_int q
theorem je:OpR X (binaryOp .Sub) (rI0 λi j=> .int (i-j)):=opI0 λ_ _ _ _ _ _ _ q=>sub_int q
theorem wv:OpR X (binaryOp .Mult) (rI CMul λi j=> .int (i*j)):=opI λ_ _ _ _ _ _ _ hc q=>mul_int q hc.ok
theorem zn:OpR X (binaryOp .Mod) (rI (λ_ j=>0<j) λi j=> .int (i % j)):=opI λi j _ _ _ _ _ hc q=>by
 have h1:(0:Int)<j:=hc;exact mod_int' (by omega) (by rw [Int.fmod_eq_emod_of_nonneg i (by omega)];exact q)
theorem vq:OpR X (binaryOp .Pow) (rI jA λi j=> .int (i ^ j.toNat)):=opI λ_ _ _ _ _ _ _ hc q=>pow_int_small hc.1 hc.2.1 hc.2.2 q
theorem unI {f:Value->Sem Value}{g:Int->Int}(rule:∀(i:Int)(t:Tok)(s:Shared)(Q:Value->Shared->Prop)(E:Value->Shared->Prop),Q (.int (g i) s.toks) { s with toks:=s.toks+1 }->wpAny (model X.prog X.w) X.A (f (.int i t)) Q E s):UnR X f (rU λi=> .int (g i)):=by intro pins s σ H x v Q I rx h;obtain ⟨i,rfl,q⟩:=h;obtain ⟨t,rfl⟩:=rx;exact rule i t s _ _ ⟨.int (g i),H,I.tok _,⟨_,rfl⟩,q⟩
theorem zc:UnR X (unaryOp .USub) (rU λi=> .int (-i)):=unI λ_ _ _ _ _ q=>neg_int q
end
section
variable {X:Cx}{a b c:Expr}{ta tb tc:TE}{pos:Pos}
theorem Zx {Q:VK}{k k':Bool}(I:Inv X pins σ H s)(q:Q (.bl k) H)(e:k=k'):EP X pins σ Q (.bool k') s:=by subst e;exact ⟨.bl k,H,I,rfl,q⟩
theorem YQ:OpR X (compareOp .Lt) (rI0 λi j=> .bl (decide (i<j))):=opB0 λ_ _ _ _ _ _ _ q=>lt_int q
theorem Xw:OpR X (compareOp .LtE) (rI0 λi j=> .bl (decide (i<=j))):=opB0 λ_ _ _ _ _ _ _ q=>le_int q
theorem op_gt:OpR X (compareOp .Gt) (rI0 λi j=> .bl (decide (j<i))):=opB0 λ_ _ _ _ _ _ _ q=>gt_int q
theorem Xv:OpR X (compareOp .GtE) (rI0 λi j=> .bl (decide (j<=i))):=opB0 λ_ _ _ _ _ _ _ q=>ge_int q
theorem CI:OpR X (compareOp .Is) (λx y H Q=>y = .non/\Q (.bl (decide (x = .non))) H):=by
 intro pins s σ H x y v u Q I rx ry h;obtain ⟨rfl,q⟩:=h;cases ry;refine is_none_gen (Zx I q ?_);cases x<;>first
  |(cases rx;rfl)
  |(obtain ⟨t,rfl⟩:=rx;rfl)
theorem CL:OpR X (compareOp .IsNot) (λx y H Q=>y = .non/\Q (.bl (!decide (x = .non))) H):=by
 intro pins s σ H x y v u Q I rx ry h;obtain ⟨rfl,q⟩:=h;cases ry;refine isnot_none_gen (Zx I q ?_);cases x<;>first
  |(cases rx;rfl)
  |(obtain ⟨t,rfl⟩:=rx;rfl)
theorem OpR.or (h:OpR X f r)(h':OpR X f r'):OpR X f (λx y H Q=>r x y H Q∨r' x y H Q):=by
 intro pins s σ H x y v u Q I rx ry q;rcases q with q|q
 ·exact h pins s σ H x y v u Q I rx ry q
 ·exact h' pins s σ H x y v u Q I rx ry q
theorem o3 (b:Expr)(h:op ≠ .In:=by decide)(h2:op ≠ .NotIn:=by decide):behindInMarks op b=false:=by
 have e1:(op==CmpOp.In)=false:=by cases op<;>first|rfl|exact absurd rfl h
 have e2:(op==CmpOp.NotIn)=false:=by cases op<;>first|rfl|exact absurd rfl h2
 cases b<;>simp [behindInMarks,e1,e2]
theorem Ja (ho:OpR X (compareOp op) r)(ha:PE X a ta)(hb:PE X b tb)(hm:behindInMarks op b=false):PE X (.Compare a [op] [b] pos) (tOp r ta tb):=by intro pins s σ H Q I h;exact wpAny_Compare1 (binT ha hb I h λv u s2 x y H2 I2 rx ry q=>ho pins s2 σ H2 x y v u Q I2 rx ry q) hm
def XO (t:TE):TT:=λσ H Q=>t σ H λx H'=>∃ k,x = .bl k/\Q k H'
theorem qq (ho:OpR X (compareOp op) r)(ha:PE X a ta)(hb:PE X b tb)(hm:behindInMarks op b=false):PT X (.Compare a [op] [b] pos) (XO (tOp r ta tb)):=by
 intro pins s σ H Q I h;refine wpAny_isTrue_Compare1 (j5 (ha pins s σ H _ I h) λv s1 ⟨x,H1,I1,r1,q1⟩=>j5 (hb pins s1 σ H1 _ I1 q1) λu s2 ⟨y,H2,I2,r2,q2⟩ =>
  j5 (ho pins s2 σ H2 x y v u _ I2 r1 r2 q2) λc s3 ⟨z,H3,I3,r3,k,e,q3⟩=>?_) hm
 subst e;cases r3;exact wpAny_truthy_bool ⟨H3,I3,q3⟩
def Vj (r r':R2)(ta tb tc:TE):TE:=λσ H Q=>ta σ H λx H1=>tb σ H1 λy H2=>r x y H2 λz H3=>∃ k,z = .bl k /\
 (if k=true then tc σ H3 λw' H4=>r' y w' H4 Q else Q (.bl false) H3)
theorem Da (ho:OpR X (compareOp op) r)(ho':OpR X (compareOp op') r')(ha:PE X a ta)(hb:PE X b tb)(hc:PE X c tc)(hm:lastMarks [op,op'] [b,c]=false:=by with_unfolding_all rfl):PE X (.Compare a [op,op'] [b,c] pos) (Vj r r' ta tb tc):=by
 intro pins s σ H Q I h;refine Compare_chain (j5 (ha pins s σ H _ I h) λv s1 ⟨x,H1,I1,r1,q1⟩=>chain_link (j5 (hb pins s1 σ H1 _ I1 q1) λu s2 ⟨y,H2,I2,r2,q2⟩ =>
  j5 (ho pins s2 σ H2 x y v u _ I2 r1 r2 q2) λd s3 ⟨z,H3,I3,r3,k,e,q3⟩=>?_)) hm
 subst e;cases r3;refine wpAny_truthy_bool ?_;cases k with
 |false=>exact ite_ff ⟨.bl false,H3,I3,rfl,q3⟩
 |true=>exact ite_tt (chain_last (j5 (hc pins s3 σ H3 _ I3 q3) λw' s4 ⟨z',H4,I4,r4,q4⟩=>ho' pins s4 σ H4 y z' u w' Q I4 r2 r4 q4))
theorem Ub (ho:OpR X (compareOp op) r)(ho':OpR X (compareOp op') r')(ha:PE X a ta)(hb:PE X b tb)(hc:PE X c tc)(hm:lastMarks [op,op'] [b,c]=false:=by with_unfolding_all rfl):PT X (.Compare a [op,op'] [b,c] pos) (XO (Vj r r' ta tb tc)):=by
 intro pins s σ H Q I h;refine isTrue_chain (j5 (ha pins s σ H _ I h) λv s1 ⟨x,H1,I1,r1,q1⟩=>test_link (j5 (hb pins s1 σ H1 _ I1 q1) λu s2 ⟨y,H2,I2,r2,q2⟩ =>
  j5 (ho pins s2 σ H2 x y v u _ I2 r1 r2 q2) λd s3 ⟨z,H3,I3,r3,k,e,q3⟩=>?_)) hm
 subst e;cases r3;refine wpAny_truthy_bool ?_;cases k with
 |false=>obtain ⟨k',e',q'⟩:=q3;cases e';exact ite_ff ⟨H3,I3,q'⟩
 |true=>refine ite_tt (test_last (j5 (hc pins s3 σ H3 _ I3 q3) λw' s4 ⟨z',H4,I4,r4,q4⟩=>j5 (ho' pins s4 σ H4 y z' u w' _ I4 r2 r4 q4) λd' s5 zq=>?_));obtain ⟨z2,H5,I5,r5,k2,e2,q5⟩:=zq;subst e2;cases r5;exact wpAny_truthy_bool ⟨H5,I5,q5⟩
def TruV (K:Fg)(x:V)(H:Hp)(k:Bool):Prop :=
 match x with
 | .non=>k=false
 | .bl b=>k=b
 | .int i=>k=(i != 0)
 | .str y=>y.length<=sizeLine/\k=((y.length:Int) != 0)
 | .byt y=>y.size<=sizeLine/\k=((y.size:Int) != 0)
 | .ref p=>(∃ xs,SqL K H p xs/\k=!xs.isEmpty)∨(∃ xs,SqT K H p xs/\k=!xs.isEmpty)∨∃ kvs,H p=some (.dK kvs)/\k=!kvs.isEmpty
 |_=>False
theorem Bu {κ:Type}{kvs:List (κ×V)}{vs:List (κ×Value)}(r:KV kvs vs):(!vs.isEmpty)=!kvs.isEmpty:=by cases r<;>rfl
theorem Yo {its:List Value}(r:Vals xs its):(!its.toArray.isEmpty)=!xs.isEmpty:=by cases r<;>simp
theorem vk:(sizeLine:Nat)<2 ^ 63:=by rw [sizeLine_eq];decide
theorem Ld:TruR X (λx H Q=>∃ k,TruV X.K x H k/\Q k H):=by
 intro pins s σ H x v Q I rx h;obtain ⟨k,e,q⟩:=h;have hl:=vk;have hs:sizeLine=16777216:=sizeLine_eq;cases x with
 |non=>cases rx;have e':k=false:=e;subst e';exact truthy_none ⟨H,I,q⟩
 |bl b=>cases rx;have e':k=b:=e;subst e';exact wpAny_truthy_bool ⟨H,I,q⟩
 |int i=>obtain ⟨t,rfl⟩:=rx;have e':k=(i != 0):=e;subst e';exact PySem.P.truthy_int ⟨H,I,q⟩
 |str y=>obtain ⟨t,rfl⟩:=rx;obtain ⟨hy,e'⟩:y.length<=sizeLine/\k=((y.length:Int) != 0):=e;subst e';exact PySem.P.truthy_str (by omega) ⟨H,I.tok _,q⟩
 |byt y=>obtain ⟨t,rfl⟩:=rx;obtain ⟨hy,e'⟩:y.size<=sizeLine/\k=((y.size:Int) != 0):=e;subst e';exact PySem.W.truthy_bytes (by omega) ⟨H,I.tok _,q⟩
 |ref p =>
  cases rx;have e':(∃ xs,SqL X.K H p xs/\k=!xs.isEmpty)∨(∃ xs,SqT X.K H p xs/\k=!xs.isEmpty)∨∃ kvs,H p=some (.dK kvs)/\k=!kvs.isEmpty:=e;rcases e' with ⟨xs,hx,e'⟩|⟨xs,hx,e'⟩|⟨kvs,hx,e'⟩
  ·subst e';obtain ⟨its,r,pl,hz⟩:=I.list hx;have hlen:=r.length;exact wpAny_truthy_list pl.isList (by simp only [yW];omega) ⟨H,I.tok _,by rw [Yo r];exact q⟩
  ·subst e';obtain ⟨its,r,pl,hz⟩:=I.tuple hx;have hlen:=r.length;exact truthy_tuple pl (by simp only [yW];omega) ⟨H,I.tok _,by rw [Yo r];exact q⟩
  ·subst e';obtain ⟨hz,hS,vs,r,m⟩:kvs.length<=sizeLine/\(p==sysModules)=false/\∃ vs,KV kvs vs/\s.heap.DictOf (qF X.prog X.w) p vs:=I.hok p _ hx;have hlen:kvs.length=vs.length:=Paired.length r;exact wpAny_truthy_dict hS m (by omega) ⟨H,I.tok _,by rw [Bu r];exact q⟩
 |_=>exact (show False from e).elim
theorem DE (ha:PE X a ta)(he:∀ whole,isTrue a X.env whole=(do let v <- whole;standAt a.pos;holding [v] (truthy v))):
  PT X a (λσ H Q=>ta σ H λx H'=>∃ k,TruV X.K x H' k/\Q k H'):=by
 intro pins s σ H Q I h;exact isTrue_plain (j5 (ha pins s σ H _ I h) λv s1 ⟨x,H1,I1,r1,q1⟩=>Ld pins s1 σ H1 x v Q I1 r1 q1) (he _)
theorem op_add_str:OpR X (binaryOp .Add) (λx y H Q=>∃ i j,x = .str i/\y = .str j/\i.length+j.length<=sizeLine/\Q (.str (i++j)) H):=by intro pins s σ H x y v u Q I rx ry h;obtain ⟨i,j,rfl,rfl,hz,q⟩:=h;obtain ⟨t,rfl⟩:=rx;obtain ⟨t',rfl⟩:=ry;exact add_str (λt' tk=>⟨.str (i++j),H,I.tok _,⟨_,rfl⟩,q⟩) hz
theorem jw {x:V}(r:Vals [x] us):∃ u,us=[u]/\RelV x u:=by
 cases r with
 |cons r1 r2=>cases r2;exact ⟨_,rfl,r1⟩
theorem Vs {x:V}(r:Vals [x,y] us):∃ u w',us=[u,w']/\RelV x u/\RelV y w':=by
 cases r with
 |cons r1 r2 =>
  cases r2 with
  |cons r3 r4=>cases r4;exact ⟨_,_,rfl,r1,r3⟩
def LenV (K:Fg)(x:V)(H:Hp)(n:Nat):Prop :=
 match x with
 | .str y=>y.length<=sizeLine/\n=y.length
 | .byt y=>y.size<=sizeLine/\n=y.size
 | .ref p=>(∃ xs,SqL K H p xs/\n=xs.length)∨∃ xs,SqT K H p xs/\n=xs.length
 |_=>False
theorem Ki:CallR X (.builtin "len") (λxs H Q=>∃ x n,xs=[x]/\LenV X.K x H n/\Q (.int n) H):=by
 intro pins s σ H xs us Q I r h;obtain ⟨x,n,rfl,e,q⟩:=h;obtain ⟨u,rfl,rx⟩:=jw r;have hl:=vk;have hs:sizeLine=16777216:=sizeLine_eq;cases x with
 |str y=>obtain ⟨t,rfl⟩:=rx;obtain ⟨hy,e'⟩:y.length<=sizeLine/\n=y.length:=e;subst e';exact len_str (by omega) ⟨.int _,H,I.tok _,⟨_,rfl⟩,q⟩
 |byt y=>obtain ⟨t,rfl⟩:=rx;obtain ⟨hy,e'⟩:y.size<=sizeLine/\n=y.size:=e;subst e';exact PySem.W.len_bytes (by omega) ⟨.int _,H,I.tok _,⟨_,rfl⟩,q⟩
 |ref p =>
  cases rx;have e':(∃ xs,SqL X.K H p xs/\n=xs.length)∨∃ xs,SqT X.K H p xs/\n=xs.length:=e;rcases e' with ⟨xs,hx,e'⟩|⟨xs,hx,e'⟩
  ·subst e';obtain ⟨its,r',pl,hz⟩:=I.list hx;have hlen:=r'.length;exact Calls.call_len_list pl.isList (by simp only [yW];omega) ⟨.int xs.length,H,I.tok _,⟨_,by simp only [yW];rw [hlen]⟩,q⟩
  ·subst e';obtain ⟨its,r',pl,hz⟩:=I.tuple hx;have hlen:=r'.length;exact len_tuple pl (by simp only [yW];omega) ⟨.int xs.length,H,I.tok _,⟨_,by simp only [yW];rw [hlen]⟩,q⟩
 |_=>exact (show False from e).elim
end
structure ObjM (h:Heap)(x dx C:Addr)(mA:Str->Option Value):Prop where
 obj:h.get? x=some (PySem.W.instObj C dx)
 ns:h.Ns1 dx mA
 ne:dx≠x
theorem Pj (n:h.Ns1 dx mA):∃ od,h.get? dx=some od/\∀ name,PySem.W.lookIn name od=some (mA name):=by
 obtain ⟨o,es,ep,ho,hd,hk,_,hm⟩:=n;refine ⟨o,ho,λname=>?_⟩;have e:=hm name;unfold nsFind findBy at e;rw [<- Array.find?_toList] at e;unfold PySem.W.lookIn;rw [hd]
 dsimp only
 split
 ·rename_i y q;rw [q] at e;exact congrArg some e
 ·rename_i q;rw [q] at e;have a:es.toList.any (·.refKey)=false:=by rw [List.any_eq_false];intro y hy;obtain ⟨z,t,hkey⟩:=hk y (Array.mem_toList_iff.mp hy);simp [DictEntry.refKey,hkey]
  have a':¬ es.toList.any (·.refKey)=true:=by rw [a];exact yV
  rw [if_neg a'];exact congrArg some e
theorem ObjM.look {x:Addr}(I:ObjM h x dx C mA):∃ od,PySem.W.InstAt h x (PySem.W.instObj C dx) C (some od)/\∀ name,PySem.W.lookIn name od=some (mA name) :=
 let ⟨od,ho,hl⟩:=Pj I.ns
 ⟨od,⟨I.obj,rfl,rfl,ho⟩,hl⟩
section
variable {prog:Program}{w:World}{A:Around}{E:Value->Shared->Prop}{s:Shared}{K:Fg}{x dx C f:Addr}{mA:Str->Option Value}{name:Str}{v:Value}
theorem Bb {expr:Bool}(X:K.In s.heap)(I:ObjM s.heap x dx C mA)(hg:PySem.W.plainGet K C name=true)(hh:PySem.W.hasDictIn K C=true)(ha:PySem.W.findIn K (.ref C) name=some none)(hv:mA name=some v)(hv':PySem.W.handedIn v=true)(h:Q v { s with toks:=s.toks+1 }):wpAny (model prog w) A (getAttr (.ref x) name expr) Q E s:=by obtain ⟨od,J,hl⟩:=I.look;exact PySem.W.get_value X J (PySem.W.plainGet_of hg).1 (PySem.W.findObj_own hh ha rfl (by rw [hl,hv])) hv' h
theorem Bc {Q:Value×List Value->Shared->Prop}(X:K.In s.heap)(I:ObjM s.heap x dx C mA)(hg:PySem.W.plainGet K C name=true)(hf:PySem.W.findIn K (.ref C) name=some (some (.ref f)))(ht:PySem.W.isFn K (.ref f)=true)(hv:mA name=none)(h:Q (.ref f,[.ref x]) s):wpAny (model prog w) A (getMethod (.ref x) name pl) Q E s:=by obtain ⟨od,J,hl⟩:=I.look;exact PySem.W.method_fn X J (PySem.W.plainGet_of hg).1 (PySem.W.plainGet_of hg).2 hf (beq_iff_eq.mp ht) (by show (PySem.W.lookIn name od).map (·.isSome)=some false;rw [hl,hv];rfl) h
theorem MO {ns:List Str}{Q:Unit->Shared->Prop}(X:K.In s.heap)(I:ObjM s.heap x dx C mA)(hs:PySem.W.findIn K (.ref C) "__setattr__"=some (some (.builtin "object.__setattr__")))(hp:PySem.W.plainOver K C=true)(ht:PySem.W.takerIn K C name=some none)(hh:PySem.W.hasDictIn K C=true)(hw:PySem.Within mA ns)(hsz:ns.length<=sizeLine)(h:∀ h',ObjM h' x dx C (λy=>if y=name then some v else mA y)->Heap.SameBut dx s.heap h'->Q () { s with heap:=h',toks:=s.toks+2 }):wpAny (model prog w) A (setAttr (.ref x) name v) Q E s:=by obtain ⟨od,J,hl⟩:=I.look;refine PySem.W.set_plain X J hs (PySem.W.osa_open (s:={ s with toks:=s.toks+1 }) (r:=none) X J hp ht λb=>?_);obtain ⟨cd,hc,hd'⟩:=PySem.W.any_some hh;have hx:s.heap.get? x=some ⟨.ref C,some dx,.plain,#[]⟩:=I.obj;refine yY (yP (yY (yY (wpAny_loadPart hx (yY (PySem.W.Looks.here (s:={ s with toks:=s.toks+1 }) (PySem.W.looks_clsIn X hc) ?_))))));rw [hd'];refine yP (a:=some dx) (yY (yP (yY ?_)));refine wpAny_nsSet1 (s:={ s with toks:=s.toks+1 }) I.ns λh' hn2 hs2=>?_;obtain ⟨oD,esD,epD,hoD,hdD,hcD⟩:=hn2.count (PySem.Within.cons name v hw);refine yY (wpAny_lookBehind hoD (by rw [hdD];exact pastItsLine_dict (yd hcD (by rw [yz];omega))) ?_);exact yP (h _ ⟨(hs2.2 _ (Ne.symm I.ne)).trans I.obj,hn2,I.ne⟩ hs2)
theorem YG {R:Result->Shared->Prop}{vs:List Value}(X:K.In s.heap)(hm:PySem.W.makesIn K C=true)(hi:PySem.W.findIn K (.ref C) "__init__"=some (some (.ref f)))(hf:PySem.W.typeIn K (.ref f)=some (.type "function"))(h:codeAny (model prog w) (A.under (.builtin "type.__call__" ⟨.ref C::vs,kw⟩)) (.call (.ref f) ⟨.ref (s.heap.objs.size+1)::vs,kw⟩) (PySem.W.InitBack (s.heap.objs.size+1) R) { s with heap:=(s.heap.push PySem.W.emptyDict).push (PySem.W.instObj C s.heap.objs.size) }):codeAny (model prog w) A (.call (.ref C) ⟨vs,kw⟩) R s:=by obtain ⟨hh,g,d,t,os⟩:=s;exact PySem.W.make_core (PySem.W.makes_of X hm) (PySem.W.looks_findIn X hi) (λself=>PySem.W.bind_fn X self hf) (.inl rfl) h
end
def qM (f:Str)(v:V):List (Str×V)->List (Str×V)
 |[]=>[(f,v)]
 |(g,x)::r=>if g=f then (g,v)::r else (g,x)::qM f v r
theorem YC (f g:Str)(v:V):∀ fs:List (Str×V),(qM f v fs).lookup g=if g=f then some v else fs.lookup g
 |[]=>by
  show List.lookup g [(f,v)]=_;by_cases h:g=f
  ·have hb:(g==f)=true:=beq_iff_eq.mpr h;simp only [List.lookup,hb,if_pos h]
  ·have hb:(g==f)=false:=beq_eq_false_iff_ne.mpr h;simp only [List.lookup,hb,if_neg h]
 |(k,x)::r=>by
  have ih:=YC f g v r;rw [show qM f v ((k,x)::r)=(if k=f then (k,v)::r else (k,x)::qM f v r) from rfl];by_cases hk:k=f
  ·rw [if_pos hk];by_cases h:g=k
   ·have hb:(g==k)=true:=beq_iff_eq.mpr h;simp only [List.lookup,hb,if_pos (h.trans hk)]
   ·have hb:(g==k)=false:=beq_eq_false_iff_ne.mpr h;simp only [List.lookup,hb,if_neg (λe:g=f=>h (e.trans hk.symm))]
  ·rw [if_neg hk];by_cases h:g=k
   ·have hb:(g==k)=true:=beq_iff_eq.mpr h;simp only [List.lookup,hb,if_neg (λe:g=f=>hk (h.symm.trans e))]
   ·have hb:(g==k)=false:=beq_eq_false_iff_ne.mpr h;simp only [List.lookup,hb];exact ih
theorem ZG (f:Str)(v:V):∀ fs:List (Str×V),f∈(qM f v fs).map (·.1)/\∀ g,g∈fs.map (·.1)->g∈(qM f v fs).map (·.1)
 |[]=>⟨by simp [qM],λg h=>by simp at h⟩
 |(k,x)::r=>by
  obtain ⟨i1,i2⟩:=ZG f v r;rw [show qM f v ((k,x)::r)=(if k=f then (k,v)::r else (k,x)::qM f v r) from rfl];by_cases hk:k=f
  ·rw [if_pos hk];subst hk;exact ⟨by simp,λg h=>by simpa using h⟩
  ·rw [if_neg hk];refine ⟨?_,λg h=>?_⟩
   ·rw [yF];exact yT _ i1
   ·rw [yF] at h ⊢;rcases yJ.mp h with e|e
    ·exact yJ.mpr (.inl e)
    ·exact yT _ (i2 g e)
theorem Yt (f:Str)(v:V):∀ fs:List (Str×V),(qM f v fs).length<=fs.length+1
 |[]=>by simp [qM]
 |(k,x)::r=>by
  have ih:=Yt f v r;rw [show qM f v ((k,x)::r)=(if k=f then (k,v)::r else (k,x)::qM f v r) from rfl];by_cases hk:k=f
  ·rw [if_pos hk,yz,yz];omega
  ·rw [if_neg hk,yz,yz];omega
theorem RelO.some_of {o:Option Value}(r:RelO (some v) o):∃ u,o=some u/\RelV v u:=by
 cases o with
 |none=>exact (show False from r).elim
 |some u=>exact ⟨u,rfl,r⟩
theorem RelO.none_of {o:Option Value}(r:RelO none o):o=none:=by
 cases o with
 |none=>rfl
 |some u=>exact (show False from r).elim
theorem Be (r:RelV v u):PySem.W.handedIn u=true:=by
 cases v with
 |non=>cases (show u=Value.none from r);rfl
 |bl b=>cases (show u=Value.bool b from r);rfl
 |int i=>obtain ⟨t,e⟩:=(show ∃ t,u=Value.int i t from r);cases e;rfl
 |str x=>obtain ⟨t,e⟩:=(show ∃ t,u=Value.str x t from r);cases e;rfl
 |byt b=>obtain ⟨t,e⟩:=(show ∃ t,u=Value.bytes b t from r);cases e;rfl
 |flt b=>obtain ⟨t,e⟩:=(show ∃ t,u=Value.float b t from r);cases e;rfl
 |ref a=>cases (show u=Value.ref a from r);rfl
 |ty n=>cases (show u=Value.type n from r);rfl
section
variable {P:Program}{w:World}{H H':Hp}{h h':Heap}{a C dx:Addr}{fs fs':List (Str×V)}
theorem Xh (hok:HOk P w H h)(e:H a=some (.ins C dx fs)):∃ mA,ObjM h a dx C mA/\(∀ f,RelO (fs.lookup f) (mA f))/\PySem.Within mA (fs.map (·.1))/\fs.length<=1000/\H dx=some (.own a):=by obtain ⟨d,z,ne,ob,mA,n,r,q⟩:=(show ObjOk P w H h a (.ins C dx fs) from hok a _ e);exact ⟨mA,⟨ob,n,ne⟩,r,q,z,d⟩
end
structure Cls (K:Fg)(C:Addr):Prop where
 pg:PySem.W.plainGet K C Str.empty=true
 hd:PySem.W.hasDictIn K C=true
 po:PySem.W.plainOver K C=true
 sa:PySem.W.findIn K (.ref C) "__setattr__"=some (some (.builtin "object.__setattr__"))
theorem Cls.get (c:Cls K C)(f:Str):PySem.W.plainGet K C f=true:=c.pg
def NoAttr (K:Fg)(C:Addr)(f:Str):Prop:=PySem.W.findIn K (.ref C) f=some none
theorem NoAttr.taker {f:Str}(n:NoAttr K C f):PySem.W.takerIn K C f=some none:=by unfold PySem.W.takerIn;rw [show PySem.W.findIn K (.ref C) f=some none from n];rfl
structure Meth (K:Fg)(C:Addr)(m:Str)(f:Addr):Prop where
 at_:PySem.W.findIn K (.ref C) m=some (some (.ref f))
 fn:PySem.W.isFn K (.ref f)=true
 kp:PySem.W.keepIn K (.ref f)=true
section
variable {X:Cx}{pins:List (Addr×Obj)}{σ:St}{H:Hp}{s:Shared}{a C dx:Addr}{fs:List (Str×V)}{f:Str}{v:V}{A:Around}{E:Value->Shared->Prop}
theorem Bd {b:Bool}(I:Inv X pins σ H s)(e:H a=some (.ins C dx fs))(c:Cls X.K C)(n:NoAttr X.K C f)(l:fs.lookup f=some v)(h:∀ u s',Inv X pins σ H s'->RelV v u->Q u s'):wpAny (model X.prog X.w) A (getAttr (.ref a) f b) Q E s:=by obtain ⟨mA,O,r,_,_,_⟩:=Xh I.hok e;obtain ⟨u,hu,ru⟩:=RelO.some_of (v:=v) (o:=mA f) (by rw [<- l];exact r f);exact Bb I.kIn O (c.get f) c.hd n hu (Be ru) (h u _ (I.tok _) ru)
theorem Yj {g:Addr}{Q:Value×List Value->Shared->Prop}(I:Inv X pins σ H s)(e:H a=some (.ins C dx fs))(c:Cls X.K C)(k:Meth X.K C m g)(l:fs.lookup m=none)(h:Q (.ref g,[.ref a]) s):wpAny (model X.prog X.w) A (getMethod (.ref a) m pl) Q E s:=by obtain ⟨mA,O,r,_,_,_⟩:=Xh I.hok e;have hn:mA m=none:=RelO.none_of (by rw [<- l];exact r m);exact Bc I.kIn O (c.get m) k.at_ k.fn hn h
theorem MQ {Q:Unit->Shared->Prop}(I:Inv X pins σ H s)(e:H a=some (.ins C dx fs))(c:Cls X.K C)(n:NoAttr X.K C f)(hl:fs.length<1000)(ry:RelV y u)(h:∀ s',Inv X pins σ (z6 H a (.ins C dx (qM f y fs))) s'->Q () s'):wpAny (model X.prog X.w) A (setAttr (.ref a) f u) Q E s:=by
 obtain ⟨mA,O,r,wi,_,ho⟩:=Xh I.hok e;have hz:(fs.map (·.1)).length<=sizeLine:=by rw [yZ,sizeLine_eq];omega
 refine MO I.kIn O c.sa c.po n.taker c.hd wi hz λh' O' sb=>h _ ?_;have hd:∃ o,h'.get? dx=some o:=let ⟨o,_,_,e',_⟩:=O'.ns;⟨o,e'⟩
 refine I.write (x:=a) (e:=dx) (by rw [e];exact True.intro) (.inr ho) (λb q hb z=>(sb.2 b hb).trans z) hd ?_;refine ⟨by rw [z7 O.ne];exact ho,?_,O.ne,O'.obj,_,O'.ns,λg=>?_,λg hg=>?_⟩
 ·have:=Yt f y fs;omega
 ·show RelO ((qM f y fs).lookup g) (if g=f then some u else mA g);rw [YC];by_cases q:g=f
  ·rw [if_pos q,if_pos q];exact ry
  ·rw [if_neg q,if_neg q];exact r g
 ·by_cases q:g=f
  ·rw [q];exact (ZG f y fs).1
  ·refine (ZG f y fs).2 g (wi g λz=>hg ?_);show (if g=f then some u else mA g)=none;rw [if_neg q];exact z
theorem Inv.made (I:Inv X pins σ H s):Inv X pins σ (z6 (z6 H s.heap.objs.size (.own (s.heap.objs.size+1))) (s.heap.objs.size+1) (.ins C s.heap.objs.size [])) { s with heap:=(s.heap.push PySem.W.emptyDict).push (PySem.W.instObj C s.heap.objs.size) }:=by
 have e1:(s.heap.push PySem.W.emptyDict).get? s.heap.objs.size=some PySem.W.emptyDict:=yu s.heap rfl;have e2:((s.heap.push PySem.W.emptyDict).push (PySem.W.instObj C s.heap.objs.size)).get? (s.heap.objs.size+1)=some (PySem.W.instObj C s.heap.objs.size):=by have:=yu (s.heap.push PySem.W.emptyDict) (o:=PySem.W.instObj C s.heap.objs.size) rfl;rwa [Heap.size_push] at this
 have e3:(s.heap.push PySem.W.emptyDict).Ns s.heap.objs.size (λ_=>none):=⟨PySem.W.emptyDict,#[],_,e1,rfl,(λe he=>absurd he (by simp)),λ_=>rfl⟩;have I1:=I.laid (a:=s.heap.objs.size) (o:= .own (s.heap.objs.size+1)) (h':=s.heap.push PySem.W.emptyDict) (t':=s.toks) (λb u q=>yU _ q) (yS _) ⟨_,e1⟩;refine I1.laid (a:=s.heap.objs.size+1) (o:= .ins C s.heap.objs.size []) (t':=s.toks) (λb u q=>yU _ q) (Nat.le_of_eq (Heap.size_push _ _)) ?_;have ne:s.heap.objs.size≠s.heap.objs.size+1:=yH (ux _);refine ⟨by rw [z7 ne,v3],uZ _,ne,e2,λ_=>none,(Heap.Ns1.of_empty e3).at λo q=>yU _ q,λ_=>True.intro,λy hy=>absurd rfl hy⟩
theorem GM {prog:Program}{env:Env}{f:Str}{s:Shared}(hb:attributeBase e f env (eval e env)=eval e env)(h:wpAny (model prog w) A (eval e env) (λo s₁=>wpAny (model prog w) A (getAttr o f true) Q E s₁) E s):wpAny (model prog w) A (eval (.Attribute e f pos) env) Q E s :=
 Attribute_any_ h (by rw [arm_eval_Attribute,hb])
end
def tFld (K:Fg)(ta:TE)(f:Str):TE:=λσ H Q=>ta σ H λx H1=>∃ a C dx fs v,x = .ref a/\H1 a=some (.ins C dx fs)/\Cls K C/\NoAttr K C f/\fs.lookup f=some v/\Q v H1
def jq (K:Fg)(ta tv:TE)(f:Str):TS:=λD σ H=>tv σ H λy H1=>ta σ H1 λx H2=>∃ a C dx fs,x = .ref a/\H2 a=some (.ins C dx fs)/\Cls K C/\NoAttr K C f/\fs.length<1000 /\
 D.nx σ (z6 H2 a (.ins C dx (qM f y fs)))
section
variable {X:Cx}{o e value:Expr}{f:Str}{pos pos' tpos:Pos}{ta tv:TE}
theorem Dc (he:PE X e ta)(hb:attributeBase e f X.env (eval e X.env)=eval e X.env):PE X (.Attribute e f pos) (tFld X.K ta f):=by intro pins s σ H Q I h;refine GM hb (j5 (he pins s σ H _ I h) λu s1 zq=>?_);obtain ⟨x,H1,I1,rx,a,C,dx,fs,v,ex,ea,c,n,l,q⟩:=zq;subst ex;obtain rfl:u=Value.ref a:=rx;exact Bd I1 ea c n l λu' s2 I2 ru=>⟨v,H1,I2,ru,q⟩
theorem Dw (ha:PE X o ta)(hv:PE X value tv)(hs:swapsWith value (some (.Attribute o f pos')) pos.line X.env=pure false):PS X (.Assign [.Attribute o f pos'] value pos) (jq X.K ta tv f):=by intro pins s σ H D I h;refine plainObj_wpAny_Assign_Attribute (j5 (hv pins s σ H _ I h) λu s1 ⟨y,H1,I1,ry,q⟩=>j5 (ha pins s1 σ H1 _ I1 q) λov s2 zq=>?_) hs;obtain ⟨x,H2,I2,rx,a,C,dx,fs,ex,ea,c,n,l,q2⟩:=zq;subst ex;obtain rfl:ov=Value.ref a:=rx;exact MQ I2 ea c n l ry λs3 I3=>⟨σ,_,I3,q2⟩
theorem LU {apos:Pos}{args:List Expr}(he:PE X e te)(I:Inv X pins σ H s)
  (h:te σ H λx H1=>∃ a C dx fs g,x = .ref a/\H1 a=some (.ins C dx fs)/\Cls X.K C/\Meth X.K C m g/\fs.lookup m=none /\
   ∀ s1,Inv X pins σ H1 s1->wpAny (model X.prog X.w) X.A (callWith pos (.ref g) [.ref a] (backTo pos (starEach args X.env)) (backToKw pos (keywordEach [] X.env))) Q X.xe s1)
  (ht:eval (.Call (.Attribute e m apos) args [] pos) X.env=(do
   let ov <- eval e X.env
   standAt apos.atName
   let (f,first) <- holding [ov] (getMethod ov m pl)
   callWith pos f first (backTo pos (starEach args X.env)) (backToKw pos (keywordEach [] X.env)))) :
  wpAny (model X.prog X.w) X.A (eval (.Call (.Attribute e m apos) args [] pos) X.env) Q X.xe s:=by
 refine PySem.W.methodCall_KW (pl:=pl) (j5 (he pins s σ H _ I h) λu s1 zq=>?_) ht;obtain ⟨x,H1,I1,rx,a,C,dx,fs,g,ex,ea,c,k,l,q⟩:=zq;subst ex;obtain rfl:u=Value.ref a:=rx;exact Yj I1 ea c k l (q s1 I1)
end
section
variable {X:Cx}{pins:List (Addr×Obj)}{σ:St}{H:Hp}{s:Shared}{A:Around}{E:Value->Shared->Prop}{Q:Value->Shared->Prop}{c:Value}{b:Bool}
inductive qZ (K:Fg)(H:Hp):V->Value->Prop where
 |non:qZ K H .non (.type "NoneType")
 |bl (x:Bool):qZ K H (.bl x) (.type "bool")
 |int (i:Int):qZ K H (.int i) (.type "int")
 |str (x:Str):qZ K H (.str x) (.type "str")
 |flt (x:UInt64):qZ K H (.flt x) (.type "float")
 |lst {a:Addr} {xs:List V} (e:H a=some (.lst xs)):qZ K H (.ref a) (.type "list")
 |frz {a:Addr} {o:Obj} {xs:List V} (e:H a=some (.frz o (.lst xs))):qZ K H (.ref a) (.type "list")
 |tup {a:Addr} {xs:List V} (e:H a=some (.tup xs)):qZ K H (.ref a) (.type "tuple")
 |dK {a:Addr} {kvs:List (v7×V)} (e:H a=some (.dK kvs)):qZ K H (.ref a) (.type "dict")
 |dT {a:Addr} {fl:Bool} {as:List Addr} {kvs:List (g0×V)} (e:H a=some (.dT fl as kvs)):qZ K H (.ref a) (.type "dict")
 |ins {a C dx:Addr} {fs:List (Str×V)} (e:H a=some (.ins C dx fs)) (cl:Cls K C) (ha:PySem.W.findIn K (.ref C) "__class__"=some (some (.builtin "object.__class__")))
   (hn:PySem.W.specialIn K (.builtin "object.__class__") "__get__"=some (some (.builtin "getset_descriptor.__get__"))) (htk:PySem.W.takesIn K (.builtin "object.__class__")=some true)
   (hm:PySem.W.mroIn K C (.type "object")=some true):qZ K H (.ref a) (.ref C)
theorem BA {x:V}{t:Value}(I:Inv X pins σ H s)(rx:RelV x u)(ty:qZ X.K H x t)(e:PySem.W.kitOne X.K t c=some b)(h:∀ tk,Q (.bool b) { s with toks:=tk }):wpAny (model X.prog X.w) A (call (.builtin "isinstance") [u,c]) Q E s:=by
 cases ty with
 |non=>cases (show u=Value.none from rx);exact PySem.W.kia_one PySem.W.kitx_none I.kIn True.intro e (λz=>nomatch z) h
 |bl y=>cases (show u=Value.bool y from rx);exact PySem.W.kia_one PySem.W.kitx_bool I.kIn True.intro e (λz=>nomatch z) h
 |int i=>obtain ⟨t,q⟩:=(show ∃ t,u=Value.int i t from rx);cases q;exact PySem.W.kia_one PySem.W.kitx_int I.kIn True.intro e (λz=>nomatch z) h
 |str y=>obtain ⟨t,q⟩:=(show ∃ t,u=Value.str y t from rx);cases q;exact PySem.W.kia_one PySem.W.kitx_str I.kIn True.intro e (λz=>nomatch z) h
 |flt y=>obtain ⟨t,q⟩:=(show ∃ t,u=Value.float y t from rx);cases q;exact PySem.W.kia_one PySem.W.kitx_float I.kIn True.intro e (λz=>nomatch z) h
 |@lst a xs ea=>cases (show u=Value.ref a from rx);obtain ⟨_,_,n,_,h1⟩:=(show ObjOk X.prog X.w H s.heap a (.lst xs) from I.hok a _ ea);exact PySem.W.kia_one PySem.W.kitx_list I.kIn ⟨_,h1,rfl⟩ e (λz=>nomatch z) h
 |@frz a ob xs ea=>cases (show u=Value.ref a from rx);obtain ⟨_,_,_,n,_,h1⟩:=(show ObjOk X.prog X.w H s.heap a (.frz ob (.lst xs)) from I.hok a _ ea);exact PySem.W.kia_one PySem.W.kitx_list I.kIn ⟨_,h1,rfl⟩ e (λz=>nomatch z) h
 |@tup a xs ea=>cases (show u=Value.ref a from rx);obtain ⟨_,_,_,p⟩:=(show ObjOk X.prog X.w H s.heap a (.tup xs) from I.hok a _ ea);obtain ⟨o,h1,h2,_⟩:=p;exact PySem.W.kia_one PySem.W.kitx_tuple I.kIn ⟨o,h1,h2⟩ e (λz=>nomatch z) h
 |@dK a kvs ea=>cases (show u=Value.ref a from rx);obtain ⟨_,_,vs,_,p⟩:=(show ObjOk X.prog X.w H s.heap a (.dK kvs) from I.hok a _ ea);obtain ⟨o,es,ep,h1,h2,_⟩:=p;exact PySem.W.kia_one PySem.W.kitx_dict I.kIn ⟨o,h1,h2.1⟩ e (λz=>nomatch z) h
 |@dT a fl as kvs ea=>cases (show u=Value.ref a from rx);obtain ⟨_,_,xs,_,o,es,ep,h1,h2,_⟩:=(show ObjOk X.prog X.w H s.heap a (.dT fl as kvs) from I.hok a _ ea);exact PySem.W.kia_one PySem.W.kitx_dict I.kIn ⟨o,h1,h2.1⟩ e (λz=>nomatch z) h
 |@ins a C dx fs ea cl ha hn htk hm=>cases (show u=Value.ref a from rx);obtain ⟨mA,O,_⟩:=Xh I.hok ea;obtain ⟨od,J,_⟩:=O.look;exact PySem.W.kia_one (PySem.W.kitx_own (cl.get _) cl.hd ha hn htk hm) I.kIn J e (λz=>nomatch z) h
end
structure Room (k:Nat)(A:Around):Prop where
 hd:A.handled=none
 dp:A.depth+3*k+5<recursionLimit
 un:A.units+16*k+200<cLine
theorem Room.mono {k:Nat}(r:Room k A)(h:j<=k):Room j A:=⟨r.hd,by have:=r.dp;omega,by have:=r.un;omega⟩
theorem Room.deeper {k:Nat}(r:Room (k+1) A)(env:Env):Room k (A.deeper env) :=
 ⟨r.hd,by have:=r.dp;show A.depth+1+3*k+5<_;omega,by have:=r.un;show A.units+3+16*k+200<_;omega⟩
theorem Pl :(A.under (.builtin "type.__call__" ⟨.ref C::us,kw⟩)).depth=A.depth+1:=by first|rfl|simp [Around.under,Code.weight,Code.isCreation,Code.isGuard,Code.isCaller,Code.frames,Code.isFrame,guardIds]
theorem Pm :(A.under (.builtin "type.__call__" ⟨.ref C::us,kw⟩)).units=A.units+1:=by first|rfl|simp [Around.under,Code.cUnits,Code.frames,Code.isFrame]
theorem Room.make {k:Nat}(r:Room (k+1) A)(C:Addr)(us:List Value)(kw:List (Str×Value)):Room k (A.under (.builtin "type.__call__" ⟨.ref C::us,kw⟩)) :=
 ⟨r.hd,by have:=r.dp;rw [Pl];omega,by have:=r.un;rw [Pm];omega⟩
theorem Room.depth {k:Nat}(r:Room k A):A.depth<recursionLimit:=by have:=r.dp;omega
theorem Room.units {k:Nat}(r:Room k A):A.units+64<cLine:=by have:=r.un;omega
def xD:TA:=λ_ H Q=>Q [] H
def qR (ta:TE)(tr:TA):TA:=λσ H Q=>ta σ H λx H1=>tr σ H1 λxs H2=>Q (x::xs) H2
section
variable {X:Cx}{e:Expr}{es:List Expr}{te:TE}{t:TA}{pos:Pos}
theorem j8:PA X [] xD:=λ_ _ _ _ H Q I h=>Calls.spliced_nil ⟨[],H,I,.nil,h⟩
theorem z5 (ha:PE X e te)(hr:PA X es t)(hs:starEach (e::es) X.env=(false,eval e X.env)::starEach es X.env:=by rfl):PA X (e::es) (qR te t):=by intro pos pins s σ H Q I h;rw [hs];show wpAny _ _ (spliced ((false,eval e X.env)::backTo pos (starEach es X.env))) _ _ s;refine Calls.spliced_cons (j5 (ha pins s σ H _ I h) λu s1 zq=>?_);obtain ⟨x,H1,I1,r1,q1⟩:=zq;exact j5 (hr pos pins s1 σ H1 _ I1 q1) λus s2 ⟨xs,H2,I2,r2,q2⟩=>⟨x::xs,H2,I2,.cons r1 r2,q2⟩
def tTup (t:TA):TE:=λσ H Q=>t σ H λxs H1=>xs.length<=sizeLine/\∀ p,H1 p=none->Q (.ref p) (z6 H1 p (.tup xs))
def tLst (t:TA):TE:=λσ H Q=>t σ H λxs H1=>xs.length<=sizeLine/\∀ p,H1 p=none->Q (.ref p) (z6 H1 p (.lst xs))
theorem m9 {x1}(h:PA X es t):PE X (.Tuple es x1 pos) (tTup t):=by intro pins s σ H Q I hq;refine wpAny_Tuple_spliced (j5 (h pos pins s σ H _ I hq) λus s1 ⟨xs,H1,I1,r,z,q⟩=>⟨by rw [<- r.length];exact z,?_⟩);have hf:H1 s1.heap.objs.size=none:=I1.hok.fresh (yS _);refine ⟨.ref s1.heap.objs.size,z6 H1 s1.heap.objs.size (.tup xs),I1.laid (t':=s1.toks) (λb u e=>yU _ e) (yS _) ?_,rfl,q _ hf⟩;exact ⟨z,us,r,⟨_,yu _ rfl,rfl,_,rfl⟩⟩
theorem c8 (h:PA X es t):PE X (.List es pos) (tLst t):=by intro pins s σ H Q I hq;refine wpAny_List_spliced (j5 (h pos pins s σ H _ I hq) λus s1 ⟨xs,H1,I1,r,z,q⟩=>⟨by rw [<- r.length];exact z,?_⟩);have hf:H1 s1.heap.objs.size=none:=I1.hok.fresh (yS _);refine ⟨.ref s1.heap.objs.size,z6 H1 s1.heap.objs.size (.lst xs),I1.laid (t':=s1.toks) (λb u e=>yU _ e) (yS _) ?_,rfl,q _ hf⟩;exact ⟨z,us,0,r,yu _ rfl⟩
end
abbrev Sp:=List V->Hp->VK->XK->Prop
variable{sp:Sp}
abbrev CXT:=List Env->Hp->Shared->XK->Value->Shared->Prop
variable{CX:CXT}
structure Env0 (P:Program)(w:World)(K:Fg)(mg:Str->Option Value)(base:Heap)(A:Around)(outer:List Env)(s:Shared)(H:Hp):Prop where
 frames:A.frames=some outer
 mod:Mod K mg base
 bs:∀ b o,base.get? b=some o->s.heap.get? b=some o/\H b=none
 bsz:base.objs.size<=s.heap.objs.size
 funs:s.heap.FunFrames base outer
 frf:∀ b∈b9 outer,H b=none
 hok:HOk P w H s.heap
 bare:AllBare s.gens
 tbs:∀ p∈TABS,H p.1=some (.tbl p.2.1 p.2.2)
def CE (outer:List Env)(P:Program)(w:World)(H:Hp)(s:Shared)(Q:VK)(u:Value)(s':Shared):Prop :=
 ∃ v H',s'.os=s.os/\AllBare s'.gens/\Un (b9 outer) [] H H' s.heap s'.heap/\HOk P w H' s'.heap/\RelV v u/\Q v H'
def CR (CX:CXT)(outer:List Env)(P:Program)(w:World)(H:Hp)(s:Shared)(Q:VK)(E:XK)(r:Result)(s':Shared):Prop :=
 match r with
 | .ok (.ret u)=>CE outer P w H s Q u s'
 | .ok _=>False
 | .error e=>CX outer H s E e s'
structure FnOk (P:Program)(w:World)(K:Fg)(mg:Str->Option Value)(base:Heap)(CX:CXT)(k:Nat)(f:Addr)(fd:FuncData)(ps:List Str)(sp:Sp):Prop where
 len:∀ vs H Q E,sp vs H Q E->vs.length=ps.length
 run:∀(A:Around)(outer:List Env)(s:Shared)(H:Hp)(args:Args)(us:List Value)(vs:List V)(Q:VK)(E:XK),Room k A->Env0 P w K mg base A outer s H->BindsTo s fd args (ps.zip us)->Vals vs us->sp vs H Q E ->
  codeAny (model P w) A (.call (.ref f) args) (CR CX outer P w H s Q E) s
theorem FnOk.imp {k:Nat}{f:Addr}{sp':Sp}(F:FnOk P w K mg base CX k f fd ps sp)(h:∀ vs H Q E,sp' vs H Q E->sp vs H Q E):FnOk P w K mg base CX k f fd ps sp' :=
 ⟨λvs H Q E q=>F.len vs H Q E (h _ _ _ _ q),λA outer s H args us vs Q E hr he hb hv hs=>F.run A outer s H args us vs Q E hr he hb hv (h _ _ _ _ hs)⟩
theorem Env0.make (e:Env0 P w K mg base A outer s H)(C:Addr)(us:List Value)(kw:List (Str×Value)):Env0 P w K mg base (A.under (.builtin "type.__call__" ⟨.ref C::us,kw⟩)) outer s H:=⟨by first|exact e.frames|(simpa [Around.under,Code.envs,Code.isFrame,pushEnvs] using e.frames),e.mod,e.bs,e.bsz,e.funs,e.frf,e.hok,e.bare,e.tbs⟩
section
variable {X:Cx}{pins:List (Addr×Obj)}{σ:St}{H:Hp}{s s':Shared}
theorem Inv.env0 (I:Inv X pins σ H s):Env0 X.prog X.w X.K X.mg X.base X.A X.stack s H :=
 ⟨I.ok.frames,I.ok.mod,I.bs,yd I.ok.bsz I.sz,I.stack,I.stkFree,I.hok,I.bare,λp hp=>I.base.tbls _ _ _ (I.ok.tbs p hp)⟩
theorem Inv.after {Q:VK}(I:Inv X pins σ H s)(h:CE X.stack X.prog X.w H s Q u s'):EP X pins σ Q u s':=by obtain ⟨v,H',os,bare,un,hok,r,q⟩:=h;obtain ⟨hh,g,d,t,os'⟩:=s';obtain rfl:os'=s.os:=os;exact ⟨v,H',I.call (h':=hh) (g':=g) (d':=d) (t':=t) (ch:=[]) un hok bare (λb z=>absurd z (by simp)),r,q⟩
end
def qO (sp:Sp)(dvs:List V)(E:XK)(t:TA):TE:=λσ H Q=>t σ H λvs H1=>sp (vs++dvs) H1 Q E
def Qy (C:Addr)(m:Str)(sp:Sp)(dvs:List V)(E:XK)(ta:TE)(t:TA):TE:=λσ H Q=>ta σ H λx H1=>∃ a dx fs,x = .ref a/\H1 a=some (.ins C dx fs)/\fs.lookup m=none /\
 t σ H1 λvs H2=>sp (x::(vs++dvs)) H2 Q E
def ju (C:Addr)(sp:Sp)(dvs:List V)(E:XK)(t:TA):TE:=λσ H Q=>t σ H λvs H1=>∀ x dx,H1 x=none->H1 dx=none->dx≠x ->
 sp (.ref x::(vs++dvs)) (z6 (z6 H1 dx (.own x)) x (.ins C dx [])) (λv H2=>v = .non/\Q (.ref x) H2) E
def Binds (K:Fg)(fd:FuncData)(ps:List Str)(ds:List Value):Prop :=
 ∀(s:Shared)(us:List Value),K.In s.heap->(us++ds).length=ps.length->BindsTo s fd ⟨us,[]⟩ (ps.zip (us++ds))
theorem Binds.all (h:∀ us:List Value,us.length=ps.length->bindArgs fd ⟨us,[]⟩=pure (ps.zip us)):Binds K fd ps []:=λs us _ hl=>by
 rw [yC] at hl ⊢;exact .of_eq (h us hl)
def zg (CX:CXT)(X:Cx)(E:XK):Prop:=∀(pins:List (Addr×Obj))(σ:St)(H:Hp)(s:Shared)(e:Value)(s':Shared),Inv X pins σ H s->CX X.stack H s E e s'->X.xe e s'
section
variable {X:Cx}{CX:CXT}{k:Nat}{f C:Addr}{fd:FuncData}{ps:List Str}{sp:Sp}{dvs:List V}{ds:List Value}{E:XK}{x m:Str}{p pos apos:Pos}{e o:Expr}{es:List Expr}{ta:TE}{t:TA}
theorem UC {Q:VK}(F:FnOk X.prog X.w X.K X.mg X.base CX k f fd ps sp)(hr:Room k X.A)(hb:Binds X.K fd ps ds)(hd:Vals dvs ds)(hx:zg CX X E)(I:Inv X pins σ H s)(r:Vals vs us)(h:sp (vs++dvs) H Q E):wpAny (model X.prog X.w) X.A (call (.ref f) us) (EP X pins σ Q) X.xe s:=by
 have r2:Vals (vs++dvs) (us++ds):=r.append hd;have hl:(us++ds).length=ps.length:=by rw [<- r2.length];exact F.len _ _ _ _ h
 refine wpAny_call (codeAny_mono (F.run X.A X.stack s H ⟨us,[]⟩ (us++ds) (vs++dvs) Q E hr I.env0 (hb s us I.kIn hl) r2 h) λr s' hq=>?_);cases r with
 |error e=>exact hx pins σ H s e s' I hq
 |ok fl =>
  cases fl with
  |ret u=>exact I.after hq
  |next=>exact False.elim hq
  |brk=>exact False.elim hq
  |cont=>exact False.elim hq
theorem YW (F:FnOk X.prog X.w X.K X.mg X.base CX k f fd ps sp)(hr:Room k X.A)(hg:Gl X x)(hm:X.mg x=some (.ref f))(hk:PySem.W.keepIn X.K (.ref f)=true)(hb:Binds X.K fd ps ds)(hd:Vals dvs ds)(hx:zg CX X E)(ha:PA X (e::es) t)(hdb:(x==("__debug__":Str))=false:=by decide)(he:starEach (e::es) X.env=(false,eval e X.env)::starEach es X.env:=by rfl)(hpl:(backTo pos (starEach es X.env)).any (·.1)=false:=by rfl):PE X (.Call (.Name x p) (e::es) [] pos) (qO sp dvs E t):=by intro pins s σ H Q I h;refine wpAny_Call_Name_kw (vj I hg hm ?_ hdb);refine PySem.W.callWith_K (h₀:=X.base) I.ok.mod.kin hk (j5 (ha pos pins s σ H _ I h) λus s1 ⟨vs,H1,I1,r,q⟩=>⟨I1.kIn,?_⟩) he hpl;exact UC F hr hb hd hx I1 r q
theorem Dd (he:PE X o ta)(c:Cls X.K C)(hm:Meth X.K C m f)(F:FnOk X.prog X.w X.K X.mg X.base CX k f fd ps sp)(hr:Room k X.A)(hb:Binds X.K fd ps ds)(hd:Vals dvs ds)(hx:zg CX X E)
  (ht:eval (.Call (.Attribute o m apos) [] [] pos) X.env=(do
   let ov <- eval o X.env
   standAt apos.atName
   let (f,first) <- holding [ov] (getMethod ov m pl)
   callWith pos f first (backTo pos (starEach [] X.env)) (backToKw pos (keywordEach [] X.env))):=by rfl) :
  PE X (.Call (.Attribute o m apos) [] [] pos) (Qy C m sp dvs E ta xD):=by
 intro pins s σ H Q I h;refine PySem.W.methodCall_KW (pl:=pl) (j5 (he pins s σ H _ I h) λu s1 zq=>?_) ht;obtain ⟨x,H1,I1,rx,a,dx,fs,ex,ea,l,q⟩:=zq;subst ex;obtain rfl:u=Value.ref a:=rx;refine Yj I1 ea c hm l ?_;exact PySem.W.callWith_K0 (first:=[.ref a]) I1.kIn hm.kp (UC (us:=[.ref a]) (vs:=[.ref a]) F hr hb hd hx I1 (.cons rfl .nil) q)
structure Mk (K:Fg)(C f:Addr):Prop where
 makes:PySem.W.makesIn K C=true
 init:PySem.W.findIn K (.ref C) "__init__"=some (some (.ref f))
 fn:PySem.W.isFn K (.ref f)=true
 kp:PySem.W.keepIn K (.ref C)=true
theorem Ma {Q:VK}(M:Mk X.K C f)(F:FnOk X.prog X.w X.K X.mg X.base CX k f fd ps sp)(hr:Room (k+1) X.A)(hb:Binds X.K fd ps ds)(hd:Vals dvs ds)(hx:zg CX X E)(I:Inv X pins σ H s)(r:Vals vs us)(h:∀ x dx,H x=none->H dx=none->dx≠x->sp (.ref x::(vs++dvs)) (z6 (z6 H dx (.own x)) x (.ins C dx [])) (λv H2=>v = .non/\Q (.ref x) H2) E):wpAny (model X.prog X.w) X.A (call (.ref C) us) (EP X pins σ Q) X.xe s:=by
 have hq:=h (s.heap.objs.size+1) s.heap.objs.size (I.hok.fresh (uB _)) (I.hok.fresh (yS _)) (yH (ux _));have I2:=Inv.made (C:=C) I;have r2:Vals (V.ref (s.heap.objs.size+1)::(vs++dvs)) (Value.ref (s.heap.objs.size+1)::(us++ds)):= .cons rfl (r.append hd);have hl:(Value.ref (s.heap.objs.size+1)::us++ds).length=ps.length:=by have e:=r2.length;rw [F.len _ _ _ _ hq] at e;exact e.symm
 refine wpAny_call (YG (f:=f) I.kIn M.makes M.init (beq_iff_eq.mp M.fn) (codeAny_mono (F.run _ X.stack _ _ ⟨Value.ref (s.heap.objs.size+1)::us,[]⟩ (Value.ref (s.heap.objs.size+1)::(us++ds)) _ _ E (hr.make C us [])
  (I2.env0.make C us []) (hb _ (Value.ref (s.heap.objs.size+1)::us) I2.kIn hl) r2 hq) λr s' hq'=>?_))
 cases r with
 |error e=>exact hx pins σ _ _ e s' I2 hq'
 |ok fl =>
  cases fl with
  |ret u=>obtain ⟨v,H',I3,rv,ev,q3⟩:=I2.after hq';subst ev;exact ⟨rv,⟨V.ref (s.heap.objs.size+1),H',I3,rfl,q3⟩⟩
  |next=>exact False.elim hq'
  |brk=>exact False.elim hq'
  |cont=>exact False.elim hq'
theorem YX (M:Mk X.K C f)(F:FnOk X.prog X.w X.K X.mg X.base CX k f fd ps sp)(hr:Room (k+1) X.A)(hg:Gl X x)(hm:X.mg x=some (.ref C))(hb:Binds X.K fd ps ds)(hd:Vals dvs ds)(hx:zg CX X E)(ha:PA X (e::es) t)(hdb:(x==("__debug__":Str))=false:=by decide)(he:starEach (e::es) X.env=(false,eval e X.env)::starEach es X.env:=by rfl)(hpl:(backTo pos (starEach es X.env)).any (·.1)=false:=by rfl):PE X (.Call (.Name x p) (e::es) [] pos) (ju C sp dvs E t):=by intro pins s σ H Q I h;refine wpAny_Call_Name_kw (vj I hg hm ?_ hdb);refine PySem.W.callWith_K (h₀:=X.base) I.ok.mod.kin M.kp (j5 (ha pos pins s σ H _ I h) λus s1 ⟨vs,H1,I1,r,q⟩=>⟨I1.kIn,?_⟩) he hpl;exact Ma M F hr hb hd hx I1 r q
end
structure y6 (N P:List Str)(sc:Scope):Prop where
 kind:sc.kind = .function
 co:sc.isCoroutine=false
 gen:sc.isGenerator=false
 nd:N.Nodup
 pre:N.take P.length=P
 par:∀ x∈P,sc.names.lookup x=some .local∨sc.names.lookup x=some .cell
 nofree:∀ y∈sc.names,y.2 ≠ .free
theorem Wt {kindOf:Str->Option NameKind}{x:Str}:∀{binds:List (Str×Value)}{m:Str->Option Value},(∀ v,(x,v)∉binds)->bindL kindOf binds m x=m x
 |[],_,_=>rfl
 |(n,v)::r,m,h=>by
  unfold bindL;rw [Wt λw hw=>h w (yT _ hw)];split
  ·have:x≠n:=by rintro rfl;exact h v yR
   simp [this]
  ·rfl
theorem Wr {kindOf:Str->Option NameKind}{x:Str}:∀{binds:List (Str×Value)}{m:Str->Option Value},(∀ v,(x,v)∉binds)->bindC kindOf binds m x=m x
 |[],_,_=>rfl
 |(n,v)::r,m,h=>by
  unfold bindC;rw [Wr λw hw=>h w (yT _ hw)];split
  ·rfl
  ·have:x≠n:=by rintro rfl;exact h v yR
   simp [this]
theorem Ws {kindOf:Str->Option NameKind}{x:Str}{v:Value}:∀{P:List Str}{vs:List Value}{i:Nat}{m:Str->Option Value},P.Nodup->P[i]?=some x->vs[i]?=some v->kindOf x=some .local -> bindL kindOf (P.zip vs) m x=some v
 |[],_,_,_,_,h,_,_=>by simp at h
 |_::_,[],_,_,_,_,h,_=>by simp at h
 |p::P,w::vs,0,m,nd,h1,h2,hk=>by
  simp at h1 h2;subst h1;subst h2;show bindL kindOf ((p,w)::P.zip vs) m p=_;unfold bindL;rw [Wt λv hv=>(yk.mp nd).1 (List.of_mem_zip hv).1,if_pos hk];simp
 |p::P,w::vs,i+1,m,nd,h1,h2,hk=>by
  show bindL kindOf ((p,w)::P.zip vs) m x=_;unfold bindL;exact Ws (i:=i) (yk.mp nd).2 (by simpa using h1) (by simpa using h2) hk
theorem Wq {kindOf:Str->Option NameKind}{x:Str}{v:Value}:∀{P:List Str}{vs:List Value}{i:Nat}{m:Str->Option Value},P.Nodup->P[i]?=some x->vs[i]?=some v->kindOf x≠some .local -> bindC kindOf (P.zip vs) m x=some v
 |[],_,_,_,_,h,_,_=>by simp at h
 |_::_,[],_,_,_,_,h,_=>by simp at h
 |p::P,w::vs,0,m,nd,h1,h2,hk=>by
  simp at h1 h2;subst h1;subst h2;show bindC kindOf ((p,w)::P.zip vs) m p=_;unfold bindC;rw [Wr λv hv=>(yk.mp nd).1 (List.of_mem_zip hv).1,if_neg hk];simp
 |p::P,w::vs,i+1,m,nd,h1,h2,hk=>by
  show bindC kindOf ((p,w)::P.zip vs) m x=_;unfold bindC;exact Wq (i:=i) (yk.mp nd).2 (by simpa using h1) (by simpa using h2) hk
def start (N:List Str)(vs:List V):St:=vs.map some++List.replicate (N.length-vs.length) none
def qc (CX:CXT)(P:Program)(w:World)(K:Fg)(mg:Str->Option Value)(base:Heap)(N:List Str)(qual:Str)(scope:Scope)(f:Addr)(cd:Value)(A:Around)(outer:List Env)(s:Shared)(H:Hp)(E:XK):Cx where
 prog:=P
 w:=w
 K:=K
 mg:=mg
 base:=base
 A:=A.deeper (envOfC qual scope s.heap.objs.size f cd)
 N:=N
 s₀:=s
 H₀:=H
 env:=envOfC qual scope s.heap.objs.size f cd
 outer:=outer
 stack:=envOfC qual scope s.heap.objs.size f cd::outer
 ex:=[]
 calm:=true
 fn:=λ_=>true
 pn:=[]
 xe:=λe s'=>wpAny (model P w) (A.deeper (envOfC qual scope s.heap.objs.size f cd)) (leaving (envOfC qual scope s.heap.objs.size f cd) e) (λ_ s''=>CX outer H s E e s'') (λe' s''=>CX outer H s E e' s'') s'
theorem WE {sc:Scope}(h:sc.names.lookup x=some .cell):∃ c,(cellsFrom n sc.names []).lookup x=some c:=by have q:=PySem.W.cellsFrom_some sc.names n [] (.inl h);exact Option.isSome_iff_exists.mp q
theorem Bt {f:Addr}{cd:Value}{s1:Shared}{E:XK}(S:y6 N ps scope)(hd:A.handled=none)(e0:Env0 P w K mg base A outer s H)(hl:vs.length=ps.length)(r:Vals vs us)(x:InCallC s s.heap.objs.size (bindL (envOfC qual scope s.heap.objs.size f cd).kindOf (ps.zip us) λ_=>none) (cellsFrom (s.heap.objs.size+1) scope.names []) (bindC (envOfC qual scope s.heap.objs.size f cd).kindOf (ps.zip us) λ_=>none) s1):Inv (qc CX P w K mg base N qual scope f cd A outer s H E) [] (start N vs) H s1:=by
 have hpl:ps.length<=N.length:=by have:=congrArg List.length S.pre;rw [List.length_take] at this;omega
 obtain ⟨h1,tk,rfl,hk⟩:=x.done;have noA:∀ b:Addr,b∉(qc CX P w K mg base N qual scope f cd A outer s H E).ex:=λb z=>absurd (show b∈([]:List Addr) from z) (by simp);refine ⟨⟨e0.mod,S.kind,rfl,rfl,yS _,λy z c h1 h2=>?_,λy hy=>?_,λy c _ h=>?_,λ_=>hd,Around.frames_deeper e0.frames,.inr ⟨rfl,rfl⟩,λb z=>absurd z (noA b),e0.bs,e0.bsz,λb _ _=>noA b,λb z=>absurd z (noA b),e0.funs,e0.frf,e0.tbs⟩,
  rfl,e0.bare,Un.kept hk,⟨_,x.toInCall.ns,λi y v h1 h2 h3=>?_⟩,λy c h=>⟨_,x.cell y c h⟩,e0.hok.fresh (yS _),λy c h=>?_,λp hp=>absurd (show p∈([]:List (Addr×Obj)) from hp) (by simp),e0.hok.kept hk,?_⟩
 ·exact name_of_addr x.apart (PySem.mem_of_lookup h1) (PySem.mem_of_lookup h2)
 ·have hy:scope.names.lookup y=some .cell∨scope.names.lookup y=some .free:=hy;rcases hy with hy|hy
  ·exact WE hy
  ·exact absurd rfl (S.nofree _ (PySem.mem_of_lookup hy))
 ·exact uQ (x.above y c (PySem.mem_of_lookup h))
 ·have hi:i<vs.length:=by
   unfold start at h2;by_cases hi:i<vs.length
   ·exact hi
   ·rw [uJ (by simpa using hi)] at h2;rw [uG] at h2;split at h2<;>cases h2
  have ha:vs[i]?=some v:=by
   unfold start at h2;rw [uN (by simpa using hi),yN] at h2;cases e:vs[i]? with
   |none=>rw [e] at h2;cases h2
   |some a=>rw [e] at h2;cases h2;rfl
  obtain ⟨u,hu,rv⟩:=r.get ha;have hp:ps[i]?=some y:=by rw [<- S.pre,List.getElem?_take_of_lt (by omega)];exact h1
  have ndP:ps.Nodup:=by rw [<- S.pre];exact S.nd.sublist (List.take_sublist _ _)
  refine ⟨u,rv,?_⟩;rcases S.par y (uT hp) with k|k
  ·exact .inl ⟨k,Ws ndP hp hu k⟩
  ·obtain ⟨c,e⟩:=WE (n:=s.heap.objs.size+1) k;refine .inr ⟨.inl k,c,e,?_⟩;have q:=x.cell y c e;rw [Wq ndP hp hu (by show scope.names.lookup y≠_;rw [k];decide)] at q;exact q
 ·exact e0.hok.fresh (uQ (x.above y c (PySem.mem_of_lookup h)))
 ·unfold start;show _=N.length;rw [yD,yZ,List.length_replicate];omega
theorem Xe {k:Nat}{f:Addr}{name:Str}{params:Arguments}{body:List Stmt}{dV kV doc pm cdv ct oc:Value}{an od:Option Addr}{osl:Array (Option Value)}(lk:K.lookup f=some ⟨oc,od,.func (PySem.W.fnOf name qual params body scope dV kV doc pm an cdv ct),osl⟩)(hcd:PySem.W.codeIn K cdv qual=true)(S:y6 N ps scope)(len:∀ vs H Q E,sp vs H Q E->vs.length=ps.length)(hbody:∀(A:Around)(outer:List Env)(s:Shared)(H:Hp)(vs:List V)(Q:VK)(E:XK),Room k (A.deeper (envOfC qual scope s.heap.objs.size f cdv))->sp vs H Q E -> ∃ t,PSs (qc CX P w K mg base N qual scope f cdv A outer s H E) body t/\t { nx:=λ_ H'=>Q .non H',rt:=Q } (start N vs) H):FnOk P w K mg base CX (k+1) f (PySem.W.fnOf name qual params body scope dV kV doc pm an cdv ct) ps sp:=by
 refine ⟨len,λA outer s H args us vs Q E hr e0 hb r hsp=>?_⟩;have hl:=len _ _ _ _ hsp;have KX:K.In s.heap:=e0.mod.kin.keeps λb o e=>(e0.bs b o e).1;have lim:s.heap.NoLimit:=e0.mod.nolimit.keeps λb o e=>(e0.bs b o e).1;have hkind:∀ y∈ps.zip us,scope.names.lookup y.1=some .local∨(scope.names.lookup y.1=some .cell/\((cellsFrom (s.heap.objs.size+1) scope.names []).lookup y.1).isSome=true):=λ⟨n,v⟩ hy=>by
  rcases S.par n (List.of_mem_zip hy).1 with q|q
  ·exact .inl q
  ·exact .inr ⟨q,PySem.W.cellsFrom_some _ _ _ (.inl q)⟩
 refine codeAny_call_function hr.depth (KX _ _ lk) rfl S.co S.gen rfl (PySem.W.codeRec_of KX hcd) (hb _ _ _ _ ?_);refine wpAny_newFunctionEnv_cells S.kind hkind λenv he s1 x=>?_;subst he;refine ⟨lim.keeps x.toInCall.keep,codeAny_func ?_⟩;obtain ⟨t,ht,hq⟩:=hbody A outer s H vs Q E (hr.deeper _) hsp;have I:Inv (qc CX P w K mg base N qual scope f cdv A outer s H E) [] (start N vs) H s1:=Bt S hr.hd e0 hl r x;refine wpAny_mono (ht [] s1 (start N vs) H _ I hq) (λfl s' hs=>?_) λe s' hs=>hs;have fin:∀{σ':St}{H':Hp}{v:V}{u:Value},Inv (qc CX P w K mg base N qual scope f cdv A outer s H E) [] σ' H' s'->RelV v u->Q v H'->CE outer P w H s Q u s' :=
  λ{σ' H' v u} J rv q=>⟨v,H',J.os,J.bare,J.base,J.hok,rv,q⟩
 cases fl with
 |ret u=>obtain ⟨v,σ',H',J,rv,q⟩:=hs;exact fin J rv q
 |next=>obtain ⟨σ',H',J,q⟩:=hs;exact fin (v:=V.non) (u:=Value.none) J rfl q
 |brk=>obtain ⟨_,_,_,q⟩:=hs;exact False.elim q
 |cont=>obtain ⟨_,_,_,q⟩:=hs;exact False.elim q
section
variable {X:Cx}{x:Str}{p pos:Pos}{e:Expr}{es:List Expr}{t:TA}{id T:String}{r:List V->Hp->VK->Prop}
def tCB (r:List V->Hp->VK->Prop)(t:TA):TE:=λσ H Q=>t σ H λvs H1=>r vs H1 Q
theorem t6 (hc:CallR X (.builtin id) r)(hg:Gl X x)(hm:X.mg x=none)(hv:bootBuiltins x=some (.builtin id))(ha:PA X (e::es) t)(hn:x ≠ "__name__":=by decide)(hdb:(x==("__debug__":Str))=false:=by decide)(he:starEach (e::es) X.env=(false,eval e X.env)::starEach es X.env:=by rfl)(hpl:(backTo pos (starEach es X.env)).any (·.1)=false:=by rfl):PE X (.Call (.Name x p) (e::es) [] pos) (tCB r t):=by intro pins s σ H Q I h;refine wpAny_Call_Name_kw (vi I hg hm hv ?_ hn hdb);exact PyProof.Rows.callWith_builtin1 (j5 (ha pos pins s σ H _ I h) λus s1 ⟨vs,H1,I1,r1,q1⟩=>hc pins s1 σ H1 vs us Q I1 r1 q1) he hpl
theorem ji (hc:CallR X (.type T) r)(hg:Gl X x)(hm:X.mg x=none)(hv:bootBuiltins x=some (.type T))(ha:PA X (e::es) t)(hn:x ≠ "__name__":=by decide)(hdb:(x==("__debug__":Str))=false:=by decide)(he:starEach (e::es) X.env=(false,eval e X.env)::starEach es X.env:=by rfl)(hpl:(backTo pos (starEach es X.env)).any (·.1)=false:=by rfl):PE X (.Call (.Name x p) (e::es) [] pos) (tCB r t):=by intro pins s σ H Q I h;refine wpAny_Call_Name_kw (vi I hg hm hv ?_ hn hdb);exact PyProof.Rows.callWith_type1 (j5 (ha pos pins s σ H _ I h) λus s1 ⟨vs,H1,I1,r1,q1⟩=>hc pins s1 σ H1 vs us Q I1 r1 q1) he hpl
end
end L2
namespace HT
open PySem PyProof.Rows
section
variable {prog:Program}{w:World}{A:Around}{E:Value->Shared->Prop}{s:Shared}
theorem cat_tup {t b:Addr}{vs ws:List Value}{Q:Value->Shared->Prop}(ht:IsTup s.heap t vs.toArray)(hb:IsTup s.heap b ws.toArray)(hv:vs≠[])(h1:ws=[]->Q (.ref t) s)(h2:ws≠[]->Q (.ref s.heap.objs.size) { s with heap:=s.heap.push { cls:= .type "tuple",data:= .seq (vs++ws).toArray } })(hsz:vs.length+ws.length<=sizeLine):wpAny (model prog w) A (binaryOp .Add (.ref t) (.ref b)) Q E s:=by
 obtain ⟨⟨cls,dd,data,sl⟩,ho,hc,n,hd⟩:=id ht;obtain ⟨⟨cls2,dd2,data2,sl2⟩,ho2,hc2,n2,hd2⟩:=id hb;simp only at hc hd hc2 hd2;subst hc hd hc2 hd2;have e:vs.toArray++ws.toArray=(vs++ws).toArray:=by simp
 by_cases hw:ws=[]
 ·exact concat_meets ⟨_,ho,rfl⟩ ⟨_,ho2,rfl⟩ noFill_tuple_add seq_tuple_add PySem.F.slot_tuple_add PySem.F.entry_tuple_add (PySem.F.args_tuple_add_2 _ _)
   (tuple_addW1 t b vs.toArray ws.toArray n n2 dd dd2 sl sl2 (by simpa using hv) (by simp [hw])) ⟨ho,ho2,h1 hw⟩
 ·refine concat_meets ⟨_,ho,rfl⟩ ⟨_,ho2,rfl⟩ noFill_tuple_add seq_tuple_add PySem.F.slot_tuple_add PySem.F.entry_tuple_add (PySem.F.args_tuple_add_2 _ _)
   (tuple_addW2 t b vs.toArray ws.toArray n n2 dd dd2 sl sl2 (by simpa using hv) (by simpa using hw) (by rw [yW,yW];exact hsz)) ⟨ho,ho2,?_⟩
  rw [e];exact h2 hw
def sIx (n d:Nat):Option Int->Nat
 |none=>d
 |some v=>if v<0 then (v+(n:Int)).toNat else min v.toNat n
theorem sIx_none (n d:Nat):sIx n d none=d:=rfl
theorem sIx_nat (n d k:Nat):sIx n d (some (k:Int))=min k n:=by show (if (k:Int)<0 then ((k:Int)+(n:Int)).toNat else min (k:Int).toNat n)=min k n;rw [if_neg (by omega),uA]
end
end HT
namespace L2
open PySem PySem.Spec PyProof.Rows
variable{r:R2}{xs:List (g0×Addr×Value)}{its its' us:List Value}{j n t':Nat}{α:Type}{pins:List (Addr×Obj)}{σ:St}{H H':Hp}{s:Shared}{x y:V}{u v:Value}{P:Program}{w:World}{fl:Bool}{kvs:List (g0×V)}{a:Addr}{Q:Value->Shared->Prop}{h':Heap}
abbrev TO:=St->Hp->(Option Int->Hp->Prop)->Prop
def PO (X:Cx)(e:Option Expr)(t:TO):Prop :=
 ∀(pins:List (Addr×Obj))(s:Shared)(σ:St)(H:Hp)(Q:Option Int->Hp->Prop),Inv X pins σ H s->t σ H Q ->
  wpAny (model X.prog X.w) X.A (evalPart e X.env) (λu s'=>∃ o H',Inv X pins σ H' s'/\IsPart u o/\Q o H') X.xe s
def UQ:TO:=λ_ H Q=>Q none H
def US (t:TE):TO:=λσ H Q=>t σ H λx H1=>∃ i,x = .int i/\Q (some i) H1
section
variable {X:Cx}{e:Expr}{te:TE}{lo hi:Option Expr}{tl th:TO}{pos p2:Pos}
theorem Ds:PO X none UQ:=by intro pins s σ H Q I h;rw [evalPart_none];exact yP ⟨none,H,I,.none,h⟩
theorem Dt (h:PE X e te):PO X (some e) (US te):=by intro pins s σ H Q I hw;rw [evalPart_some];refine j5 (h pins s σ H _ I hw) λu s1 zq=>?_;obtain ⟨x,H1,I1,r1,q1⟩:=zq;obtain ⟨i,rfl,q⟩:=q1;obtain ⟨t,rfl⟩:=r1;exact ⟨some i,H1,I1,.int i t,q⟩
def SlR (X:Cx)(r:V->Option Int->Option Int->Hp->VK->Prop):Prop :=
 ∀(pins:List (Addr×Obj))(s:Shared)(σ:St)(H:Hp)(x:V)(v vl vu:Value)(lo hi:Option Int)(sl:Addr)(Q:VK),Inv X pins σ H s->RelV x v->s.heap.IsSliceOf sl vl vu .none->IsPart vl lo->IsPart vu hi->r x lo hi H Q ->
  ∃ T id,typeLookup (.type T) "__getitem__"=pure (some (.builtin id))/\s.TypeIs v T/\wpAny (model X.prog X.w) X.A (getItem v (.ref sl)) (EP X pins σ Q) X.xe s
def tSl (r:V->Option Int->Option Int->Hp->VK->Prop)(te:TE)(tl th:TO):TE:=λσ H Q=>te σ H λx H1=>tl σ H1 λl H2=>th σ H2 λu H3=>r x l u H3 Q
theorem Df {r:V->Option Int->Option Int->Hp->VK->Prop}(hr:SlR X r)(he:PE X e te)(hl:PO X lo tl)(hu:PO X hi th):PE X (.Subscript e (.Slice lo hi none p2) pos) (tSl r te tl th):=by intro pins s σ H Q I h;refine Subscript_ (j5 (he pins s σ H _ I h) λv s1 zq=>?_);obtain ⟨x,H1,I1,r1,q1⟩:=zq;refine wpAny_Slice (j5 (hl pins s1 σ H1 _ I1 q1) λvl s2 ⟨l,H2,I2,pl,q2⟩=>j5 (hu pins s2 σ H2 _ I2 q2) λvu s3 zq=>?_);obtain ⟨u,H3,I3,pu,q3⟩:=zq;rw [evalPart_none];refine yP ?_;have I4:Inv X pins σ H3 { s3 with heap:=s3.heap.push { cls:= .type "slice",data:= .fields #[vl,vu,.none] } }:=I3.kept (t':=s3.toks) λb ob q=>yU _ q;obtain ⟨T,id,hT,ht,hg⟩:=hr pins { s3 with heap:=s3.heap.push { cls:= .type "slice",data:= .fields #[vl,vu,.none] } } σ H3 x v vl vu l u s3.heap.objs.size Q I4 r1 (Heap.IsSliceOf.new ..) pl pu q3;show wpAny (model X.prog X.w) X.A (subscriptTail e (.Slice lo hi none p2) v (.ref s3.heap.objs.size)) (EP X pins σ Q) X.xe { s3 with heap:=s3.heap.push { cls:= .type "slice",data:= .fields #[vl,vu,.none] } };exact tail_any (ops:=[.ref s3.heap.objs.size,v]) ht hT hg (by with_unfolding_all rfl)
def vX (xs:List V)(lo hi:Option Int):List V:=(xs.drop (HT.sIx xs.length 0 lo)).take (HT.sIx xs.length xs.length hi-HT.sIx xs.length 0 lo)
theorem Ku (xs:List V)(lo hi:Option Int):(vX xs lo hi).length<=xs.length:=by unfold vX;rw [List.length_take,uw];omega
def Uh (K:Fg):R2:=λx y H Q=>∃ a b xs ys,x = .ref a/\y = .ref b/\SqT K H a xs/\SqT K H b ys/\xs≠[]/\xs.length+ys.length<=sizeLine /\
 (ys=[]->Q (.ref a) H)/\(ys≠[]->∀ p,H p=none->Q (.ref p) (z6 H p (.tup (xs++ys))))
theorem Vals.nil_iff {xs:List V}(r:Vals xs us):us=[]↔xs=[]:=by
 cases r with
 |nil=>simp
 |cons _ _=>simp
theorem CG:OpR X (binaryOp .Add) (Uh X.K):=by intro pins s σ H x y v u Q I rx ry h;obtain ⟨a,b,xs,ys,rfl,rfl,ha,hb,hx,hz,q1,q2⟩:=h;cases rx;cases ry;obtain ⟨its,r1,p1,_⟩:=I.tuple ha;obtain ⟨its2,r2,p2,_⟩:=I.tuple hb;refine HT.cat_tup p1 p2 (λz=>hx (r1.nil_iff.mp z)) (λz=>⟨.ref a,H,I,rfl,q1 (r2.nil_iff.mp z)⟩) (λz=>?_) (by rw [<- r1.length,<- r2.length];exact hz);refine ⟨.ref s.heap.objs.size,_,I.laid (t':=s.toks) (o:= .tup (xs++ys)) (λb ob q=>yU _ q) (yS _) ?_,rfl,q2 (λw=>z (r2.nil_iff.mpr w)) _ (I.hok.fresh (yS _))⟩;exact ⟨by rw [yD];exact hz,_,r1.append r2,IsTup.new _ _⟩
end
def ixN (n:Nat)(i:Int):Option Nat:=if 0<=i then (if i<n then some i.toNat else none) else if -(n:Int)<=i then some (i+n).toNat else none
def atI {α:Type}(xs:List α)(i:Int):Option α:=(ixN xs.length i).bind λj=>xs[j]?
theorem Yp {i:Int}(h:ixN n i=some j):seqIndex? i n=some j/\j<n/\-(n:Int)<=i/\i<n:=by
 unfold ixN at h;by_cases h0:0<=i
 ·rw [if_pos h0] at h;by_cases h1:i<n
  ·rw [if_pos h1] at h;have e:i.toNat=j:=Option.some.inj h;exact ⟨by rw [seqIndex_of h0 h1,e],by omega,by omega,h1⟩
  ·rw [if_neg h1] at h;cases h
 ·rw [if_neg h0] at h;by_cases h1:-(n:Int)<=i
  ·rw [if_pos h1] at h;have e:(i+n).toNat=j:=Option.some.inj h;exact ⟨by rw [seqIndex_neg (by omega) h1,e],by omega,h1,by omega⟩
  ·rw [if_neg h1] at h;cases h
theorem Zc {xs:List α}{i:Int}{v:α}(h:atI xs i=some v):∃ j,seqIndex? i xs.length=some j/\xs[j]?=some v/\j<xs.length/\-(xs.length:Int)<=i/\i<xs.length:=by
 unfold atI at h;cases e:ixN xs.length i with
 |none=>rw [e] at h;cases h
 |some j=>rw [e] at h;obtain ⟨h1,h2,h3,h4⟩:=Yp e;exact ⟨j,h1,h,h2,h3,h4⟩
theorem jD {xs:List α}{v:α}(h:xs[j]?=some v):atI xs (j:Int)=some v:=by
 have hj:j<xs.length:=(yv.mp h).1;have e:ixN xs.length (j:Int)=some j:=by unfold ixN;rw [if_pos (by omega),if_pos (by omega)];simp
 unfold atI;rw [e];exact h
def VE (b:Expr):Prop:=∀ o i,subscripted b false o i=operate [o,i] (getItem o i)
def IxR (X:Cx)(r:R2):Prop :=
 ∀(value slice:Expr)(pins:List (Addr×Obj))(s:Shared)(σ:St)(H:Hp)(x y:V)(v u:Value)(Q:VK),Inv X pins σ H s->RelV x v->RelV y u->r x y H Q ->
  subscripted slice false v u=operate [v,u] (getItem v u)->wpAny (model X.prog X.w) X.A (subscriptTail value slice v u) (EP X pins σ Q) X.xe s
def MtR (X:Cx)(id:String)(r:V->List V->Hp->VK->Prop):Prop :=
 ∀(pins:List (Addr×Obj))(s:Shared)(σ:St)(H:Hp)(x:V)(xs:List V)(v:Value)(us:List Value)(Q:VK),Inv X pins σ H s->RelV x v->Vals xs us->r x xs H Q ->
  wpAny (model X.prog X.w) X.A (call (.builtin id) (v::us)) (EP X pins σ Q) X.xe s
section
variable {X:Cx}{a b:Expr}{ta tb:TE}{pos:Pos}
theorem IxR.or {r':R2}(h:IxR X r)(h':IxR X r'):IxR X (λx y H Q=>r x y H Q∨r' x y H Q):=by
 intro value slice pins s σ H x y v u Q I rx ry q hs;rcases q with q|q
 ·exact h value slice pins s σ H x y v u Q I rx ry q hs
 ·exact h' value slice pins s σ H x y v u Q I rx ry q hs
theorem Xy (hr:IxR X r)(ha:PE X a ta)(hb:PE X b tb)(hs:VE b):PE X (.Subscript a b pos) (tOp r ta tb):=by intro pins s σ H Q I h;exact Subscript_ (binT ha hb I h λv u s2 x y H2 I2 rx ry q=>hr a b pins s2 σ H2 x y v u Q I2 rx ry q (hs _ _))
def rIxL (K:Fg):R2:=λx y H Q=>∃ p xs i v,x = .ref p/\y = .int i/\SqL K H p xs/\atI xs i=some v/\Q v H
def rIxT (K:Fg):R2:=λx y H Q=>∃ p xs i v,x = .ref p/\y = .int i/\SqT K H p xs/\atI xs i=some v/\Q v H
def rIxS:R2:=λx y H Q=>∃ z i c,x = .str z/\y = .int i/\z.length<=sizeLine/\atI z.cps.toList i=some c/\Q (.str ⟨#[c]⟩) H
theorem ix_list:IxR X (rIxL X.K):=by
 intro value slice pins s σ H x y v u Q I rx ry h hs;obtain ⟨p,xs,i,z,rfl,rfl,hq,he,q⟩:=h;cases rx;obtain ⟨t,rfl⟩:=ry;obtain ⟨its,r,pl,hz⟩:=I.list hq;obtain ⟨j,h1,h2,h3,h4,h5⟩:=Zc he;obtain ⟨w,ew,rw'⟩:=r.get h2;have hl:=r.length;have hn:=vk;have fin:EP X pins σ Q w s:=⟨z,H,I,rw',q⟩;by_cases h0:0<=i
 ·have hj:i.toNat=j:=by rw [seqIndex_of h0 h5] at h1;exact Option.some.inj h1
  exact item_listR pl.isList h0 (by omega) (by rw [hj];simpa using ew) fin hs
 ·have hj:(i+(its.toArray.size:Int)).toNat=j:=by rw [seqIndex_neg (by omega) h4] at h1;rw [yW,<- hl];exact Option.some.inj h1
  exact subscriptTail_builtinR (x:=w) pl.isList.typeIs slot_list_getitem.lookup
   (wpAny_getItem_list_neg (Q:=λr s'=>r=w/\EP X pins σ Q r s') pl.isList (by omega) (by rw [yW]<;>omega) (by omega) (by rw [hj];simpa using ew) ⟨rfl,fin⟩) hs
theorem ix_tup:IxR X (rIxT X.K):=by
 intro value slice pins s σ H x y v u Q I rx ry h hs;obtain ⟨p,xs,i,z,rfl,rfl,hq,he,q⟩:=h;cases rx;obtain ⟨t,rfl⟩:=ry;obtain ⟨its,r,pl,hz⟩:=I.tuple hq;obtain ⟨j,h1,h2,h3,h4,h5⟩:=Zc he;obtain ⟨w,ew,rw'⟩:=r.get h2;have hl:=r.length;have hn:=vk;have fin:EP X pins σ Q w s:=⟨z,H,I,rw',q⟩;exact subscriptTail_builtinR (x:=w) pl.typeIs slot_tuple_getitem.lookup
  (getItem_tuple (j:=j) (Q:=λr s'=>r=w/\EP X pins σ Q r s') pl (by omega) (by omega) (by rw [yW,<- hl];exact h1) (by simpa using ew) ⟨rfl,fin⟩) hs
theorem BM:IxR X rIxS:=by
 intro value slice pins s σ H x y v u Q I rx ry h hs;obtain ⟨z,i,c,rfl,rfl,hz,he,q⟩:=h;obtain ⟨t,rfl⟩:=rx;obtain ⟨t',rfl⟩:=ry;obtain ⟨j,h1,h2,h3,h4,h5⟩:=Zc he;have hl:z.cps.toList.length=z.length:=by simp [Str.length]
 rw [hl] at h1 h4 h5;have hn:=vk;exact tail_any (typeIs_str s z t) slot_str_getitem.lookup (getItem_str (c:=c) (by
  have e1:decide (i < -(2 ^ 63:Int))=false:=yL (by omega);have e2:decide (i >= 2 ^ 63)=false:=yL (by omega);rw [e1,e2,Bool.or_false]) (by rw [h1];simpa using h2) ⟨.str ⟨#[c]⟩,H,I.tok _,⟨_,rfl⟩,q⟩) hs
def rIx (K:Fg):R2:=λx y H Q=>rIxL K x y H Q∨rIxT K x y H Q∨rIxS x y H Q
theorem BK:IxR X (rIx X.K):=ix_list.or (ix_tup.or BM)
theorem Pn (its:List Value)(n j:Nat)(u:Value):Obj.mapSeq (·.setIfInBounds j u) { cls:= .type "list",data:= .seq its.toArray n }={ cls:= .type "list",data:= .seq (its.set j u).toArray n }:=by simp [Obj.mapSeq]
theorem Inv.lst {pins:List (Addr×Obj)}{σ:St}{H:Hp}{s:Shared}{p:Addr}{xs:List V}(I:Inv X pins σ H s)(h:H p=some (.lst xs)):∃ (its:List Value) (n:Nat),Vals xs its/\s.heap.get? p=some { cls:= .type "list",data:= .seq its.toArray n }/\xs.length<=sizeLine:=by obtain ⟨z,its,n,r,e⟩:=I.hok p _ h;exact ⟨its,n,r,e,z⟩
theorem Inv.lstUpd {p:Addr}{xs ys:List V}{n':Nat}{f:Obj->Obj}(I:Inv X pins σ H s)(h:H p=some (.lst xs))(ho:s.heap.get? p=some { cls:= .type "list",data:= .seq its.toArray n })(hf:f { cls:= .type "list",data:= .seq its.toArray n }={ cls:= .type "list",data:= .seq its'.toArray n' })(r:Vals ys its')(hz:ys.length<=sizeLine)(t:Nat):Inv X pins σ (z6 H p (.lst ys)) { s with heap:=s.heap.update p f,toks:=t }:=by
 have e:(s.heap.update p f).get? p=some { cls:= .type "list",data:= .seq its'.toArray n' }:=by rw [uz f ho (by rw [hf]<;>rfl),hf]
 refine I.write (x:=p) (e:=p) (by rw [h];trivial) (.inl rfl) (λb u hb q=>(uW _ _ (Ne.symm hb)).trans q) ⟨_,e⟩ ?_;exact ⟨hz,its',n',r,e⟩
def Jk:V->V->V->Hp->(Hp->Prop)->Prop:=λo i v H Q=>∃ p xs k j,o = .ref p/\i = .int k/\H p=some (.lst xs)/\ixN xs.length k=some j/\Q (z6 H p (.lst (xs.set j v)))
theorem Vd:PSet X Jk:=by
 intro pins s σ H o i v ov iv u Q I ro ri rv h;obtain ⟨p,xs,k,j,rfl,rfl,hp,hj,q⟩:=h;cases ro;obtain ⟨t,rfl⟩:=ri;obtain ⟨its,n,r,ho,hz⟩:=I.lst hp;obtain ⟨h1,h2,h3,h4⟩:=Yp hj;have hl:=r.length;have hn:=vk;have I':Inv X pins σ (z6 H p (.lst (xs.set j v))) { s with heap:=s.heap.update p (Obj.mapSeq (·.setIfInBounds j u)) } :=
  I.lstUpd hp ho (Pn its n j u) (r.set rv j) (by rw [yw];exact hz) s.toks
 by_cases h0:0<=k
 ·have hk:k.toNat=j:=by rw [seqIndex_of h0 h4] at h1;exact Option.some.inj h1
  exact PySem.W.ki_setAt ho h0 (by omega) (by rw [yW,<- hl];exact h4) (by rw [hk];exact ⟨_,I',q⟩)
 ·have hk:(k+(its.toArray.size:Int)).toNat=j:=by rw [seqIndex_neg (by omega) h3] at h1;rw [yW,<- hl];exact Option.some.inj h1
  exact PySem.W.ki_setBack ho (by omega) (by rw [yW,<- hl];exact h3) (by omega) (by rw [hk];exact ⟨_,I',q⟩)
theorem MV (lo hi:Option Int)(n:Nat):(sliceBounds lo hi none n).1=((HT.sIx n 0 lo:Nat):Int)/\(sliceBounds lo hi none n).2.1=((HT.sIx n n hi:Nat):Int)/\(sliceBounds lo hi none n).2.2=1:=by
 refine ⟨?_,?_,rfl⟩
 ·cases lo with
  |none=>simp [sliceBounds,HT.sIx]
  |some i =>
   simp only [sliceBounds,HT.sIx,uu,show (1:Int) > 0 by decide,if_true];by_cases h:i<0
   ·simp only [h,if_true]<;>omega
   ·simp only [h,if_false]<;>omega
 ·cases hi with
  |none=>simp [sliceBounds,HT.sIx]
  |some i =>
   simp only [sliceBounds,HT.sIx,uu,show (1:Int) > 0 by decide,if_true];by_cases h:i<0
   ·simp only [h,if_true]<;>omega
   ·simp only [h,if_false]<;>omega
theorem MU (its:List Value)(lo hi:Option Int):slicePick its.toArray lo hi none=((its.drop (HT.sIx its.length 0 lo)).take (HT.sIx its.length its.length hi-HT.sIx its.length 0 lo)).toArray:=by obtain ⟨h1,h2,h3⟩:=MV lo hi its.toArray.size;unfold slicePick;rw [h1,h2,h3];simp only [sliceRange_one,pick_run,yW]<;>rfl
def rSlL (K:Fg):V->Option Int->Option Int->Hp->VK->Prop:=λx lo hi H Q=>∃ a xs,x = .ref a/\SqL K H a xs/\∀ p,H p=none->Q (.ref p) (z6 H p (.lst (vX xs lo hi)))
theorem MR:SlR X (rSlL X.K):=by intro pins s σ H x v vl vu lo hi sl Q I rx hs pl pu h;obtain ⟨a,xs,rfl,hx,q⟩:=h;cases rx;obtain ⟨its,r,ht,hz⟩:=I.list hx;have hlen:=r.length;refine ⟨"list",_,slot_list_getitem.lookup,ht.isList.typeIs,?_⟩;refine wpAny_getItem_list_slice ht.isList hs pl pu .none (by simp) ?_ (by rw [yW]<;>omega);rw [MU,<- hlen];refine ⟨.ref s.heap.objs.size,_,I.laid (t':=s.toks) (o:= .lst (vX xs lo hi)) (λb ob q=>yU _ q) (yS _) ?_,rfl,q _ (I.hok.fresh (yS _))⟩;exact ⟨yd (Ku xs lo hi) hz,_,0,(r.drop (HT.sIx xs.length 0 lo)).take (HT.sIx xs.length xs.length hi-HT.sIx xs.length 0 lo),yu _ rfl⟩
def y9:V->Bool
 | .non=>true
 | .bl _=>true
 | .int _=>true
 | .str _=>true
 |_=>false
def t9:V->V->Bool
 | .non,.non=>true
 | .bl a,.bl b=>a==b
 | .bl a,.int b=>(if a then 1 else 0)==b
 | .int a,.bl b=>a==(if b then 1 else 0)
 | .int a,.int b=>a==b
 | .str a,.str b=>a==b
 |_,_=>false
theorem Zp {A:Around}(ry:RelV y u)(rx:RelV x v)(fy:y9 y=true)(fx:y9 x=true):SeqAt.EqAt A s u v (t9 y x):=by
 cases y with
 |non =>
  cases ry;cases x with
  |non=>cases rx;exact SeqAt.EqAt.same _
  |bl b=>cases rx;exact SeqAt.EqAt.none_bool b
  |int b=>obtain ⟨t,rfl⟩:=rx;exact SeqAt.EqAt.none_int b t
  |str b=>obtain ⟨t,rfl⟩:=rx;exact SeqAt.EqAt.none_str b t
  |_=>exact absurd (show false=true from fx) yV
 |bl a =>
  cases ry;cases x with
  |non=>cases rx;exact SeqAt.EqAt.bool_none a
  |bl b=>cases rx;exact SeqAt.EqAt.bool_bool a b
  |int b=>obtain ⟨t,rfl⟩:=rx;exact SeqAt.EqAt.bool_int a b t
  |str b=>obtain ⟨t,rfl⟩:=rx;exact SeqAt.EqAt.bool_str a b t
  |_=>exact absurd (show false=true from fx) yV
 |int a =>
  obtain ⟨t',rfl⟩:=ry;cases x with
  |non=>cases rx;exact SeqAt.EqAt.int_none a t'
  |bl b=>cases rx;exact SeqAt.EqAt.int_bool a t' b
  |int b=>obtain ⟨t,rfl⟩:=rx;exact SeqAt.EqAt.int_int a t' b t
  |str b=>obtain ⟨t,rfl⟩:=rx;exact SeqAt.EqAt.int_str a t' b t
  |_=>exact absurd (show false=true from fx) yV
 |str a =>
  obtain ⟨t',rfl⟩:=ry;cases x with
  |non=>cases rx;exact SeqAt.EqAt.str_none a t'
  |bl b=>cases rx;exact SeqAt.EqAt.str_bool a t' b
  |int b=>obtain ⟨t,rfl⟩:=rx;exact SeqAt.EqAt.str_int a t' b t
  |str b=>obtain ⟨t,rfl⟩:=rx;exact SeqAt.EqAt.str_str a t' b t
  |_=>exact absurd (show false=true from fx) yV
 |_=>exact absurd (show false=true from fy) yV
def eqU (x:V)(u:Value):Bool:=match u with
 | .none=>t9 .non x
 | .bool b=>t9 (.bl b) x
 | .int i _=>t9 (.int i) x
 | .str z _=>t9 (.str z) x
 |_=>false
theorem Zq (r:RelV y u)(f:y9 y=true):eqU x u=t9 y x:=by
 cases y with
 |non=>cases r;rfl
 |bl b=>cases r;rfl
 |int i=>obtain ⟨t,rfl⟩:=r;rfl
 |str z=>obtain ⟨t,rfl⟩:=r;rfl
 |_=>exact absurd (show false=true from f) yV
theorem ZO {A:Around}{s:Shared}{x:V}{v:Value}(rx:RelV x v)(fx:y9 x=true):∀{xs:List V}{us:List Value},Vals xs us->xs.all y9=true->∀ u∈us,SeqAt.EqAt A s u v (eqU x u)
 |_,_,.nil,_=>λu hu=>by cases hu
 |y::xs,u::us,.cons r t,f=>λu' hu=>by
  rw [List.all_cons,yt] at f;rcases yJ.mp hu with rfl|hu
  ·rw [Zq r f.1];exact Zp r rx f.1 fx
  ·exact ZO rx fx t f.2 u' hu
theorem Kk:CallR X (.builtin "len") (λxs H Q=>∃ p ys,xs=[.ref p]/\(SqL X.K H p ys∨SqT X.K H p ys)/\Q (.int ys.length) H):=by
 intro pins s σ H xs us Q I r h;obtain ⟨p,ys,rfl,hq,q⟩:=h;obtain ⟨u,rfl,rx⟩:=jw r;cases rx;have hn:=vk;rcases hq with hq|hq
 ·obtain ⟨its,r',pl,hz⟩:=I.list hq;have hlen:=r'.length;exact Calls.call_len_list pl.isList (by simp only [yW]<;>omega) ⟨.int ys.length,H,I.tok _,⟨s.toks+1,by rw [yW,hlen]⟩,q⟩
 ·obtain ⟨its,r',pl,hz⟩:=I.tuple hq;have hlen:=r'.length;exact len_tuple pl (by simp only [yW]<;>omega) ⟨.int ys.length,H,I.tok _,⟨s.toks+1,by rw [yW,hlen]⟩,q⟩
theorem CallR.or {f:Value}{r r':List V->Hp->VK->Prop}(h:CallR X f r)(h':CallR X f r'):CallR X f (λxs H Q=>r xs H Q∨r' xs H Q):=by
 intro pins s σ H xs us Q I rs q;rcases q with q|q
 ·exact h pins s σ H xs us Q I rs q
 ·exact h' pins s σ H xs us Q I rs q
theorem Kl:CallR X (.type "list") (λxs H Q=>∃ p ys,xs=[.ref p]/\(SqL X.K H p ys∨SqT X.K H p ys)/\∀ l,H l=none->Q (.ref l) (z6 H l (.lst ys))):=by
 intro pins s σ H xs us Q I r h;obtain ⟨p,ys,rfl,hq,q⟩:=h;obtain ⟨u,rfl,rx⟩:=jw r;cases rx;have fin:∀(its:List Value),Vals ys its->ys.length<=sizeLine->∀(h':Heap)(c':Nat),(∀ b o',s.heap.get? b=some o'->h'.get? b=some o') ->
   h'.get? s.heap.objs.size=some { cls:= .type "list",dict:=none,data:= .seq its.toArray c',slots:=#[] }->EP X pins σ Q (.ref s.heap.objs.size) { s with heap:=h' }:=λits r' hz h' c' kp e =>
  ⟨.ref s.heap.objs.size,_,I.laid (t':=s.toks) kp (yS _) (show ObjOk X.prog X.w _ h' _ (.lst ys) from ⟨hz,its,c',r',e⟩),rfl,q _ (I.hok.fresh (yS _))⟩
 rcases hq with hq|hq
 ·obtain ⟨its,r',pl,hz⟩:=I.list hq;have hlen:=r'.length;obtain ⟨o,ho,hc,n,hd⟩:=pl.isList;exact call_list_seq p (.inl rfl) ho hc hd (λh' c' kp e=>fin its r' hz h' c' kp e) (by simp only [yW]<;>omega)
 ·obtain ⟨its,r',pl,hz⟩:=I.tuple hq;have hlen:=r'.length;obtain ⟨o,ho,hc,n,hd⟩:=pl;exact call_list_seq p (.inr rfl) ho hc hd (λh' c' kp e=>fin its r' hz h' c' kp e) (by simp only [yW]<;>omega)
def tyV (K:Fg)(T:String)(x:V)(H:Hp):Prop:=match x with
 | .str _=>T = "str"
 | .int _=>T = "int"
 | .ref p=>(T = "list"/\∃ xs,SqL K H p xs)∨(T = "tuple"/\∃ o,K.lookup p=some o/\o.cls = .type "tuple"/\o.dict=none) ∨
   (T = "dict"/\((∃ kvs,H p=some (.dK kvs))∨∃ fl as kvs,H p=some (.dT fl as kvs)))∨(T = "set"/\∃ S n,H p=some (.set S n))
 |_=>False
theorem UX {T:String}(I:Inv X pins σ H s)(r:RelV x v)(ty:tyV X.K T x H):s.TypeIs v T/\∀ a,v = .ref a->∃ ob,s.heap.get? a=some ob/\ob.dict=none:=by
 cases x with
 |str z=>obtain ⟨t,rfl⟩:=r;cases (show T = "str" from ty);exact ⟨typeIs_str s z t,λ_ e=>nomatch e⟩
 |int i=>obtain ⟨t,rfl⟩:=r;cases (show T = "int" from ty);exact ⟨typeIs_int s i t,λ_ e=>nomatch e⟩
 |ref p =>
  cases r;rcases ty with ⟨rfl,xs,hq⟩|⟨rfl,o,hk,hc,hd⟩|⟨rfl,hk⟩|⟨rfl,S,n,hk⟩
  ·obtain ⟨its,_,pl,_⟩:=I.list hq;refine ⟨pl.isList.typeIs,λa e=>?_⟩;cases e;obtain ⟨o,n,e,c,hd,_⟩:=pl;exact ⟨o,e,hd⟩
  ·refine ⟨⟨o,I.kIn p o hk,hc⟩,λa e=>?_⟩;cases e;exact ⟨o,I.kIn _ o hk,hd⟩
  ·have z:∃ o,s.heap.get? p=some o/\o.ExactDict:=by
    rcases hk with ⟨kvs,hk⟩|⟨fl,as,kvs,hk⟩
    ·obtain ⟨_,_,_,_,o,_,_,e,ex,_⟩:=I.hok p _ hk;exact ⟨o,e,ex⟩
    ·obtain ⟨_,_,_,_,o,_,_,e,ex,_⟩:=I.hok p _ hk;exact ⟨o,e,ex⟩
   obtain ⟨o,e,ex⟩:=z;refine ⟨⟨o,e,ex.1⟩,λa e2=>?_⟩;cases e2;exact ⟨o,e,ex.2.1⟩
  ·obtain ⟨o,_,_,_,e,ex,_⟩:=I.hok p _ hk;refine ⟨⟨o,e,ex.1⟩,λa e2=>?_⟩;cases e2;exact ⟨o,e,ex.2.1⟩
 |_=>exact False.elim ty
def tBM0 (K:Fg)(T:String)(r:V->List V->Hp->VK->Prop)(to:TE):TE:=λσ H Q=>to σ H λx H1=>tyV K T x H1/\r x [] H1 Q
def tBM (K:Fg)(T:String)(r:V->List V->Hp->VK->Prop)(to:TE)(t:TA):TE:=λσ H Q=>to σ H λx H1=>tyV K T x H1/\t σ H1 λxs H2=>r x xs H2 Q
variable {o e:Expr}{es:List Expr}{to:TE}{t:TA}{name:Str}{apos cpos:Pos}{T id:String}{r:V->List V->Hp->VK->Prop}
theorem CY (pa:PlainAttrs T)(slot:Slot T name id)(hty:typeOf (.builtin id)=pure (.type "method_descriptor"))(hm:MtR X id r)(ho:PE X o to)(hbase:attributeBase o name X.env (eval o X.env)=eval o X.env:=by rfl)(hline:(apos.endLine==cpos.line)=true:=by rfl):PE X (.Call (.Attribute o name apos) [] [] cpos) (tBM0 X.K T r to):=by intro pins s σ H Q I h;refine wpAny_Call_method0_late hbase hline (j5 (ho pins s σ H _ I h) λv s1 zq=>?_);obtain ⟨x,H1,I1,r1,ty,q1⟩:=zq;obtain ⟨h1,h2⟩:=UX I1 r1 ty;exact ⟨T,id,pa,slot,hty,h1,h2,Calls.callWith_builtin rfl (PySem.evalArgs_none (hm pins s1 σ H1 x [] v [] Q I1 r1 .nil q1))⟩
theorem pe_bm (pa:PlainAttrs T)(slot:Slot T name id)(hty:typeOf (.builtin id)=pure (.type "method_descriptor"))(hm:MtR X id r)(ho:PE X o to)(ha:PA X (e::es) t)(hbase:attributeBase o name X.env (eval o X.env)=eval o X.env:=by rfl)(hfew:((backTo cpos (starEach (e::es) X.env)).all (λx=>!x.1)&&(backToKw cpos (keywordEach [] X.env)).all (λx=>x.1.isSome)&&decide ((e::es).length+([]:List Keyword).length+(if ([]:List Keyword).isEmpty then 0 else 1)<30))=true:=by rfl)(hline:(apos.endLine==cpos.line)=true:=by rfl)(hs:starEach (e::es) X.env=(false,eval e X.env)::starEach es X.env:=by rfl)(hplain:(backTo cpos (starEach es X.env)).any (·.1)=false:=by rfl):PE X (.Call (.Attribute o name apos) (e::es) [] cpos) (tBM X.K T r to t):=by intro pins s σ H Q I h;refine wpAny_Call_method_late hbase hfew hline rfl (j5 (ho pins s σ H _ I h) λv s1 zq=>?_);obtain ⟨x,H1,I1,r1,ty,q1⟩:=zq;obtain ⟨h1,h2⟩:=UX I1 r1 ty;refine ⟨T,id,pa,slot,hty,h1,h2,?_⟩;have hA:=ha cpos pins s1 σ H1 _ I1 q1;rw [hs] at hA ⊢;refine Calls.callWith_builtin (by show (false || (backTo cpos (starEach es X.env)).any (·.1))=false;rw [hplain]<;>rfl) (Calls.evalArgs_plain ?_);exact j5 hA λus s2 ⟨vs,H2,I2,r2,q2⟩=>hm pins s2 σ H2 x vs v us Q I2 r1 r2 q2
end
def MtM (X:Cx)(id:String)(r:V->List V->Hp->VK->Prop):Prop :=
 ∀(pins:List (Addr×Obj))(s:Shared)(σ:St)(H:Hp)(x:V)(xs:List V)(v:Value)(us:List Value)(Q:VK),Inv X pins σ H s->RelV x v->Vals xs us->r x xs H Q ->
  wpAny (model X.prog X.w) X.A (call (.builtin id) (v::us)) (EP X pins σ Q) X.xe s
theorem Vals.one:∀{x:V}{us:List Value},Vals [x] us->∃ u,us=[u]/\RelV x u
 |_,_,.cons r .nil=>⟨_,rfl,r⟩
theorem Vals.zero:∀{us:List Value},Vals [] us->us=[]
 |_,.nil=>rfl
theorem Vals.dropLast {xs:List V}(h:Vals xs us):Vals xs.dropLast us.dropLast:=by
 induction h with
 |nil=>exact .nil
 |cons r t ih =>
  cases t with
  |nil=>exact .nil
  |cons q t'=>exact .cons r ih
theorem Vals.rep {xs:List V}{us:List Value}(h:Vals xs us):∀ k:Nat,Vals (List.replicate k xs).flatten (List.replicate k us).flatten
 |0=> .nil
 |k+1=>by
  rw [uV,uV,uI,uI];exact Vals.append h (Vals.rep h k)
theorem KJ (l:List α):l.eraseIdx (l.length-1)=l.dropLast:=by
 induction l with
 |nil=>rfl
 |cons a r ih =>
  cases r with
  |nil=>rfl
  |cons b r =>
   have e:(a::b::r).length-1=((b::r).length-1)+1:=by have h1:(a::b::r).length=r.length+2:=rfl;have h2:(b::r).length=r.length+1:=rfl;omega
   rw [e,List.eraseIdx_cons_succ,ih]
   all_goals rfl
theorem Yf (its:List Value):∀(k:Nat)(acc:List Value), List.foldl (λx1 x2=>x1++x2) acc.toArray (List.replicate k its.toArray)=(acc++(List.replicate k its).flatten).toArray
 |0,acc=>by simp
 |k+1,acc=>by
  have e:acc.toArray++its.toArray=(acc++its).toArray:=by simp
  have e2:(acc++its)++(List.replicate k its).flatten=acc++(List.replicate (k+1) its).flatten:=by rw [uV,uI,uS]
  rw [<- e2,<- Yf its k (acc++its),<- e,uV,List.foldl_cons]
section
variable {X:Cx}{pins:List (Addr×Obj)}{σ:St}{H:Hp}{s:Shared}{l b:Addr}{xs ys zs:List V}
theorem Inv.lset {f:Array Value->Array Value}(I:Inv X pins σ H s)(hH:H l=some (.lst xs))(e:s.heap.get? l=some { cls:= .type "list",data:= .seq its.toArray n })(hf:f its.toArray=its'.toArray)(hv:Vals ys its')(hz:ys.length<=sizeLine):Inv X pins σ (z6 H l (.lst ys)) { s with heap:=s.heap.update l (Obj.mapSeq f),toks:=t' }:=by have q:=PySem.IsL.update e f;rw [hf] at q;refine I.write (x:=l) (e:=l) (by rw [hH];exact trivial) (.inl rfl) (λb' u hb hu=>(uW s.heap (Obj.mapSeq f) (Ne.symm hb)).trans hu) ⟨_,q⟩ ?_;exact ⟨hz,its',_,hv,q⟩
theorem Inv.lnew (I:Inv X pins σ H s)(hv:Vals ys its)(hz:ys.length<=sizeLine):Inv X pins σ (z6 H s.heap.objs.size (.lst ys)) { s with heap:=s.heap.push { cls:= .type "list",data:= .seq its.toArray },toks:=t' } :=
 I.laid (λ_ _ q=>yU _ q) (yS _) ⟨hz,its,0,hv,yu _ rfl⟩
theorem Inv.fresh (I:Inv X pins σ H s):H s.heap.objs.size=none:=I.hok.fresh (yS _)
theorem Inv.lstM (I:Inv X pins σ H s)(hH:H l=some (.lst xs)):xs.length<=sizeLine/\∃ (its:List Value) (n:Nat),Vals xs its/\xs.length=its.length/\s.heap.get? l=some { cls:= .type "list",data:= .seq its.toArray n }:=by obtain ⟨z,its,n,r,e⟩:=I.hok l _ hH;exact ⟨z,its,n,r,r.length,e⟩
theorem Py (h:n<=sizeLine):Builtin.List.listTooLong n=false:=by unfold Builtin.List.listTooLong;exact yL (by omega)
end
section
variable {X:Cx}
def Ug:V->List V->Hp->VK->Prop:=λx vs H Q=>∃ l xs y,x = .ref l/\vs=[y]/\H l=some (.lst xs)/\xs.length<sizeLine/\Q .non (z6 H l (.lst (xs++[y])))
theorem Pq:MtM X "list.append" Ug:=by intro pins s σ H x vs v us Q I rx rv h;obtain ⟨l,xs,y,rfl,rfl,hH,hz,q⟩:=h;cases rx;obtain ⟨u,rfl,ru⟩:=rv.one;obtain ⟨z,its,n,r,hl,e⟩:=I.lstM hH;refine call_meets F.slot_list_append ⟨_,e,rfl⟩ F.entry_list_append (F.args_list_append_2 _ _) (PySem.list_append l its.toArray n u (by rw [yW];omega)) ⟨e,?_⟩;refine ⟨.non,_,I.lset (its':=its++[u]) hH e (by simp) (r.append (.cons ru .nil)) ?_,rfl,q⟩;rw [yD,List.length_singleton];omega
def rPop:V->List V->Hp->VK->Prop:=λx vs H Q=>∃ l xs y,x = .ref l/\vs=[]/\H l=some (.lst xs)/\xs[xs.length-1]?=some y/\Q y (z6 H l (.lst xs.dropLast))
theorem Pt:MtM X "list.pop" rPop:=by
 intro pins s σ H x vs v us Q I rx rv h;obtain ⟨l,xs,y,rfl,rfl,hH,hy,q⟩:=h;cases rx;have hus:=rv.zero;subst hus;obtain ⟨z,its,n,r,hl,e⟩:=I.lstM hH;obtain ⟨u,hu,ru⟩:=r.get hy;have hy':its.toArray[its.toArray.size-1]?=some u:=by show its.toArray[its.length-1]?=some u;rw [<- Array.getElem?_toList,<- hl];exact hu
 refine call_meets F.slot_list_pop ⟨_,e,rfl⟩ F.entry_list_pop (F.args_list_pop_1 _) (MeetsSeq.list_pop_last l its.toArray n u hy' (by rw [yW];omega)) ⟨e,?_⟩;refine ⟨y,_,I.lset (its':=its.dropLast) hH e ?_ r.dropLast ?_,ru,q⟩
 ·show its.toArray.eraseIdxIfInBounds (its.toArray.size-1)=its.dropLast.toArray;rw [yW,List.eraseIdxIfInBounds_toArray,KJ]
 ·rw [List.length_dropLast];omega
def rRep:R2:=λx y H Q=>∃ l k xs,x = .ref l/\y = .int k/\H l=some (.lst xs)/\-(2 ^ 63)<=k/\k<2 ^ 63/\xs.length*k.toNat<=sizeLine /\
 ∀ p,H p=none->Q (.ref p) (z6 H p (.lst (List.replicate k.toNat xs).flatten))
theorem Pb (xs:List α)(k:Nat):(List.replicate k xs).flatten.length=k*xs.length:=by
 induction k with
 |zero=>simp
 |succ k ih=>rw [uV,uI,yD,ih,Nat.succ_mul,Nat.add_comm]
theorem CO:OpR X (binaryOp .Mult) rRep:=by
 intro pins s σ H x y v u Q I rx ry h;obtain ⟨l,k,xs,rfl,rfl,hH,h1,h2,hz,q⟩:=h;cases rx;obtain ⟨t,rfl⟩:=ry;obtain ⟨z,its,n,r,hl,e⟩:=I.lstM hH;have hlen:its.toArray.size*k.toNat<=sizeLine:=by rw [yW,<- hl];exact hz
 have hcap:¬ its.toArray.size*k.toNat > (2 ^ 63-1) / 8:=by
  have:(sizeLine:Nat)<=(2 ^ 63-1) / 8:=by decide
  omega
 have hfit:¬ (!Builtin.List.listFitsIndex k)=true:=by rw [fitsIndex_both h1 h2];exact yV
 have hlong:¬ Builtin.List.listTooLong (its.toArray.size*k.toNat)=true:=by rw [Py hlen];exact yV
 have hnew:List.foldl (λx1 x2=>x1++x2) #[] (List.replicate (if its.toArray.isEmpty=true then 0 else k.toNat) its.toArray)=(List.replicate k.toNat its).flatten.toArray:=by
  have f0:∀ m:Nat,List.foldl (λx1 x2=>x1++x2) #[] (List.replicate m its.toArray)=(List.replicate m its).flatten.toArray:=λm=>by
   have:=Yf its m [];rw [List.nil_append] at this;exact this
  rw [f0];cases its with
  |nil=>simp
  |cons a r'=>rw [if_neg (by simp)]
 refine wpAny_binaryOp_repeat_ref (T:="list") (U:="int") (by decide) ⟨_,e,rfl⟩ (λs'=>typeIs_int s' k t) noFill_list_mul F.fills_int_mul F.slot_int_rmul repeat_list F.slot_int_index.lookup
  (call_meets F.slot_int_rmul (typeIs_int s k t) F.entry_int_rmul (F.args_int_rmul_2 _ _) (int___rmul___int_list k t l its.toArray n)
   ⟨e,rfl,⟨_,e,rfl⟩,call_meets F.slot_list_mul ⟨_,e,rfl⟩ F.entry_list_mul (F.args_list_mul_2 _ _) (AutoListH.list___mul___list_int_3 l its.toArray n k t hfit hcap hlong) ⟨e,?_⟩⟩)
 rw [hnew];exact ⟨.ref _,_,I.lnew (t':=s.toks) (r.rep k.toNat) (by rw [Pb,Nat.mul_comm];exact hz),rfl,q _ I.fresh⟩
end
section
variable {κ:Type}[DecidableEq κ]
def i6 (kvs:List (κ×V))(k:κ):Option V:=(kvs.find? λkv=>decide (kv.1=k)).map (·.2)
def xZ (kvs:List (κ×V))(k:κ)(v:V):List (κ×V) :=
 if (kvs.any λkv=>decide (kv.1=k))=true then kvs.map (λkv=>if kv.1=k then (kv.1,v) else kv) else kvs++[(k,v)]
theorem Vr {p:κ×V}{r:List (κ×V)}{k:κ}(e:p.1=k):i6 (p::r) k=some p.2:=by simp [i6,uM,e]
theorem Vq {p:κ×V}{r:List (κ×V)}{k:κ}(e:¬ p.1=k):i6 (p::r) k=i6 r k:=by simp [i6,uM,e]
theorem XT (k:κ):∀ kvs:List (κ×V),(kvs.any λkv=>decide (kv.1=k))=(i6 kvs k).isSome
 |[]=>rfl
 |p::r=>by
  rw [List.any_cons];by_cases e:p.1=k
  ·simp only [Vr e,yo e,Bool.true_or,Option.isSome_some]
  ·rw [Vq e,yL e,Bool.false_or];exact XT k r
theorem Yu (kvs:List (κ×V))(k:κ)(v:V):(xZ kvs k v).length<=kvs.length+1:=by
 unfold xZ;split
 ·rw [yZ];omega
 ·rw [yD,yz,List.length_nil];omega
theorem RelO.isSome_eq {o:Option V}{u:Option Value}(r:RelO o u):o.isSome=u.isSome:=by
 cases o with
 |none=>cases u with
  |none=>rfl
  |some _=>exact (show False from r).elim
 |some _=>cases u with
  |none=>exact (show False from r).elim
  |some _=>rfl
theorem KV.val {kvs:List (κ×V)}{vs:List (κ×Value)}(r:KV kvs vs)(k:κ):RelO (i6 kvs k) (valueAt vs k):=by
 unfold KV at r
 induction r with
 |nil=>exact True.intro
 |@cons p q ps qs h t ih =>
  obtain ⟨h1,h2⟩:=h;by_cases e:p.1=k
  ·have e':q.1=k:=h1.symm.trans e;have b:valueAt (q::qs) k=some q.2:=by simp [valueAt,uM,e']
   rw [Vr e,b];exact h2
  ·have e':¬ q.1=k:=λz=>e (h1.trans z);have b:valueAt (q::qs) k=valueAt qs k:=by simp [valueAt,uM,e']
   rw [Vq e,b];exact ih
theorem KV.any {kvs:List (κ×V)}{vs:List (κ×Value)}(r:KV kvs vs)(k:κ):(kvs.any λkv=>decide (kv.1=k))=vs.any λkv=>decide (kv.1=k):=by
 unfold KV at r
 induction r with
 |nil=>rfl
 |cons h t ih=>rw [List.any_cons,List.any_cons,ih,h.1]
theorem KV.repl {kvs:List (κ×V)}{vs:List (κ×Value)}(r:KV kvs vs)(k:κ)(ry:RelV y u):KV (kvs.map λkv=>if kv.1=k then (kv.1,y) else kv) (vs.map λkv=>if kv.1=k then (kv.1,u) else kv):=by
 unfold KV at r ⊢
 induction r with
 |nil=>exact .nil
 |@cons p q ps qs h t ih =>
  rw [yF,yF];refine .cons ?_ ih;obtain ⟨h1,h2⟩:=h;by_cases e:p.1=k
  ·rw [if_pos e,if_pos (h1.symm.trans e)];exact ⟨h1,ry⟩
  ·rw [if_neg e,if_neg (λz=>e (h1.trans z))];exact ⟨h1,h2⟩
theorem KV.put {kvs:List (κ×V)}{vs:List (κ×Value)}(r:KV kvs vs)(k:κ)(ry:RelV y u):KV (xZ kvs k y) (stored vs k u):=by
 unfold xZ stored;rw [r.any k];by_cases e:(vs.any λkv=>decide (kv.1=k))=true
 ·rw [if_pos e,if_pos e];exact r.repl k ry
 ·rw [if_neg e,if_neg e];exact Paired.snoc r ⟨rfl,ry⟩
theorem KV.length {kvs:List (κ×V)}{vs:List (κ×Value)}(r:KV kvs vs):kvs.length=vs.length:=Paired.length r
end
theorem Xk {k:v7}(r:RelV (kV k) u):(qF P w).is k u=true:=by
 cases k with
 |inl i=>obtain ⟨t,e⟩:=(show ∃ t,u=Value.int i t from r);subst e;exact Po P w i t
 |inr x=>obtain ⟨t,e⟩:=(show ∃ t,u=Value.str x t from r);subst e;exact YH P w x t
theorem Xj {P:Program}{w:World}:∀{ks:List v7}{us:List Value},Vals (ks.map kV) us->ItemsAre (qF P w) ks us
 |[],_,r=>by rw [List.map_nil] at r;cases r;exact .nil
 |k::ks,_,r=>by
  rw [yF] at r;cases r with
  |cons h t=>exact .cons (Xk h) (Xj t)
abbrev KT (fl:Bool)(H:Hp):List (g0×V)->List (g0×Addr×Value)->Prop:=Paired λp q=>p.1=q.1/\KeyH fl H q.2.1 p.1/\RelV p.2 q.2.2
theorem KT.val (r:KT fl H kvs xs)(k:g0):RelO (i6 kvs k) ((atKey xs k).map (·.2)):=by
 induction r with
 |nil=>exact True.intro
 |@cons p q ps qs h t ih =>
  obtain ⟨h1,_,h2⟩:=h;by_cases e:p.1=k
  ·have e':q.1=k:=h1.symm.trans e;have b:atKey (q::qs) k=some q.2:=by simp [atKey,uM,e']
   rw [Vr e,b];exact h2
  ·have e':¬ q.1=k:=λz=>e (h1.trans z);have b:atKey (q::qs) k=atKey qs k:=by simp [atKey,uM,e']
   rw [Vq e,b];exact ih
theorem KT.repl (r:KT fl H kvs xs)(k:g0)(ry:RelV y u):KT fl H (kvs.map λkv=>if kv.1=k then (kv.1,y) else kv) (xs.map (putAt k u)):=by
 induction r with
 |nil=>exact .nil
 |@cons p q ps qs h t ih =>
  rw [yF,yF];refine .cons ?_ ih;obtain ⟨h1,h2,h3⟩:=h;unfold putAt;by_cases e:p.1=k
  ·rw [if_pos e,if_pos (h1.symm.trans e)];exact ⟨h1,h2,ry⟩
  ·rw [if_neg e,if_neg (λz=>e (h1.trans z))];exact ⟨h1,h2,h3⟩
theorem KT.put (r:KT fl H kvs xs)(k:g0){b:Addr}(hb:KeyH fl H b k)(ry:RelV y u):KT fl H (xZ kvs k y) (storedH xs k b u):=by
 have e:(kvs.any λkv=>decide (kv.1=k))=(atKey xs k).isSome:=by rw [XT,(r.val k).isSome_eq,Option.isSome_map]
 unfold xZ storedH;rw [e];by_cases q:(atKey xs k).isSome=true
 ·rw [if_pos q,if_pos q];exact r.repl k ry
 ·rw [if_neg q,if_neg q];exact Paired.snoc r ⟨rfl,hb,ry⟩
theorem KT.keeps (r:KT fl H kvs xs)(ht:∀ b ys,H b=some (.tup ys)->H' b=some (.tup ys)):KT fl H' kvs xs :=
 Paired.mapP r λ_ _ z=>⟨z.1,z.2.1.keeps ht,z.2.2⟩
section
variable {P:Program}{w:World}{H:Hp}{h:Heap}{a:Addr}
theorem Uu {u:HO}(ok:HOk P w H h)(e:Rd H a u):ObjOk P w H h a u:=e.ok ok
theorem QY {kvs:List (v7×V)}(ok:HOk P w H h)(e:Rd H a (.dK kvs)):kvs.length<=sizeLine/\(a==sysModules)=false/\∃ vs,KV kvs vs/\h.DictOf (qF P w) a vs :=
 show ObjOk P w H h a (.dK kvs) from Uu ok e
theorem dk_of {kvs:List (v7×V)}(ok:HOk P w H h)(e:H a=some (.dK kvs)):kvs.length<=sizeLine/\(a==sysModules)=false/\∃ vs,KV kvs vs/\h.DictOf (qF P w) a vs:=QY ok (.inl e)
theorem ZD {ks:g0}(ok:HOk P w H h)(e:KeyH fl H a ks):(Nk.anyKind fl (qF P w)).is h ks a:=by
 rcases e with ⟨rfl,n0,e1⟩|⟨rfl,c,e1,e2⟩
 ·obtain ⟨_,its,r,o,h1,h2,n,h3⟩:=(show ObjOk P w H h a (.tup (ks.2.map kV)) from ok a _ e1);exact ⟨n0,o,its.toArray,n,h1,h2,h3,by simpa using Xj r⟩
 obtain ⟨_,its,r,o,h1,h2,n,h3⟩:=(show ObjOk P w H h a (.tup (.ref c::ks.2.map kV)) from ok a _ e1);obtain ⟨_,its',r',o',g1,g2,n',g3⟩:=(show ObjOk P w H h c (.tup (ks.1.map kV)) from ok c _ e2);cases r with
 |cons q t=>cases (show _=Value.ref c from q);exact ⟨o,c,_,n,h1,h2,h3,⟨o',its'.toArray,n',g1,g2,g3,by simpa using Xj r'⟩,Xj t⟩
theorem WU {as:List Addr}(ok:HOk P w H h)(e:Rd H a (.dT fl as kvs)):kvs.length<=sizeLine/\(a==sysModules)=false /\ ∃ xs,KT fl H kvs xs/\h.DictOfH (Nk.anyKind fl (qF P w)) a xs/\xs.map (·.2.1)=as:=by
 obtain ⟨z,y,xs,r,o,es,ep,h1,h2,h3,h4,h5,h6⟩:=(show ObjOk P w H h a (.dT fl as kvs) from Uu ok e);refine ⟨z,y,xs,r,⟨o,es,ep,h1,h2,h3,h4,λx hx=>?_,h5⟩,h6⟩;have all:∀{l:List (g0×V)}{m:List (g0×Addr×Value)},KT fl H l m->∀ x∈m,(Nk.anyKind fl (qF P w)).is h x.1 x.2.1:=by
  intro l m q
  induction q with
  |nil=>intro x hx;exact nomatch hx
  |@cons p q ps qs hq t ih =>
   intro x hx;rcases yJ.mp hx with e|hx
   ·subst e;exact ZD ok (by rw [<- hq.1];exact hq.2.1)
   ·exact ih x hx
 exact all r x hx
theorem dt_rd (ok:HOk P w H h)(e:∃ as,Rd H a (.dT fl as kvs)):kvs.length<=sizeLine/\(a==sysModules)=false /\ ∃ xs,KT fl H kvs xs/\h.DictOfH (Nk.anyKind fl (qF P w)) a xs:=by obtain ⟨as,e⟩:=e;obtain ⟨z,y,xs,r,q,_⟩:=WU ok e;exact ⟨z,y,xs,r,q⟩
end
def DGet (H:Hp)(a:Addr)(y:V)(r:Option V):Prop :=
 (∃ kvs k,Rd H a (.dK kvs)/\y=kV k/\r=i6 kvs k)∨∃ fl kvs k b,(∃ as,Rd H a (.dT fl as kvs))/\y = .ref b/\KeyH fl H b k/\r=i6 kvs k
def putA (as:List Addr)(kvs:List (g0×V))(k:g0)(b:Addr):List Addr:=if (kvs.any λkv=>decide (kv.1=k))=true then as else as++[b]
theorem KT.putA (r:KT fl H kvs xs)(k:g0)(b:Addr)(u:Value):(storedH xs k b u).map (·.2.1)=L2.putA (xs.map (·.2.1)) kvs k b:=by
 have e:(kvs.any λkv=>decide (kv.1=k))=(atKey xs k).isSome:=by rw [XT,(r.val k).isSome_eq,Option.isSome_map]
 unfold L2.putA storedH;rw [e];by_cases q:(atKey xs k).isSome=true
 ·rw [if_pos q,if_pos q,yq];refine List.map_congr_left λx _=>?_;show (putAt k u x).2.1=x.2.1;unfold putAt;split<;>rfl
 ·rw [if_neg q,if_neg q,yx];rfl
def DPut (H:Hp)(a:Addr)(y v:V)(H':Hp):Prop :=
 (∃ kvs k,H a=some (.dK kvs)/\y=kV k/\kvs.length<sizeLine/\H'=z6 H a (.dK (xZ kvs k v))) ∨
 ∃ fl as kvs k b,H a=some (.dT fl as kvs)/\y = .ref b/\KeyH fl H b k/\kvs.length<sizeLine/\H'=z6 H a (.dT fl (putA as kvs k b) (xZ kvs k v))
theorem DGet.k {kvs:List (v7×V)}{k:v7}(e:H a=some (.dK kvs)):DGet H a (kV k) (i6 kvs k):= .inl ⟨kvs,k,.inl e,rfl,rfl⟩
theorem DPut.k {kvs:List (v7×V)}{k:v7}{v:V}(e:H a=some (.dK kvs))(hl:kvs.length<sizeLine):DPut H a (kV k) v (z6 H a (.dK (xZ kvs k v))):= .inl ⟨kvs,k,e,rfl,hl,rfl⟩
section
variable {X:Cx}{pins:List (Addr×Obj)}{σ:St}{H:Hp}{s:Shared}{a:Addr}{y v:V}{u r:Value}{o:Option V}{A:Around}{E:Value->Shared->Prop}
theorem Inv.big (I:Inv X pins σ H s):sysModules<s.heap.objs.size:=by have h:mainGlobals<s.heap.objs.size:=(I.mod.glob.keeps I.bk).lt;exact Nat.lt_trans (by decide) h
theorem d_in (hu:A.units+2<cLine)(I:Inv X pins σ H s)(g:DGet H a y o)(ry:RelV y u)(h:∀ s',Inv X pins σ H s'->Q (.bool o.isSome) s'):wpAny (model X.prog X.w) A (compareOp .In u (.ref a)) Q E s:=by
 rcases g with ⟨kvs,k,e,ey,l⟩|⟨fl,kvs,k,b,e,ey,eb,l⟩
 ·subst ey;obtain ⟨z,hd,vs,rel,dd⟩:=QY I.hok e;refine wpAny_in_of (Xk ry) hd dd.mapOf ?_;rw [<- (rel.val k).isSome_eq,<- l];exact h _ (I.tok _)
 ·subst ey;cases (show u=Value.ref b from ry);obtain ⟨z,hd,xs,rel,dd⟩:=dt_rd I.hok e;refine wpAny_in_heap (Nk.any_room hu) (ZD I.hok eb) hd dd ?_;have q:=(rel.val k).isSome_eq;rw [Option.isSome_map] at q;rw [<- q,<- l];exact h _ (I.tok _)
theorem WO {ob:HO}(I:Inv X pins σ H s)(mu:Mut (H a))(hs:Heap.SameBut a s.heap h')(he:∃ q,h'.get? a=some q)(new:ObjOk X.prog X.w (z6 H a ob) h' a ob):Inv X pins σ (z6 H a ob) { s with heap:=h',toks:=t' } :=
 I.write (x:=a) (e:=a) mu (.inl rfl) (λb q hb z=>(hs.2 b hb).trans z) he new
theorem WQ {kvs:List (v7×V)}{vs:List (v7×Value)}(z:kvs.length<=sizeLine)(hd:(a==sysModules)=false)(rel:KV kvs vs)(dd:h'.DictOf (qF P w) a vs):ObjOk P w H' h' a (.dK kvs):=⟨z,hd,vs,rel,dd⟩
theorem Ky {Q:Unit->Shared->Prop}(hu:A.units+2<cLine)(I:Inv X pins σ H s)(g:DPut H a y v H')(ry:RelV y u)(rv:RelV v r)(h:∀ s',Inv X pins σ H' s'->Q () s'):wpAny (model X.prog X.w) A (setItem (.ref a) u r) Q E s:=by
 rcases g with ⟨kvs,k,e,ey,l,eH⟩|⟨fl,as,kvs,k,b,e,ey,eb,l,eH⟩
 ·subst ey eH;obtain ⟨z,hd,vs,rel,dd⟩:=dk_of I.hok e;have hz:vs.length<=sizeLine:=by rw [<- rel.length];exact z
  have hl:(xZ kvs k v).length<=sizeLine:=by have:=Yu kvs k v;omega
  refine wpAny_setItem_pairs (hsz:=hz) (Xk ry) dd λh' dd' hs=>h _ ?_;have he:∃ q,h'.get? a=some q:=let ⟨q,_,_,hq,_⟩:=dd';⟨q,hq⟩
  exact WO I (by rw [e];exact True.intro) hs he (WQ hl hd (rel.put k rv) dd')
 ·subst ey eH;cases (show u=Value.ref b from ry);obtain ⟨z,hd,xs,rel,dd,ha⟩:=WU I.hok (.inl e);have hz:xs.length<=sizeLine:=by rw [<- Paired.length rel];exact z
  have hl:(xZ kvs k v).length<=sizeLine:=by have:=Yu kvs k v;omega
  refine wpAny_setItem_heap (hsz:=hz) (Nk.any_room hu) (ZD I.hok eb) dd λh' dd' hs=>h _ ?_;obtain ⟨q,es,ep,hq,h2,h3,h4,_,h5⟩:=dd';refine WO I (by rw [e];exact True.intro) hs ⟨q,hq⟩ ⟨hl,hd,_,(rel.put k eb rv).keeps λc ys ec=>?_,q,es,ep,hq,h2,h3,h4,h5,by rw [rel.putA k b,ha]⟩;rw [z7 (ne_of ec e (λz=>nomatch z))];exact ec
end
section
variable {X:Cx}{pins:List (Addr×Obj)}{σ:St}{H:Hp}{s:Shared}{a:Addr}{kvs:List (v7×V)}{k:v7}{u:Value}{A:Around}{E:Value->Shared->Prop}
theorem d_len (I:Inv X pins σ H s)(e:Rd H a (.dK kvs))(h:∀ t s',Inv X pins σ H s'->Q (.int kvs.length t) s'):wpAny (model X.prog X.w) A (call (.builtin "len") [.ref a]) Q E s:=by obtain ⟨z,hd,vs,rel,dd⟩:=QY I.hok e;refine call_len_dict hd dd (by rw [<- rel.length];rw [sizeLine_eq] at z;omega) ?_;rw [<- rel.length];exact h _ _ (I.tok _)
end
def tDIn (ty td:TE):TE:=λσ H Q=>ty σ H λy H1=>td σ H1 λx H2=>∃ a o,x = .ref a/\DGet H2 a y o/\Q (.bl o.isSome) H2
def UD (td ty tv:TE):TS:=λD σ H=>tv σ H λv H1=>td σ H1 λx H2=>ty σ H2 λy H3=>∃ a H4,x = .ref a/\DPut H3 a y v H4/\D.nx σ H4
section
variable {X:Cx}{o i e value:Expr}{pos pos' tpos:Pos}{td ty tv:TE}
theorem CW (hu:X.A.units+2<cLine)(hi:PE X i ty)(ho:PE X o td):PC X .In i o (tDIn ty td):=by intro pins s σ H Q I h;refine j5 (hi pins s σ H _ I h) λiv s1 ⟨y,H1,I1,ry,q1⟩=>j5 (ho pins s1 σ H1 _ I1 q1) λu s2 zq=>?_;obtain ⟨x,H2,I2,rx,a,ov,ex,g,q2⟩:=zq;subst ex;obtain rfl:u=Value.ref a:=rx;exact d_in hu I2 g ry λs3 I3=>⟨.bl ov.isSome,H2,I3,rfl,q2⟩
theorem Dv (hu:X.A.units+2<cLine)(ho:PE X o td)(hi:PE X i ty)(hv:PE X value tv)(hs:swapsWith value (some (.Subscript o i pos')) pos.line X.env=pure false):PS X (.Assign [.Subscript o i pos'] value pos) (UD td ty tv):=by intro pins s σ H D I h;refine wpAny_Assign_Subscript (j5 (hv pins s σ H _ I h) λr s1 ⟨v,H1,I1,rv,q1⟩=>j5 (ho pins s1 σ H1 _ I1 q1) λu s2 ⟨x,H2,I2,rx,q2⟩=>j5 (hi pins s2 σ H2 _ I2 q2) λiv s3 zq=>?_) hs;obtain ⟨y,H3,I3,ry,a,H4,ex,g,q3⟩:=zq;subst ex;obtain rfl:u=Value.ref a:=rx;exact Ky hu I3 g ry rv λs4 I4=>⟨σ,H4,I4,q3⟩
end
theorem KB (h:Heap)(hb:sysModules<h.objs.size):ObjOk P w H (h.push { cls:= .type "dict",data:= .dict #[] }) h.objs.size (.dK []) :=
 ⟨uZ _,beq_eq_false_iff_ne.mpr (Ne.symm (yH hb)),[],.nil,Heap.DictOf.new h⟩
def UP:TE:=λ_ H Q=>∀ p,H p=none->Q (.ref p) (z6 H p (.dK []))
section
variable {X:Cx}{pos:Pos}
theorem Db:PE X (.Dict [] [] pos) UP:=λpins s σ H Q I h =>
 wpAny_Dict_empty ⟨.ref s.heap.objs.size,_,I.laid (a:=s.heap.objs.size) (o:= .dK []) (t':=s.toks) (λ_ _ q=>yU _ q) (yS _) (KB s.heap I.big),rfl,h _ (I.hok.fresh (yS _))⟩
end
end L2
namespace Att
open PySem PySem.W PySem.Calls PyProof.Rows
variable{P:Params}{h:Heap}{l:OpenLaw}{n:Nat}
theorem Br :∀(ns:List Int)(vs:List Value),WellAll P h vs (ns.map WData.int)->IntsAre vs ns:=by
 intro ns
 induction ns with
 |nil=>intro vs w;rw [List.map_nil] at w;cases w;exact .nil
 |cons n ns ih =>
  intro vs w;rw [yF] at w;cases w with
  |cons a b=>cases a;exact .cons _ _ (ih _ b)
theorem MK (hn:l.most=some n){args:List WData}{vals:List Value}(hpre:l.row.toRowW.claim.pre args=true)(hwl:WellAll P h vals args):∃ a vs ns,vals=[Value.ref a]/\args=[WData.list (ns.map WData.int)]/\h.get? a=some { cls:= .type "list",data:= .seq vs.toArray }/\IntsAre vs ns/\ns.length<=n:=by
 have hsh:WShape.hasAll [] args [.list .int]=true:=(pre_splitW hpre).1;have hc:l.pre.holds [] { args:=args }=true:=(pre_splitW hpre).2;obtain ⟨d,r,rfl,h1,h2⟩:=hasAllW_cons hsh;obtain rfl:=hasAllW_nil h2;obtain ⟨xs,rfl,h3⟩:=hasW_list h1;obtain ⟨ns,rfl⟩:=items_int h3;have hlen:ns.length<=n:=by
  unfold OpenLaw.pre at hc;have h4:(WTm.not (.lt (.lit (.int (n:Int))) (.len (.arg 0)))).holds [] { args:=[.list (ns.map .int)] }=true:=by have h4:=(holds_andW hc).1;rw [hn] at h4;exact h4
  have h5:=condW_of h4 (w_not (w_lt w_lit (w_len_list (w_arg rfl))));rw [yZ] at h5;refine Nat.le_of_not_lt λq=>?_;have q':(n:Int)<((ns.length:Nat):Int):=by omega
  first
   |(rw [yo q'] at h5;exact absurd h5 (by decide))
   |(simp at h5;omega)
 cases hwl with
 |cons w1 w2 =>
  cases w2;cases w1 with
  |list ho hall=>exact ⟨_,_,ns,rfl,rfl,ho,Br ns _ hall,hlen⟩
theorem Du (l:OpenLaw)(args:List WData):l.row.toRowW.claim.post args (.bool true) args=true :=
 postW_of (r:=l.row.toRowW) (X:=(true==true))
  (show WShape.has [] (.bool true) .bool=true by first|rfl|decide|simp [WShape.has,WShape.arms,WShape.armsAll])
  (show (WTm.eq .res (.lit (.bool true))).value [] { args:=args,res:=some (.bool true),after:=args }=some (.bool (true==true)) from w_eq_bool (w_res rfl) w_lit) rfl
theorem attach_call {q:Program}{loose:List Str}{XP:(Str->Option Value)->Heap->Prop}{YP:World->Heap->Prop}{d:DefRec}(hn:l.most=some n)(hdf:d.params.defaults=[])(call:∀ (w:World) (s₀ s₁:Shared) (mg mb:Str->Option Value) (fa:Addr) (o:Obj) (pm cd doc:Value) (a:Addr) (vs:List Value) (ns:List Int), Ground q loose [] XP w s₀ mg mb s₁.heap->YP w s₁.heap -> s₁.heap.get? fa=some o->o.data = .func (docDef d.name d.params d.body d.scope pm cd doc)->s₁.heap.CodeRec cd d.name->mg d.name=some (.ref fa) -> s₁.heap.get? a=some { cls:= .type "list",data:= .seq vs.toArray }->IntsAre vs ns->ns.length<=n->s₁.gens=#[] -> codeAny (model l.prog w) callerA (.call (.ref fa) ⟨[.ref a],[]⟩) (λr s'=>r = .ok (.ret (.bool true))/\OldK s₁.heap s'.heap/\s'.os=s₁.os/\AllBare s'.gens) s₁):WalkO q loose XP YP l.row.toRowW d [] (λf vs=>PySem.call f vs):=by intro w s₀ s₁ mg mb G Y fa o pm cd doc dV kV ho hd hcd hD hmg hg args vals as hpre hlay hrd hwl hlo;obtain rfl:dV = .none:=Dflts.none hD hdf;obtain rfl:kV = .none:=Dflts.noKw hD;obtain ⟨a,vs,ns,rfl,rfl,hobj,hints,hlen⟩:=MK hn hpre hwl;refine enter_call (codeAny_mono (call w s₀ s₁ mg mb fa o pm cd doc a vs ns G Y ho (fd_plain hd) hcd hmg hobj hints hlen hg) λr s' hq=>?_);obtain ⟨rfl,h2,h3,h4⟩:=hq;exact ⟨.inl ⟨.bool true,.bool true,[],rfl,λ_=>rfl,.bool true,Du l _,λ_=>⟨List.Pairwise.nil,λ_ hm=>(nomatch hm)⟩⟩,h2,h3,h4⟩
end Att
namespace L2
open PySem PySem.Spec PyProof.Rows
variable{K:Fg}{a f:Addr}{fd:FuncData}{qual x:Str}{sp:Sp}{n:Nat}{st:Stmt}{ps:List Str}{A B:Prop}{H H':Hp}
theorem Gi:∀{vs:List Value}{ns:List Int},IntsAre vs ns->Vals (ns.map V.int) vs
 |_,_,.nil=> .nil
 |_,_,.cons n t h=> .cons ⟨t,rfl⟩ (Gi h)
def Only (H:Hp):Prop:=∀ b,H b=none∨(∃ o xs,H b=some (.frz o (.lst xs)))∨∃ p∈TABS,p.1=b/\H b=some (.tbl p.2.1 p.2.2)
structure vT (K:Fg)(h:Heap):Prop where
 at_:∀ p∈TABS,h.get? p.1=some { cls:= .none,data:= .fields p.2.1 }
 tri:∀ p∈TABS,TriplesOk p.2.1.toList
 non:∀ p∈TABS,∀ q∈p.2.2,codeAmong q.1 p.2.1.toList=none
 tab:∀ p∈TABS,isCodeTable h p.1
 one:∀ p∈TABS,∀ q∈TABS,p.1=q.1->p=q
 out:∀ p∈TABS,K.lookup p.1=none
def zb:Hp:=λb=>(TABS.find? λp=>p.1==b).map λp=> .tbl p.2.1 p.2.2
theorem XQ {b:Addr}{u:HO}(h:zb b=some u):∃ p∈TABS,p.1=b/\u = .tbl p.2.1 p.2.2:=by unfold zb at h;obtain ⟨p,e,r⟩:=yI.mp h;exact ⟨p,List.mem_of_find?_eq_some e,by have:=List.find?_some e;simpa using this,r.symm⟩
theorem UU {h:Heap}(T:vT K h){p:Addr×Array Value×List (Pos×Str)}(hp:p∈TABS):zb p.1=some (.tbl p.2.1 p.2.2):=by
 unfold zb;cases e:TABS.find? λq=>q.1==p.1 with
 |none=>exact absurd (List.find?_eq_none.mp e p hp) (by simp)
 |some q =>
  have e1:q.1=p.1:=by have:=List.find?_some e;simpa using this
  rw [T.one q (List.mem_of_find?_eq_some e) p hp e1];rfl
theorem BW {P:Program}{w:World}{mg mb:Str->Option Value}{CX:CXT}{k:Nat}{fa:Addr}{s₁:Shared}{vs:List Value}{ns:List Int}(KX:K.In s₁.heap)(T:vT K s₁.heap)(hns:s₁.heap.Ns mainGlobals mg)(hb:s₁.heap.Ns builtinsNs mb)(hbb:∀ x:Str,x ≠ "__name__"->mb x=bootBuiltins x)(hlim:s₁.heap.NoLimit)(hbm:∃ bm ob,mg "__builtins__"=some (.ref bm)/\bm≠builtinsNs/\s₁.heap.get? bm=some ob/\ob.cls = .type "module"/\ob.dict=some builtinsNs/\ob.data = .plain)(hg:s₁.gens=#[])(ha:s₁.heap.get? a=some { cls:= .type "list",data:= .seq vs.toArray })(hi:IntsAre vs ns)(hl:ns.length<=sizeLine)(hr:Room k callerA)(F:∀ base:Heap,K.In base->base.Ns mainGlobals mg->FnOk P w K mg base CX k fa fd [x] sp)(hbind:∀ (s:Shared) (u:Value),BindsTo s fd ⟨[u],[]⟩ [(x,u)])(hsp:∀ H:Hp,Only H->SqL K H a (ns.map V.int)->sp [.ref a] H (λv _=>v = .bl true) λ_ _ _=>False)(hCX:∀ H e s',CX [] H s₁ (λ_ _ _=>False) e s'->False):codeAny (model P w) callerA (.call (.ref fa) ⟨[.ref a],[]⟩) (λr s'=>r = .ok (.ret (.bool true))/\OldK s₁.heap s'.heap/\s'.os=s₁.os/\AllBare s'.gens) s₁:=by
 have rv:=Gi hi;have lenV:=hi.length;have naT:∀ p∈TABS,p.1≠a:=λp hp z=>by
  have e:=T.at_ p hp;rw [z,ha] at e;cases e
 have core:∀ H:Hp,Only H->SqL K H a (ns.map V.int)->HOk P w H s₁.heap->(∀ b,H b≠none->b=a∨∃ p∈TABS,p.1=b)->(∀ b,H b≠none->K.lookup b=none)->(∀ p∈TABS,H p.1=some (.tbl p.2.1 p.2.2)) ->
   codeAny (model P w) callerA (.call (.ref fa) ⟨[.ref a],[]⟩) (λr s'=>r = .ok (.ret (.bool true))/\OldK s₁.heap s'.heap/\s'.os=s₁.os/\AllBare s'.gens) s₁:=by
  intro H hO hS hok hA hK hT;have base_of:∀{b:Addr}{o:Obj},s₁.heap.get? b=some o->H b=none->(zV s₁.heap H).get? b=some o:=λe n=>Bg e n;have noA:∀{b:Addr}{o:Obj}{es:Array DictEntry}{ep:Nat},s₁.heap.get? b=some o->o.data = .dict es ep->H b=none:=λ{b o es ep} e d=>by
   cases q:H b with
   |none=>rfl
   |some u =>
    rcases hA b (by rw [q];simp) with e'|⟨p,hp,e'⟩
    ·subst e';rw [ha] at e;cases e;have d':Data.seq vs.toArray _=Data.dict es ep:=d;cases d'
    ·subst e';rw [T.at_ p hp] at e;cases e;have d':Data.fields p.2.1=Data.dict es ep:=d;cases d'
  have nsK:∀{b:Addr}{m:Str->Option Value},s₁.heap.Ns b m->(zV s₁.heap H).Ns b m:=λ{b m} ⟨o,es,ep,e,d,r⟩=>⟨o,es,ep,base_of e (noA e d),d,r⟩;have hKb:K.In (zV s₁.heap H):=λb o e=>base_of (KX b o e) (by
   cases q:H b with
   |none=>rfl
   |some u=>rw [hK b (by rw [q];simp)] at e;cases e)
  have noP:∀{b:Addr}{o:Obj},s₁.heap.get? b=some o->o.data = .plain->H b=none:=λ{b o} e d=>by
   cases q:H b with
   |none=>rfl
   |some u =>
    rcases hA b (by rw [q];simp) with e'|⟨p,hp,e'⟩
    ·subst e';rw [ha] at e;cases e;have d':Data.seq vs.toArray _=Data.plain:=d;cases d'
    ·subst e';rw [T.at_ p hp] at e;cases e;have d':Data.fields p.2.1=Data.plain:=d;cases d'
  have hM:Mod K mg (zV s₁.heap H):=⟨hKb,nsK hns,⟨mb,nsK hb,hbb⟩,let ⟨mc,h1,h2⟩:=hlim;⟨mc,nsK h1,h2⟩,let ⟨bm,ob,b1,b2,b3,b4,b5,b6⟩:=hbm;⟨bm,ob,b1,b2,base_of b3 (noP b3 b6),b4,b5,b6⟩⟩;have e0:Env0 P w K mg (zV s₁.heap H) callerA [] s₁ H:=⟨rfl,hM,λb o e=>PB e,Nat.le_of_eq (Bh _ _),trivial,λb hb=>absurd (show b∈([]:List Addr) from hb) (by simp),hok,.of_eq hg,hT⟩;refine codeAny_mono ((F _ hKb (nsK hns)).run callerA [] s₁ H ⟨[.ref a],[]⟩ [.ref a] [.ref a] _ _ hr e0 (hbind s₁ (.ref a)) (.cons rfl .nil) (hsp H hO hS)) λr s' h=>?_;cases r with
  |error e=>exact (hCX H e s' h).elim
  |ok fl =>
   cases fl with
   |next=>exact False.elim h
   |brk=>exact False.elim h
   |cont=>exact False.elim h
   |ret u =>
    obtain ⟨v,H',os,bare,un,hok',r',q⟩:=h;have q':v = .bl true:=q;subst q';obtain rfl:u=Value.bool true:=r';refine ⟨rfl,⟨λb o e=>?_,λb o e=>un.there b o e (by simp)⟩,os,bare⟩;rcases hO b with z|⟨ob,xs,z⟩|⟨p,hp,rfl,z⟩
    ·exact .inl (un.keep b o e z (by intro z;exact absurd (show b∈([]:List Addr) from z) (by simp)) (by simp))
    ·have z2:=un.frzs b ob _ z;obtain ⟨e1,_⟩:=hok b _ z;obtain ⟨e2,_⟩:=hok' b _ z2;rw [e] at e1;cases e1;exact .inl e2
    ·have z2:=un.tbls p.1 _ _ z;obtain ⟨more,e2,_⟩:=hok' p.1 _ z2;rw [T.at_ p hp] at e;cases e;exact .inr (.inl ⟨T.tab p hp,rfl,p.2.1,more,rfl,e2⟩)
 have tok:∀{H:Hp}{p:Addr×Array Value×List (Pos×Str)},p∈TABS->ObjOk P w H s₁.heap p.1 (.tbl p.2.1 p.2.2):=λ{H p} hp =>
  ⟨#[],by rw [Array.append_empty];exact T.at_ p hp,by rw [Array.append_empty];exact T.tri p hp,λq hq=> .inl (by rw [Array.append_empty];exact T.non p hp q hq)⟩
 have only:∀ b,zb b=none∨(∃ o xs,zb b=some (.frz o (.lst xs)))∨∃ p∈TABS,p.1=b/\zb b=some (.tbl p.2.1 p.2.2):=λb=>by
  cases q:zb b with
  |none=>exact .inl rfl
  |some u=>obtain ⟨p,hp,e1,rfl⟩:=XQ q;exact .inr (.inr ⟨p,hp,e1,rfl⟩)
 have mine:∀ b,zb b≠none->∃ p∈TABS,p.1=b:=λb z=>by
  cases q:zb b with
  |none=>exact absurd q z
  |some u=>obtain ⟨p,hp,e1,_⟩:=XQ q;exact ⟨p,hp,e1⟩
 cases hk:K.lookup a with
 |some o =>
  have e:=KX a o hk;rw [ha] at e;cases e;refine core zb only (.inr ⟨_,vs.toArray,_,hk,rfl,rfl,rfl,by rw [yW,lenV];exact hl,by simpa using rv⟩) (λb u z=>?_) (λb z=> .inr (mine b z)) (λb z=>?_) λp hp=>UU T hp
  ·obtain ⟨p,hp,rfl,rfl⟩:=XQ z;exact tok hp
  ·obtain ⟨p,hp,rfl⟩:=mine b z;exact T.out p hp
 |none =>
  refine core (λb=>if b=a then some (.frz { cls:= .type "list",data:= .seq vs.toArray } (.lst (ns.map V.int))) else zb b) (λb=>?_) (.inl (.inr ⟨{ cls:= .type "list",data:= .seq vs.toArray },if_pos rfl⟩)) (λb u z=>?_) (λb z=>?_) (λb z=>?_) λp hp=>?_
  ·by_cases hb:b=a
   ·exact .inr (.inl ⟨_,_,if_pos hb⟩)
   ·rcases only b with z|⟨o,xs,z⟩|⟨p,hp,e1,z⟩
    ·exact .inl ((if_neg hb).trans z)
    ·exact .inr (.inl ⟨o,xs,(if_neg hb).trans z⟩)
    ·exact .inr (.inr ⟨p,hp,e1,(if_neg hb).trans z⟩)
  ·by_cases hb:b=a
   ·have z':=(if_pos hb).symm.trans z;cases z';subst hb;exact ⟨ha,by rw [yZ];exact hl,vs,_,rv,ha⟩
   ·have z':=(if_neg hb).symm.trans z;obtain ⟨p,hp,rfl,rfl⟩:=XQ z';exact tok hp
  ·by_cases hb:b=a
   ·exact .inl hb
   ·exact .inr (mine b λq=>z ((if_neg hb).trans q))
  ·by_cases hb:b=a
   ·rw [hb];exact hk
   ·obtain ⟨p,hp,rfl⟩:=mine b λq=>z ((if_neg hb).trans q);exact T.out p hp
  ·exact (if_neg (naT p hp)).trans (UU T hp)
theorem LM {l:PySem.W.OpenLaw}{k:Nat}{q:Program}{loose:List Str}{XP:(Str->Option Value)->Heap->Prop}{YP:World->Heap->Prop}{d:DefRec}{K:Params->Fg}{CX:World->CXT}{sp:World->Sp}(hn:l.most=some n)(hn2:n<=sizeLine)(hdf:d.params.defaults=[])(hr:Room k callerA)(hY:∀(w:World)(h:Heap),YP w h->(K w.params).In h)(F:∀(w:World)(mg:Str->Option Value)(fa:Addr)(h:Heap),YP w h->(K w.params).In h->h.Ns mainGlobals mg->mg d.name=some (.ref fa) -> ∃ fd:FuncData,(∀(s:Shared)(u:Value),BindsTo s fd ⟨[u],[]⟩ [(x,u)])/\vT (K w.params) h /\ ∀ base:Heap,(K w.params).In base->base.Ns mainGlobals mg->FnOk l.prog w (K w.params) mg base (CX w) k fa fd [x] (sp w))(hsp:∀(w:World)(H:Hp)(a:Addr)(ns:List Int),ns.length<=n->Only H->SqL (K w.params) H a (ns.map V.int)->sp w [.ref a] H (λv _=>v = .bl true) λ_ _ _=>False)(hCX:∀(w:World)(H:Hp)(s:Shared)(e:Value)(s':Shared),CX w [] H s (λ_ _ _=>False) e s'->False):PySem.W.WalkO q loose XP YP l.row.toRowW d [] (λf vs=>PySem.call f vs):=by refine Att.attach_call hn hdf λw s₀ s₁ mg mb fa o pm cd doc a vs ns G Y ho hd hcd hmg hobj hints hlen hg=>?_;have KX:=hY w _ Y;obtain ⟨fd,hb,hT,hF⟩:=F w mg fa _ Y KX G.T.g hmg;exact BW KX hT G.T.g G.T.b G.T.builtins G.T.nolimit G.T.bmain hg hobj hints (yd hlen hn2) hr hF hb (λH hO hS=>hsp w H a ns hlen hO hS) λH e s'=>hCX w H s₁ e s'
def zA (s:Stmt)(j:Nat):Stmt:=match s with
 | .ClassDef _ _ _ body _ _ _ _ _ _ _=>body.getD j (.Pass ⟨0,0,0,0⟩)
 |_=> .Pass ⟨0,0,0,0⟩
def qP (s:Stmt):Arguments:=match s with
 | .FunctionDef _ a _ _ _ _ _ _ _ _=>a
 |_=>{ posonlyargs:=[],args:=[],vararg:=none,kwonlyargs:=[],kw_defaults:=[],kwarg:=none,defaults:=[] }
def c7 (s:Stmt):List Stmt:=match s with
 | .FunctionDef _ _ b _ _ _ _ _ _ _=>b
 |_=>[]
def j6 (s:Stmt):Scope:=match s with
 | .FunctionDef _ _ _ _ _ _ sc _ _ _=>sc
 |_=>{ kind:= .function,names:=[],isGenerator:=false,isCoroutine:=false }
abbrev v8:CXT:=λ_ _ _ _ _ _=>False
abbrev E0:XK:=λ_ _ _=>False
theorem YV {X:Cx}:zg v8 X E0:=λ_ _ _ _ _ _ _ h=>h.elim
structure Fun (K:Fg)(x qual:Str)(st:Stmt)(f:Addr)(fd:FuncData):Prop where
 ex:∃(oc:Value)(od:Option Addr)(kV doc pm:Value)(an:Option Addr)(cdv ct:Value)(osl:Array (Option Value)),
  fd=PySem.W.fnOf x qual (qP st) (c7 st) (j6 st) .none kV doc pm an cdv ct/\K.lookup f=some ⟨oc,od,.func fd,osl⟩/\PySem.W.codeIn K cdv qual=true
 kp:PySem.W.keepIn K (.ref f)=true
section
variable {P:Program}{w:World}{K:Fg}{mg:Str->Option Value}{base:Heap}
theorem Fun.ok {N:List Str}{k:Nat}(F:Fun K x qual st f fd)(S:y6 N ps (j6 st))(len:∀ vs H Q E,sp vs H Q E->vs.length=ps.length)(hbody:∀(cdv:Value)(A:Around)(outer:List Env)(s:Shared)(H:Hp)(vs:List V)(Q:VK)(E:XK),Room k (A.deeper (envOfC qual (j6 st) s.heap.objs.size f cdv))->sp vs H Q E -> ∃ t,PSs (qc v8 P w K mg base N qual (j6 st) f cdv A outer s H E).nox (c7 st) t/\t { nx:=λ_ H'=>Q .non H',rt:=Q } (start N vs) H):FnOk P w K mg base v8 (k+1) f fd ps sp:=by obtain ⟨oc,od,kV,doc,pm,an,cdv,ct,osl,rfl,lk,hcd⟩:=F.ex;refine Xe lk hcd S len λA outer s H vs Q E hr hsp=>?_;obtain ⟨t,h,q⟩:=hbody cdv A outer s H vs Q E hr hsp;exact ⟨t,h.nox,q⟩
theorem Fun.binds (F:Fun K x qual st f fd)(h:∀(kV doc pm:Value)(an:Option Addr)(cdv ct:Value)(us:List Value),us.length=ps.length->bindArgs (PySem.W.fnOf x qual (qP st) (c7 st) (j6 st) .none kV doc pm an cdv ct) ⟨us,[]⟩=pure (ps.zip us)):Binds K fd ps []:=by obtain ⟨oc,od,kV,doc,pm,an,cdv,ct,osl,rfl,lk,hcd⟩:=F.ex;exact .all (h kV doc pm an cdv ct)
theorem zU {oc:Value}{od an:Option Addr}{osl:Array (Option Value)}{kV doc pm cdv ct:Value}(l:K.lookup f=some ⟨oc,od,.func (PySem.W.fnOf x qual (qP st) (c7 st) (j6 st) .none kV doc pm an cdv ct),osl⟩)(c:PySem.W.codeIn K cdv qual=true)(k:PySem.W.keepIn K (.ref f)=true):Fun K x qual st f (PySem.W.fnOf x qual (qP st) (c7 st) (j6 st) .none kV doc pm an cdv ct):=⟨⟨oc,od,kV,doc,pm,an,cdv,ct,osl,rfl,l,c⟩,k⟩
end
theorem Yl {A:Around}{k:Nat}(hr:Room k A)(hn:n<=64:=by decide):A.units+n<cLine:=uC (Nat.add_le_add_left hn _) hr.units
theorem Qv (h:n<=1000):n<sizeLine:=uC h (by decide)
section
variable {X:Cx}
theorem pv (i:Nat){pos:Pos}(hN:X.N[i]?=some x:=by rfl)(hv:Vis X.env.scope x:=by first|exact Or.inl rfl|exact Or.inr (Or.inl rfl)|exact Or.inr (Or.inr rfl))(hd:(x==("__debug__":Str))=false:=by decide)(hcd:(x==("__classdict__":Str))=false:=by decide):PE X (.Name x pos) (qh i):=Dg hN hv hd hcd
theorem Kj:CallR X (.builtin "len") (λxs H Q=>∃ a kvs,xs=[V.ref a]/\H a=some (.dK kvs)/\Q (.int kvs.length) H):=by intro pins s σ H xs us Q I r h;obtain ⟨a,kvs,rfl,ha,q⟩:=h;obtain ⟨u,rfl,ru⟩:=jw r;cases ru;exact d_len I (.inl ha) λt s' I'=>⟨.int kvs.length,H,I',⟨t,rfl⟩,q⟩
end
theorem qI (h:B):if false=true then A else B:=by rw [if_neg yV];exact h
theorem xc (h:A):if true=true then A else B:=by rw [if_pos rfl];exact h
theorem ite2 {c:Prop}[Decidable c](h1:c->A)(h2:¬ c->B):if c then A else B:=by
 by_cases h:c
 ·rw [if_pos h];exact h1 h
 ·rw [if_neg h];exact h2 h
def Same (H H':Hp):Prop:=∀ b o,H b=some o->H' b=some o
theorem Same.refl (H:Hp):Same H H:=λ_ _ h=>h
theorem Same.trans {H1 H2:Hp}(a:Same H H1)(b:Same H1 H2):Same H H2:=λc o h=>b c o (a c o h)
theorem Same.free (e:Same H H'){l:Addr}(h:H' l=Option.none):H l=Option.none:=by
 cases q:H l with
 |none=>rfl
 |some o=>rw [e l o q] at h;cases h
theorem Same.seq {xs:List V}(e:Same H H')(h:SqL K H a xs):SqL K H' a xs:=by
 rcases h with (h|⟨o,h⟩)|h
 ·exact .inl (.inl (e _ _ h))
 ·exact .inl (.inr ⟨o,e _ _ h⟩)
 ·exact .inr h
end L2
set_option maxHeartbeats 4000000
set_option synthInstance.maxHeartbeats 4000000
set_option synthInstance.maxSize 4096
namespace L2
open PySem PySem.Spec PyProof.Rows
variable{elt iter tg:Expr}{ifs:List Expr}{scope:Scope}{pos:Pos}{env:Env}{X:Cx}{o:Option V}{σ:St}{g:TG}{tt:TT}{te:TE}{wi:TI}{K:Fg}
section
variable {prog:Program}{w:World}{A:Around}{R:Result->Shared->Prop}{s:Shared}
theorem Kr {target:Expr}{it acc:Value}(I:Nat->Shared->Prop)
  (turn:∀ n s,I n s->wpAny (model prog w) A (pyNext it) (λr s₁=>match r with
   |none=>R (.ok .next) s₁
   |some v=>wpAny (model prog w) A (letOwnedTupleGo target it v) (λ_ s₀=>wpAny (model prog w) A (assign target env v) (λ_ s₂ =>
     wpAny (model prog w) A (forIn ifs true λc r=>if r=true then do let ok <- isTrue c env (eval c env);pure (ForInStep.yield ok) else pure (ForInStep.yield r)) (λok s₃ =>
      if ok=true then wpAny (model prog w) A (eval elt env) (λx s₄ =>
       wpAny (model prog w) A (call (.builtin "list.append") [acc,x]) (λ_ s₅=>∃ m,m<n/\I m s₅) (λ_ _=>False) s₄) (λ_ _=>False) s₃
      else ∃ m,m<n/\I m s₃) (λ_ _=>False) s₂) (λ_ _=>False) s₀) (λ_ _=>False) s₁) (λ_ _=>False) s)
  (n:Nat) (h:I n s) :
  codeAny (model prog w) A (.compLoop (.ListComp elt [⟨target,iter,ifs,0⟩] scope pos) 0 it acc env) R s:=by
 refine codeAny_loop rfl I (λn s hI=>?_) n h;show wpAny _ A ((compTurn (.ListComp elt [⟨target,iter,ifs,0⟩] scope pos) 0 it acc env).onRaise (λx=>do noteFrame x env;theTreesLotGoes x)) _ _ s;refine wpAny_noted (wpAny_noRaise ?_);rw [compTurn_list];refine yY (wpAny_standAt (yY (j5 (turn n s hI) λr s₁ h₁=>?_)));cases r with
 |none=>exact yP h₁
 |some v =>
  refine yY (j5 h₁ λ_ s₀ h₀=>?_);refine yY (j5 h₀ λ_ s₂ h₂=>yY (j5 h₂ λok s₃ h₃=>?_));cases ok with
  |false=>exact yP ⟨rfl,h₃⟩
  |true=>exact yY (yY (j5 h₃ λx s₄ h₄=>yY (j5 h₄ λ_ s₅ h₅=>yP (yP ⟨rfl,h₅⟩))))
end
theorem Yh {α β:Type}{f:α->β->Sem (ForInStep β)}(g:α->β->β):∀(l:List α)(b:β),(∀ a∈l,∀ b,f a b=pure (.yield (g a b)))->forIn l b f=(pure (l.foldl (λb a=>g a b) b):Sem β)
 |[],_,_=>rfl
 |x::l,b,h=>by
  rw [List.forIn_cons,h x yR,pure_bind];exact Yh g l (g x b) λy hy=>h y (yT _ hy)
def zS (env:Env)(y:Str×NameKind)(cs:List (Str×Addr)):List (Str×Addr):=if y.2 == .free then (y.1,(env.cells.lookup y.1).getD 0)::cs else cs
theorem WG (env:Env):∀(l:List (Str×NameKind))(cs:List (Str×Addr)),(∀ y∈l,y.2 = .free->∃ c,env.cells.lookup y.1=some c)->(∀ x c,cs.lookup x=some c->env.cells.lookup x=some c) -> (∀ x c,(l.foldl (λb a=>zS env a b) cs).lookup x=some c->env.cells.lookup x=some c)
 |[],_,_,h=>h
 |(n,k)::l,cs,hl,h=>by
  refine WG env l _ (λy hy=>hl y (yT _ hy)) λx c e=>?_;unfold zS at e
  dsimp only at e
  cases hk:(k==NameKind.free) with
  |false=>rw [hk,if_neg yV] at e;exact h x c e
  |true =>
   rw [hk,if_pos rfl] at e;obtain ⟨c0,e0⟩:=hl (n,k) yR (by simpa using hk);cases hx:x==n with
   |true =>
    rw [yc,hx] at e;have hx':x=n:=by simpa using hx
    subst hx';have e':(List.lookup x env.cells).getD 0=c:=Option.some.inj e;have e0':List.lookup x env.cells=some c0:=e0;rw [e0'] at e';rw [e0',<- e'];rfl
   |false=>rw [yc,hx] at e;exact h x c e
theorem WH (env:Env)(x:Str):∀(l:List (Str×NameKind))(cs:List (Str×Addr)),(∃ c,cs.lookup x=some c)->∃ c,(l.foldl (λb a=>zS env a b) cs).lookup x=some c
 |[],_,h=>h
 |(n,k)::l,cs,h=>by
  refine WH env x l _ ?_;unfold zS
  dsimp only
  split
  ·rw [yc];cases hx:x==n with
   |true=>exact ⟨_,rfl⟩
   |false=>exact h
  ·exact h
theorem WF (env:Env):∀(l:List (Str×NameKind))(cs:List (Str×Addr)),∀ y∈l,y.2 = .free->∃ c,(l.foldl (λb a=>zS env a b) cs).lookup y.1=some c
 |[],_,_,h,_=>nomatch h
 |z::l,cs,y,h,hf=>by
  rcases yJ.mp h with e|h
  ·subst e;refine WH env y.1 l _ ?_;unfold zS
   dsimp only
   rw [hf,if_pos (by rfl),yc,beq_self_eq_true];exact ⟨_,rfl⟩
  ·exact WF env l _ y h hf
theorem WI (h:∀ y∈scope.names,y.2 = .free->∃ c,env.cells.lookup y.1=some c):∃ cl,closureFor scope env=pure cl/\(∀ x c,cl.lookup x=some c->env.cells.lookup x=some c)/\∀ y∈scope.names,y.2 = .free->∃ c,cl.lookup y.1=some c:=by
 refine ⟨scope.names.foldl (λb a=>zS env a b) [],?_,WG env _ _ h (λx c e=>by cases e),WF env _ _⟩;simp only [closureFor];rw [Yh (zS env) scope.names [] (λy hy b=>?_)]
 ·rfl
 ·obtain ⟨n,k⟩:=y;unfold zS;cases hk:(k==NameKind.free) with
  |false=>simp only [hk,uD,if_false]<;>rfl
  |true=>obtain ⟨c,e⟩:=h (n,k) hy (by simpa using hk);have e':List.lookup n env.cells=some c:=e;simp only [hk,if_true,cellOf,e'];rfl
theorem Uw (env:Env)(n:Str)(k:NameKind)(r:List (Str×NameKind))(x:Str):((List.map (λ(n,k)=>if (k==NameKind.free&&env.scope.kind == .function&&env.kindOf n==some .cell) then (n,NameKind.cell) else (n,k)) ((n,k)::r)).lookup x) = (if x==n then some (if (k==NameKind.free&&env.scope.kind == .function&&env.kindOf n==some .cell) then NameKind.cell else k) else (List.map (λ(n,k)=>if (k==NameKind.free&&env.scope.kind == .function&&env.kindOf n==some .cell) then (n,NameKind.cell) else (n,k)) r).lookup x):=by
 rw [yF];show List.lookup x ((if (k==NameKind.free&&env.scope.kind == .function&&env.kindOf n==some .cell)=true then (n,NameKind.cell) else (n,k))::_)=_;by_cases hc:(k==NameKind.free&&env.scope.kind == .function&&env.kindOf n==some .cell)=true
 ·rw [if_pos hc,if_pos hc,yc];cases x==n<;>rfl
 ·rw [if_neg hc,if_neg hc,yc];cases x==n<;>rfl
theorem Uy {env:Env}{x:Str}{k:NameKind}:∀{names:List (Str×NameKind)}, (names.map λ(n,k)=>if (k==NameKind.free&&env.scope.kind == .function&&env.kindOf n==some .cell) then (n,NameKind.cell) else (n,k)).lookup x=some k -> ∃ k',names.lookup x=some k'/\(k'=k∨(k' = .free/\k = .cell))
 |[],h=>by simp at h
 |(n,q)::r,h=>by
  rw [Uw] at h;rw [yc];cases hx:x==n with
  |true =>
   rw [hx,if_pos rfl] at h;have h':=Option.some.inj h;refine ⟨q,rfl,?_⟩;by_cases hc:(q==NameKind.free&&env.scope.kind == .function&&env.kindOf n==some .cell)=true
   ·rw [if_pos hc] at h';have hq:(q==NameKind.free)=true:=by
     cases z:(q==NameKind.free) with
     |true=>rfl
     |false=>rw [z] at hc;simp at hc
    exact .inr ⟨by simpa using hq,h'.symm⟩
   ·rw [if_neg hc] at h';exact .inl h'
  |false=>rw [hx,if_neg yV] at h;exact Uy h
theorem Ux {env:Env}{x:Str}:∀{names:List (Str×NameKind)},names.lookup x=some .free -> (names.map λ(n,k)=>if (k==NameKind.free&&env.scope.kind == .function&&env.kindOf n==some .cell) then (n,NameKind.cell) else (n,k)).lookup x=some .cell∨(names.map λ(n,k)=>if (k==NameKind.free&&env.scope.kind == .function&&env.kindOf n==some .cell) then (n,NameKind.cell) else (n,k)).lookup x=some .free
 |[],h=>by simp at h
 |(n,q)::r,h=>by
  rw [Uw];rw [yc] at h;cases hx:x==n with
  |true =>
   rw [hx] at h;have h':q = .free:=Option.some.inj h;rw [if_pos rfl];by_cases hc:(q==NameKind.free&&env.scope.kind == .function&&env.kindOf n==some .cell)=true
   ·rw [if_pos hc];exact .inl rfl
   ·rw [if_neg hc,h'];exact .inr rfl
  |false=>rw [hx] at h;rw [if_neg yV];exact Ux h
def u8 (cap:List (Option Nat))(σ:St):St:=cap.map λo=>o.bind λi=>(σ[i]?).join
structure vL (X:Cx)(N':List Str)(cap:List (Option Nat))(sc:Scope):Prop where
 kind:sc.kind = .function
 nocell:∀ y∈sc.names,y.2 ≠ .cell
 names:∀ y∈sc.names,y.2 = .local->sc.names.lookup y.1=some .local
 free:∀ y∈sc.names,y.2 = .free->X.env.kindOf y.1=some .cell∨X.env.kindOf y.1=some .free
 len:cap.length=N'.length
 cap:∀(j i:Nat),cap[j]?=some (some i)->∃ x,N'[j]?=some x/\X.N[i]?=some x/\sc.names.lookup x=some .free
def Yr:Option NameKind->Bool
 |some .cell=>true
 |some .free=>true
 |_=>false
theorem BU {k:Option NameKind}(h:Yr k=true):k=some .cell∨k=some .free:=by
 cases k with
 |none=>cases h
 |some k=>cases k<;>first|exact .inl rfl|exact .inr rfl|cases h
def Xu (names:List (Str×NameKind))(kd:Str->Option NameKind)(y:Str×NameKind):Bool :=
 match y.2 with
 | .cell=>false
 | .local=>names.lookup y.1==some .local
 | .free=>Yr (kd y.1)
 |_=>true
def zy (N:List Str)(sc:Scope):List Str->List (Option Nat)->Bool
 |[],[]=>true
 |_::r,none::c=>zy N sc r c
 |x::r,some i::c=>N[i]?==some x&&(sc.names.lookup x==some .free&&zy N sc r c)
 |_,_=>false
theorem Zi {N:List Str}{sc:Scope}:∀{xs:List Str}{c:List (Option Nat)},zy N sc xs c=true->c.length=xs.length
 |[],[],_=>rfl
 |_::r,none::c,h=>by
  have h':zy N sc r c=true:=h;simp [Zi h']
 |x::r,some i::c,h=>by
  have h':(N[i]?==some x&&(sc.names.lookup x==some .free&&zy N sc r c))=true:=h;simp only [yt] at h';simp [Zi h'.2.2]
 |[],_::_,h=>by cases h
 |_::_,[],h=>by cases h
theorem Zh {N:List Str}{sc:Scope}:∀{xs:List Str}{c:List (Option Nat)},zy N sc xs c=true->∀(j i:Nat),c[j]?=some (some i)->∃ x,xs[j]?=some x/\N[i]?=some x/\sc.names.lookup x=some .free
 |[],[],_,j,i,e=>by simp at e
 |_::r,none::c,h,0,i,e=>by simp at e
 |_::r,none::c,h,j+1,i,e=>by
  have h':zy N sc r c=true:=h;obtain ⟨x,h1,h2⟩:=Zh h' j i (by simpa using e);exact ⟨x,by simpa using h1,h2⟩
 |x::r,some k::c,h,0,i,e=>by
  have h':(N[k]?==some x&&(sc.names.lookup x==some .free&&zy N sc r c))=true:=h;simp only [yt] at h';have e':k=i:=by simpa using e
  subst e';exact ⟨x,rfl,by simpa using h'.1,by simpa using h'.2.1⟩
 |x::r,some k::c,h,j+1,i,e=>by
  have h':(N[k]?==some x&&(sc.names.lookup x==some .free&&zy N sc r c))=true:=h;simp only [yt] at h';obtain ⟨x',h1,h2⟩:=Zh h'.2.2 j i (by simpa using e);exact ⟨x',by simpa using h1,h2⟩
 |[],_::_,h,_,_,_=>by cases h
 |_::_,[],h,_,_,_=>by cases h
theorem qb {N':List Str}{cap:List (Option Nat)}{sc:Scope}(h1:sc.kind = .function)(h2:(sc.names.all λy=>Xu sc.names X.env.kindOf y)=true)(h3:zy X.N sc N' cap=true):vL X N' cap sc:=by
 have h2':=uY.mp h2;refine ⟨h1,λy hy e=>?_,λy hy e=>?_,λy hy e=>?_,Zi h3,Zh h3⟩
 ·have q:=h2' y hy;unfold Xu at q;rw [e] at q;cases q
 ·have q:=h2' y hy;unfold Xu at q;rw [e] at q;simpa using q
 ·have q:=h2' y hy;unfold Xu at q;rw [e] at q;exact BU q
def qv (X:Cx)(N':List Str)(sc:Scope)(cl:List (Str×Addr))(C:Addr)(s:Shared)(H:Hp)(fp:List Addr)(pn:List (Addr×Obj)):Cx where
 prog:=X.prog
 w:=X.w
 K:=X.K
 mg:=X.mg
 base:=X.base
 A:=X.A
 N:=N'
 s₀:=s
 H₀:=H
 env:=compEnvC sc cl C X.env
 outer:=X.stack
 stack:=X.stack
 ex:=fp
 fn:=λ_=>false
 calm:=X.calm
 pn:=pn
 xe:=λ_ _=>False
section
variable {X:Cx}{pins:List (Addr×Obj)}{σ:St}{H:Hp}{s:Shared}{h1:Heap}{N':List Str}{cap:List (Option Nat)}{sc:Scope}{cl:List (Str×Addr)}{fp:List Addr}{C D:Addr}
theorem Kv (I:Inv X pins σ H s)(S:vL X N' cap sc)(hc1:∀ x c,cl.lookup x=some c->X.env.cells.lookup x=some c)(hc2:∀ y∈sc.names,y.2 = .free->∃ c,cl.lookup y.1=some c)(hf:∀ b∈fp,qT X pins H b)(ho:∀ b∈fp,b<s.heap.objs.size)(hC:s.heap.objs.size<=C):(qv X N' sc cl C s H fp (X.pn++pins)).Ok where
 mod:=I.ok.mod
 kind:=S.kind
 glob:=I.ok.glob
 blt:=I.ok.blt
 above:=hC
 inj:=λx y c e1 e2=>I.ok.inj x y c (hc1 x c e1) (hc1 y c e2)
 has:=λx hx=>by
  have key:∀ k,(relabel sc X.env).names.lookup x=some k->(k = .cell∨k = .free)->∃ c,cl.lookup x=some c:=λk e hk=>by
   obtain ⟨k',e',q⟩:=Uy e;have hm:=PySem.mem_of_lookup e';have hfree:k' = .free:=by
    rcases q with q|q
    ·rcases hk with z|z
     ·exact absurd (q.trans z) (S.nocell _ hm)
     ·exact q.trans z
    ·exact q.1
   exact hc2 (x,k') hm hfree
  rcases hx with e|e
  ·exact key _ e (.inl rfl)
  ·exact key _ e (.inr rfl)
 cab:=λx c hx _=>by cases hx
 hd:=I.ok.hd
 frames:=I.ok.frames
 stk:= .inl rfl
 exf:=λb hb=>⟨yH (yE (ho b hb) hC),λx c e=>(hf b hb).2.2.2.2.1 x c (hc1 x c e)⟩
 bs:=I.bs
 bsz:=yd I.ok.bsz I.sz
 noex:=λb o e hb=>by
  rcases (hf b hb).2.2.2.1 with z|z
  ·exact I.ok.noex b o e z
  ·exact absurd (yE (yQ e) (yd I.ok.bsz z)) (uU _)
 exfs:=λb hb hz=>by
  rcases yJ.mp (I.stkSub b hz) with e|e
  ·exact (hf b hb).2.1 e
  ·exact (hf b hb).2.2.1 e
 funs:=I.stack
 frf:=I.stkFree
 tbs:=λp hp=>I.base.tbls _ _ _ (I.ok.tbs p hp)
theorem Bs {m0:Str->Option Value}{o:Obj}(I:Inv X pins σ H s)(S:vL X N' cap sc)(hc1:∀ x c,cl.lookup x=some c->X.env.cells.lookup x=some c)(hc2:∀ y∈sc.names,y.2 = .free->∃ c,cl.lookup y.1=some c)(hf:∀ b∈fp,qT X pins H b)(ho:∀ b∈fp,b<s.heap.objs.size)(hD:s.heap.objs.size<=D)(hC:D<C)(hDo:h1.get? D=some o)(hoc:∀ v,o.data ≠ .cell v)(hns:h1.Ns C m0)(hk:∀ b o,s.heap.get? b=some o->h1.get? b=some o)(t:Nat):Inv (qv X N' sc cl C s H fp (X.pn++pins)) [(D,o)] (u8 cap σ) H { s with heap:=h1,toks:=t }:=by
 have hCs:s.heap.objs.size<=C:=yd hD (uQ hC);have lt_s:∀ b o,s.heap.get? b=some o->b≠C:=λb o e=>yH (yE (yQ e) hCs);refine ⟨Kv I S hc1 hc2 hf ho hCs,rfl,I.bare,Un.kept hk,⟨m0,hns,λj x v e1 e2 e3=>?_⟩,λx c e=>?_,I.hok.fresh hCs,λx c e=>I.freeC x c (hc1 x c e),λp hp=>?_,I.hok.kept hk,?_⟩
 ·obtain ⟨i,hi,hσ⟩:∃ i,cap[j]?=some (some i)/\σ[i]?=some (some v):=by
   unfold u8 at e2;rw [yN] at e2;cases hc:cap[j]? with
   |none=>rw [hc] at e2;cases e2
   |some o' =>
    rw [hc] at e2;have e2':(o'.bind λi=>(σ[i]?).join)=some v:=Option.some.inj e2;cases o' with
    |none=>cases e2'
    |some i =>
     refine ⟨i,rfl,?_⟩;have e3':(σ[i]?).join=some v:=e2';cases hs:σ[i]? with
     |none=>rw [hs] at e3';cases e3'
     |some q=>rw [hs] at e3';exact congrArg some e3'
  obtain ⟨x',n1,n2,n3⟩:=S.cap j i hi;have e1':N'[j]?=some x:=e1;rw [n1] at e1';obtain rfl:x'=x:=Option.some.inj e1';have hkd:=S.free (x',.free) (PySem.mem_of_lookup n3) rfl;obtain ⟨m,_,hl⟩:=I.loc;obtain ⟨u,r,l⟩:=hl i x' v n2 hσ (by
   rcases hkd with z|z
   ·exact .inr (.inl z)
   ·exact .inr (.inr z))
  refine ⟨u,r,?_⟩;rcases l with ⟨l1,_⟩|⟨_,c,ec,hcell⟩
  ·rcases hkd with z|z
   ·exact absurd (l1.symm.trans z) (by simp)
   ·exact absurd (l1.symm.trans z) (by simp)
  ·obtain ⟨c',ec'⟩:=hc2 (x',.free) (PySem.mem_of_lookup n3) rfl;have q:=hc1 x' c' ec';rw [ec] at q;obtain rfl:c=c':=Option.some.inj q;refine .inr ⟨Ux n3,c,ec',?_⟩;obtain ⟨oc,hoc',hd⟩:=hcell;exact ⟨oc,hk _ _ hoc',hd⟩
 ·obtain ⟨v,oc,hoc',hd⟩:=I.cell x c (hc1 x c e);exact ⟨v,oc,hk _ _ hoc',hd⟩
 ·rcases yB.mp hp with hp|hp
  ·obtain ⟨e,n,ne,nf,d⟩:=I.pin p hp;refine ⟨hk _ _ e,n,lt_s _ _ e,λhz=>?_,d⟩;rcases yJ.mp (I.stkSub _ hz) with e'|e'
   ·exact ne e'
   ·exact nf e'
  ·have e:p=(D,o):=by simpa using hp
   subst e;refine ⟨hDo,I.hok.fresh hD,yH hC,λhz=>?_,hoc⟩;rcases yJ.mp (I.stkSub _ hz) with e'|e'
   ·exact absurd (yE I.lt hD) (by rw [show X.env.locals=D from e'.symm];exact uU _)
   ·exact I.nofs hD e'
 ·unfold u8;rw [yZ];exact S.len
end
structure Wk (σ σ':St):Prop where
 len:σ.length=σ'.length
 at':∀(i:Nat) v,σ[i]?=some (some v)->σ'[i]?=some (some v)
theorem Wk.refl (σ:St):Wk σ σ:=⟨rfl,λ_ _ h=>h⟩
theorem Wk.set {σ':St}{i:Nat}(w:Wk σ σ')(h:σ[i]?=some none):Wk σ (σ'.set i o):=by
 refine ⟨by rw [yw];exact w.len,λj v e=>?_⟩;have ne:i≠j:=λz=>by rw [<- z,h] at e;cases e
 rw [yr ne];exact w.at' j v e
theorem Wk.one {i:Nat}(h:σ[i]?=some none):Wk σ (σ.set i o):=(Wk.refl σ).set h
def PTs (X:Cx)(ifs:List Expr)(t:TT):Prop :=
 ∀(pins:List (Addr×Obj))(s:Shared)(σ:St)(H:Hp)(Q:Bool->Hp->Prop),Inv X pins σ H s->t σ H Q ->
  wpAny (model X.prog X.w) X.A (forIn ifs true λc r=>if r=true then do let ok <- isTrue c X.env (eval c X.env);pure (ForInStep.yield ok) else pure (ForInStep.yield r)) (TP X pins σ Q) X.xe s
def tYes:TT:=λ_ H Q=>Q true H
theorem qg :PTs X [] tYes:=λ_ _ _ H _ I h=>wpAny_tests_nil ⟨H,I,h⟩
def VB (J:It)(g:TG)(tt:TT)(te:TE)(Q:VK)(σ0:St)(H1:Hp):Prop:=∃ W:Nat->Nat->List V->Hp->Prop,(∃ m,W 0 m [] H1)/\∀ i m ys H,W i m ys H->ys.length<=sizeLine /\
  ((J.stop i H/\∀ D,H D=none->Q (.ref D) (z6 H D (.lst ys))) ∨
   (J.go i H/\∀ x H',J.yld i H x H'->g x σ0 H' λσ2 H2=>Wk σ0 σ2/\tt σ2 H2 λb H3 =>
      if b=true then te σ2 H3 λv H4=>∃ m',m'<m/\W (i+1) m' (ys++[v]) H4 else ∃ m',m'<m/\W (i+1) m' ys H3))
def vH (wi:TI)(g:TG)(tt:TT)(te:TE)(cap:List (Option Nat)):TE:=λσ H Q=>wi σ H λJ H1=>VB J g tt te Q (u8 cap σ) H1
section
variable {X:Cx}{pins:List (Addr×Obj)}{σ:St}{s₂:Shared}{N':List Str}{cap:List (Option Nat)}{sc:Scope}{cl:List (Str×Addr)}{fp:List Addr}
theorem WJ {Q:VK}{H2:Hp}{it:Addr}{tn:Nat->Heap->Prop}{J:It}{E:Value->Shared->Prop}{RR:Value->Addr->Result->Shared->Prop}(S:vL X N' cap sc)(hc:X.calm=true)(hc1:∀ x c,cl.lookup x=some c->X.env.cells.lookup x=some c)(hc2:∀ y∈sc.names,y.2 = .free->∃ c,cl.lookup y.1=some c)(hg:∀ C pn,PG (qv X N' sc cl C s₂ H2 fp pn) tg g)(ht:∀ C pn,PTs (qv X N' sc cl C s₂ H2 fp pn) ifs tt)(he:∀ C pn,PE (qv X N' sc cl C s₂ H2 fp pn) elt te)(I2:Inv X pins σ H2 s₂)(T:jC X.prog X.w X.K tg J fp it tn)(st2:tn 0 s₂.heap)(f2:∀ b∈fp,qT X pins H2 b)(W:Nat->Nat->List V->Hp->Prop)(w0:∃ m,W 0 m [] H2)(turn:∀ i m ys H,W i m ys H->ys.length<=sizeLine /\ ((J.stop i H/\∀ D,H D=none->Q (.ref D) (z6 H D (.lst ys)))∨(J.go i H/\∀ x H',J.yld i H x H'->g x (u8 cap σ) H' λσ2 H2=>Wk (u8 cap σ) σ2/\tt σ2 H2 λb H3 => if b=true then te σ2 H3 λv H4=>∃ m',m'<m/\W (i+1) m' (ys++[v]) H4 else ∃ m',m'<m/\W (i+1) m' ys H3)))(hRR:∀ D C H' s' m,Inv X pins σ H' s'->s'.heap.Ns C m->qT X pins H' C->Q (.ref D) H'->RR (.ref D) C (.ok .next) s'):wpAny (model X.prog X.w) X.A (newList []) (λacc s₃=>wpAny (model X.prog X.w) X.A (newFunctionEnv sc X.env.globals cl [] X.env.qual none .none (some X.env)) (λcenv s₄ => codeAny (model X.prog X.w) X.A (.compStart (.ListComp elt [⟨tg,iter,ifs,0⟩] sc pos) 0 (.ref it) acc { cenv with scope:=relabel sc X.env }) (RR acc cenv.locals) s₄) E s₃) E s₂:=by
  refine wpAny_newObj_type (wpAny_newFunctionEnv S.nocell (by intro y hy;simp at hy) (λh₁ hns₁ hsb₁=>?_) S.kind)
  dsimp only at hns₁ hsb₁ ⊢
  generalize hG:s₂.heap.push { cls:= .type "list",dict:=none,data:= .seq ([]:List Value).toArray }=G at hns₁ hsb₁ ⊢;have hC:G.objs.size=s₂.heap.objs.size+1:=by rw [<- hG,Heap.size_push]
  have hDC:s₂.heap.objs.size<G.objs.size:=by rw [hC];exact ux _
  have old:∀ b o,s₂.heap.get? b=some o->h₁.get? b=some o:=λb o e =>
    hsb₁.extBut b o (yH (Nat.lt_trans (yQ e) hDC)) (yU _ (hG▸yU _ e))
  have hacc:h₁.get? s₂.heap.objs.size=some (LCg.lst []):=hsb₁.extBut _ _ (yH hDC) (yU _ (hG▸yu _ rfl));have fl:∀ b∈fp,b<s₂.heap.objs.size:=λb hb=>by obtain ⟨o,e,_⟩:=T.obj _ _ st2 b hb;exact yQ e
  have seqd:∀(us:List Value) v,(LCg.lst us).data ≠ .cell v:=λus v z=>by cases z
  have cellt:∀ x c,cl.lookup x=some c->c<s₂.heap.objs.size:=λx c e=>by obtain ⟨v,oc,ho,_⟩:=I2.cell x c (hc1 x c e);exact yQ ho
  have pint:∀ p∈X.pn++pins,p.1<s₂.heap.objs.size:=λp hp=>yQ (I2.pin p hp).1;have I0:Inv (qv X N' sc cl G.objs.size s₂ H2 fp (X.pn++pins)) [(s₂.heap.objs.size,LCg.lst [])] (u8 cap σ) H2 { s₂ with heap:=h₁,toks:=s₂.toks+([]:List (Str×Value)).length } :=
    Bs I2 S hc1 hc2 f2 fl (yS _) hDC hacc (seqd []) hns₁ old _
  have stat:∀{H':Hp}{us:List Value},(∀ b∈fp,H' b=none)->∀ b∈fp,qT (qv X N' sc cl G.objs.size s₂ H2 fp (X.pn++pins)) [(s₂.heap.objs.size,LCg.lst us)] H' b:=λ{H' us} hn b hb=>by
    obtain ⟨f0,f1,f2',f3,f4,f5⟩:=f2 b hb;refine ⟨hn b hb,yH (Nat.lt_trans (fl b hb) hDC),λhz=>?_,.inl hb,λx c e=>f4 x c (hc1 x c e),λp hp=>?_⟩
    · rcases yJ.mp (I2.stkSub b hz) with e|e
      · exact f1 e
      · exact f2' e
    · rcases yB.mp hp with hp|hp
      · exact f5 p hp
      · have e:p=(s₂.heap.objs.size,LCg.lst us):=by simpa using hp
        rw [e];exact Ne.symm (yH (fl b hb))
  have loop:∀ s₃:Shared,s₃={ s₂ with heap:=h₁,toks:=s₂.toks+([]:List (Str×Value)).length } ->
      codeAny (model X.prog X.w) X.A (.compLoop (.ListComp elt [⟨tg,iter,ifs,0⟩] sc pos) 0 (.ref it) (.ref s₂.heap.objs.size) (compEnvC sc cl G.objs.size X.env)) (RR (.ref s₂.heap.objs.size) G.objs.size) s₃:=by
    rintro s₃ rfl;obtain ⟨m0,w0⟩:=w0;refine Kr
      (λn s'=>∃ i ys us H',Inv (qv X N' sc cl G.objs.size s₂ H2 fp (X.pn++pins)) [(s₂.heap.objs.size,LCg.lst us)] (u8 cap σ) H' s'/\Vals ys us/\tn i s'.heap/\(∀ b∈fp,H' b=none)/\W i n ys H') ?_ m0
      ⟨0,[],[],H2,I0,.nil,T.keep _ _ _ st2 λb _ o e=>old b o e,λb hb=>(f2 b hb).1,w0⟩
    rintro n s3 ⟨i,ys,us,H3,I3,rv,st3,fr3,w3⟩;obtain ⟨hz,alt⟩:=turn i n ys H3 w3;rcases alt with ⟨stop,fin⟩|⟨go,step⟩
    · refine j5 (T.done (qv X N' sc cl G.objs.size s₂ H2 fp (X.pn++pins)) rfl rfl rfl hc i _ s3 _ H3 _ I3 (stat fr3) st3 stop) λr s4 zq=>?_
      obtain ⟨hr,I4⟩:=zq;subst hr;obtain ⟨gD,nD,_,_,_⟩:=I4.pin (s₂.heap.objs.size,LCg.lst us) (yy _ (yO.mpr rfl));have nD':H3 s₂.heap.objs.size=none:=nD;have gD':s4.heap.get? s₂.heap.objs.size=some (LCg.lst us):=gD;have b4:Un (b9 X.stack) fp H2 H3 s₂.heap s4.heap:=I4.base;have n2:H2 s₂.heap.objs.size=none:=I2.hok.fresh (yS _);have un:Un (b9 X.stack) fp H2 (z6 H3 s₂.heap.objs.size (.lst ys)) s₂.heap s4.heap :=
        ⟨b4.keep,b4.slot,λb o e n hx=>by rw [z7 (yH (yQ e))];exact b4.free b o e n hx,b4.there,
          λb xs e=>by rw [z7 (w6 e n2)];exact b4.tups b xs e,λb o u e=>by rw [z7 (w6 e n2)];exact b4.frzs b o u e,
          λb ps q e=>by rw [z7 (w6 e n2)];exact b4.tbls b ps q e⟩
      have hok:HOk X.prog X.w (z6 H3 s₂.heap.objs.size (.lst ys)) s4.heap:=λb u e=>by
        by_cases hb:b=s₂.heap.objs.size
        · subst hb
          rw [v3] at e;cases e;exact ⟨hz,us,us.length,rv,gD'⟩
        · rw [z7 hb] at e
          exact (I4.hok b u e).stay (λc v _ q=>q) (λc q=>by rw [z7 (w6 q nD')];exact q) (λc xs q=>by rw [z7 (w6 q nD')];exact q) λc _ _ q=>by rw [z7 (w6 q nD')];exact q
      have IF:Inv X pins σ (z6 H3 s₂.heap.objs.size (.lst ys)) s4:=I2.call' (ch:=fp) I4.os un hok I4.bare λb hb=>by
        obtain ⟨f0,f1,f2',f3,f4,f5⟩:=f2 b hb;exact ⟨f3,f1,f4,f5⟩
      obtain ⟨mF,hnF,_⟩:=I4.loc;refine hRR _ _ _ _ mF IF hnF (I2.fpOk (uQ hDC) ?_) (fin _ nD');rw [z7 (Ne.symm (yH hDC))];exact I4.free
    · refine j5 (T.item (qv X N' sc cl G.objs.size s₂ H2 fp (X.pn++pins)) rfl rfl rfl hc i _ s3 _ H3 _ I3 (stat fr3) st3 go) λr s4 zq=>?_
      obtain ⟨u,hr,h4⟩:=zq;subst hr;refine j5 h4 λ_ s5 zq=>?_;obtain ⟨x,H5,I5,r5,y5,st5,fr5⟩:=zq;have I5':=I5.pinned (stat fr5) (T.obj _ _ st5);refine j5 (hg G.objs.size (X.pn++pins) _ s5 _ H5 x u _ I5' r5 (step x H5 y5)) λ_ s6 zq=>?_;obtain ⟨σ6,H6,I6,wk,q6⟩:=zq;refine j5 (ht G.objs.size (X.pn++pins) _ s6 σ6 H6 _ I6 q6) λok s7 zq=>?_;obtain ⟨H7,I7,q7⟩:=zq;have back:∀{σ8:St}{H8:Hp}{s8:Shared}{us8:List Value},Inv (qv X N' sc cl G.objs.size s₂ H2 fp (X.pn++pins)) ([(s₂.heap.objs.size,LCg.lst us8)]++Qn fp s5.heap) σ8 H8 s8 ->
          tn (i+1) s8.heap/\∀ b∈fp,H8 b=none:=λ{σ8 H8 s8 us8} I8=>by
        refine ⟨T.keep _ _ _ st5 λb hb o e=>(I8.pin (b,o) (yy _ (yy _ (Xt hb e)))).1,λb hb=>?_⟩;obtain ⟨o,e,d⟩:=T.obj _ _ st5 b hb;exact (I8.pin (b,o) (yy _ (yy _ (Xt hb e)))).2.1
      cases ok with
      |false=>obtain ⟨m',hm,w7⟩:=q7;obtain ⟨t7,f7⟩:=back I7;exact ⟨m',hm,i+1,ys,us,H7,I7.unpinned.weak wk.len wk.at',rv,t7,f7,w7⟩
      |true =>
        refine j5 (he G.objs.size (X.pn++pins) _ s7 σ6 H7 _ I7 q7) λuv s8 zq=>?_;obtain ⟨v,H8,I8,r8,m',hm,w8⟩:=zq;obtain ⟨t8,f8⟩:=back I8;obtain ⟨gD,nD,lD,fD,_⟩:=I8.pin (s₂.heap.objs.size,LCg.lst us) (yy _ (yg _ (yO.mpr rfl)));have gD':s8.heap.get? s₂.heap.objs.size=some { cls:= .type "list",data:= .seq us.toArray us.length }:=gD;refine append_at (hsz:=by rw [yW,<- rv.length];exact hz) gD' λh9 hs9 hD9=>?_;have I8a:Inv (qv X N' sc cl G.objs.size s₂ H2 fp (X.pn++pins)) [] σ6 H8 s8:=I8.pins_of λp hp=>nomatch hp;have I9:Inv (qv X N' sc cl G.objs.size s₂ H2 fp (X.pn++pins)) [] σ6 H8 { s8 with heap:=h9,toks:=s8.toks } :=
          I8a.turned (it:=s₂.heap.objs.size) (λb o hb e=>hs9.extBut b o hb e) nD lD (.inr (yS _)) (λx c e=>yH (cellt x c e)) λp hp=>by
            rw [yC] at hp;exact yH (pint p hp)
        have I10:Inv (qv X N' sc cl G.objs.size s₂ H2 fp (X.pn++pins)) [(s₂.heap.objs.size,LCg.lst (us++[uv]))] σ6 H8 { s8 with heap:=h9,toks:=s8.toks }:=I9.pins_of λp hp=>by
          have e:p=(s₂.heap.objs.size,LCg.lst (us++[uv])):=by simpa using hp
          subst e;exact ⟨hD9.trans (congrArg some (LCg.lst_snoc us uv)),nD,lD,fD,seqd _⟩
        refine ⟨m',hm,i+1,ys++[v],us++[uv],H8,I10.weak wk.len wk.at',rv.append (.cons r8 .nil),T.keep _ _ _ t8 λb hb o e=>hs9.extBut b o (yH (fl b hb)) e,f8,w8⟩
  have st1:tn 0 h₁:=T.keep _ _ _ st2 λb _ o e=>old b o e;exact codeAny_compStart_list (loop _ rfl) (T.self _ 0 _ _ _ st1 (loop _ rfl))
theorem qV (S:vL X N' cap sc)(hc:X.calm=true)(hi:PI X tg iter wi)(hg:∀ cl C s H fp pn,PG (qv X N' sc cl C s H fp pn) tg g)(ht:∀ cl C s H fp pn,PTs (qv X N' sc cl C s H fp pn) ifs tt)(he:∀ cl C s H fp pn,PE (qv X N' sc cl C s H fp pn) elt te)(hs:∀ x,foldedSetIterable iter X.env x=pure x:=by intro _;rfl):PE X (.ListComp elt [⟨tg,iter,ifs,0⟩] sc pos) (vH wi g tt te cap):=by intro pins s σ H Q I h;rw [eval_ListComp];obtain ⟨cl,hcl,hc1,hc2⟩:=WI (scope:=sc) (env:=X.env) λy hy e=>I.ok.has y.1 (S.free y hy e);refine wpAny_comprehension_free (use:=none) rfl hs hcl S.kind S.names (j5 (hi pins s σ H _ I h) λv s1 h1=>j5 h1 λitv s2 h2=>?_);obtain ⟨it,fp,tn,J,H2,e,I2,T,st2,f2,W,w0,turn⟩:=h2;subst e;refine WJ (RR:=λacc C=>compPost (model X.prog X.w) X.A X.xe none (EP X pins σ Q) acc C) S hc hc1 hc2 (λC pn=>hg cl C s2 H2 fp pn) (λC pn=>ht cl C s2 H2 fp pn) (λC pn=>he cl C s2 H2 fp pn) I2 T st2 f2 W w0 turn ?_;intro D C H' s' m I' hn F q;obtain ⟨f0,f1,f2',f3,f4,f5⟩:=F;exact ⟨m,hn,λh' hs'=>⟨.ref D,H',I'.turned (t':=s'.toks) (λb o hb e=>hs'.extBut b o hb e) f0 f1 f3 f4 f5,rfl,q⟩⟩
theorem wC {i:Nat}{x:Str}{spos pos':Pos}(S:vL X N' cap sc)(hc:X.calm=true)(hN:X.N.Nodup)(hx:X.N[i]?=some x)(hk:X.env.scope.names.lookup x=some .local)(hi:PI X tg iter wi)
  (hg:∀ cl C s H fp pn,PG (qv X N' sc cl C s H fp pn) tg g) (ht:∀ cl C s H fp pn,PTs (qv X N' sc cl C s H fp pn) ifs tt) (he:∀ cl C s H fp pn,PE (qv X N' sc cl C s H fp pn) elt te)
  (hsw:swapsWith (.ListComp elt [⟨tg,iter,ifs,0⟩] sc pos) (some (.Name x pos')) spos.line X.env=pure true:=by rfl)
  (hs:∀ x,foldedSetIterable iter X.env x=pure x:=by intro _;rfl):PS X (.Assign [.Name x pos'] (.ListComp elt [⟨tg,iter,ifs,0⟩] sc pos) spos) (xl (vH wi g tt te cap) (qC i)):=by
 intro pins s σ H D I h;rw [exec_Assign_Name_used _ _ _ _ hsw];refine yY (wpAny_standAt (yY ?_));show wpAny _ X.A (do let _ <- comprehension (.ListComp elt [⟨tg,iter,ifs,0⟩] sc pos) sc X.env _ (newList []) false (eval iter X.env) (some (assign (.Name x pos') X.env))) _ _ s;obtain ⟨cl,hcl,hc1,hc2⟩:=WI (scope:=sc) (env:=X.env) λy hy e=>I.ok.has y.1 (S.free y hy e);refine yY (j5 (wpAny_comprehension_free (use:=some (assign (.Name x pos') X.env)) (Q:=λ_ s'=>SP X pins D .next s') rfl hs hcl S.kind S.names
  (j5 (hi pins s σ H _ I h) λv s1 h1=>j5 h1 λitv s2 h2=>?_)) λ_ s' hq=>yP (yP hq))
 obtain ⟨it,fp,tn,J,H2,e,I2,T,st2,f2,W,w0,turn⟩:=h2;subst e;refine WJ (Q:=λv H1=>qC i v σ H1 D.nx) (RR:=λacc C=>compPost (model X.prog X.w) X.A X.xe (some (assign (.Name x pos') X.env)) (λ_ s'=>SP X pins D .next s') acc C) S hc hc1 hc2 (λC pn=>hg cl C s2 H2 fp pn) (λC pn=>ht cl C s2 H2 fp pn) (λC pn=>he cl C s2 H2 fp pn) I2 T st2 f2 W w0 turn ?_;intro E C H' s' m I' hn F q;obtain ⟨f0,f1,f2',f3,f4,f5⟩:=F;show wpAny _ X.A (assign (.Name x pos') X.env (.ref E)) _ _ _;refine wpAny_assign_Name (UL I' hN hx (.inl hk) (v:= .ref E) rfl (λs'' I'' ch=>?_) (.inr hk));obtain ⟨a,sb,ha⟩:=ch;have nC:C≠a:=by
  rcases ha with z|z
  ·rw [z];exact f1
  ·exact Ne.symm (f4 x a z)
 exact ⟨m,hn.sameBut sb nC,λh' hs'=>⟨_,H',I''.turned (t':=s''.toks) (λb o hb e=>hs'.extBut b o hb e) f0 f1 f3 f4 f5,q⟩⟩
end
section
variable {g:TG}{tt:TT}{te:TE}{Q:VK}{H:Hp}{σ0:St}
theorem Ks {a:Addr}{xs:List V}(Pv:Nat->List V->Hp->Prop)(h0:Pv 0 [] H)(hz:∀ i ys H,i<=xs.length->Pv i ys H->ys.length<=sizeLine)(hl:∀ i ys H,i<=xs.length->Pv i ys H->SqL K H a xs)(hs:∀ i x ys H (R:List V->Hp->Prop),xs[i]?=some x->Pv i ys H->(∀ ys' H',Pv (i+1) ys' H'->R ys' H')->g x σ0 H λσ2 H2=>Wk σ0 σ2/\tt σ2 H2 λb H3=>if b=true then te σ2 H3 λv H4=>R (ys++[v]) H4 else R ys H3)(hd:∀ ys H,Pv xs.length ys H->∀ D,H D=none->Q (.ref D) (z6 H D (.lst ys))):VB (Itl K a) g tt te Q σ0 H:=by
 refine ⟨λi m ys H=>m=xs.length-i/\i<=xs.length/\Pv i ys H,⟨xs.length,by simp,uZ _,h0⟩,?_⟩;rintro i m ys H ⟨rfl,hi,p⟩;have q:=hl i ys H hi p;refine ⟨hz i ys H hi p,?_⟩;by_cases hlt:i<xs.length
 ·refine .inr ⟨⟨xs,xs[i],q,by simp [hlt]⟩,λx H' y=>?_⟩;obtain ⟨e,y⟩:=y;subst e;exact hs i x ys _ (λys' H'=>∃ m',m'<xs.length-i/\m'=xs.length-(i+1)/\i+1<=xs.length/\Pv (i+1) ys' H') (y xs q) p λys' H' p'=>⟨xs.length-(i+1),by omega,rfl,hlt,p'⟩
 ·have e:i=xs.length:=by omega
  subst e;exact .inl ⟨⟨xs,q,yS _⟩,hd ys H p⟩
end
def tyB (T c:String):Option Bool:=if (Value.type T==Value.type c)=true then some true else if PySem.W.kitMeta c=true then (fastBuiltinMro T).map (·.contains (Value.type c)) else none
theorem BV {T c:String}{b:Bool}(h:tyB T c=some b):PySem.W.kitOne K (.type T) (.type c)=some b:=h
theorem Ll:tyB "int" "int"=some true:=by decide +kernel
theorem Lk:tyB "int" "bool"=some false:=by decide +kernel
theorem Lm:tyB "list" "list"=some true:=by decide +kernel
theorem Ln:tyB "str" "str"=some true:=by decide +kernel
theorem zx:bootBuiltins "isinstance"=some (.builtin "isinstance"):=by decide +kernel
theorem zQ:bootBuiltins "list"=some (.type "list"):=by decide +kernel
theorem GV:bootBuiltins "int"=some (.type "int"):=by decide +kernel
theorem GT:bootBuiltins "bool"=some (.type "bool"):=by decide +kernel
theorem GX:bootBuiltins "str"=some (.type "str"):=by decide +kernel
theorem Ze:bootBuiltins "all"=some (.builtin "all"):=by decide +kernel
theorem GY:bootBuiltins "sum"=some (.builtin "sum"):=by decide +kernel
theorem GU:bootBuiltins "enumerate"=some (.type "enumerate"):=by decide +kernel
theorem Ka:bootBuiltins "zip"=some (.type "zip"):=by decide +kernel
section
variable {X:Cx}
theorem Ke:CallR X (.builtin "isinstance") (λxs H Q=>∃ x n T b,xs=[x,.ty n]/\qZ X.K H x (.type T)/\tyB T n=some b/\Q (.bl b) H):=by intro pins s σ H xs us Q I r h;obtain ⟨x,n,T,b,rfl,ty,e,q⟩:=h;obtain ⟨u,w',rfl,rx,rw'⟩:=Vs r;obtain rfl:w'=Value.type n:=rw';exact BA I rx ty (BV e) λtk=>⟨.bl b,H,I.tok _,rfl,q⟩
theorem Gh:∀{bs:List Bool}{us:List Value}{i:Nat}{u:Value},Vals (bs.map V.bl) us->us[i]?=some u->u = .bool (bs.getD i false)
 |[],_,_,_,.nil,e=>by simp at e
 |b::_,_,0,_,.cons r _,e=>by
  have e':=Option.some.inj e;subst e';exact r
 |_::bs,_,i+1,u,.cons _ t,e=>by
  have q:=Gh (i:=i) (u:=u) t (by simpa using e);simpa using q
theorem GI:∀(bs:List Bool),(List.range bs.length).all (λi=>bs.getD i false)=bs.all id:=by
 intro bs;rw [Bool.eq_iff_iff,uY,uY];constructor
 ·intro h b hb;obtain ⟨i,hi,e⟩:=uK hb;have q:=h i (uH.mpr hi);rw [yb,yA hi] at q;rw [<- e];exact q
 ·intro h i hi;have hi':=uH.mp hi;rw [yb,yA hi'];exact h _ (yn hi')
theorem Kb (hc:X.calm=true):CallR X (.builtin "all") (λxs H Q=>∃ (a:Addr) (bs:List Bool),xs=[.ref a]/\SqL X.K H a (bs.map V.bl)/\Q (.bl (bs.all id)) H):=by
 intro pins s σ H xs us Q I r h;obtain ⟨a,bs,rfl,hq,q⟩:=h;obtain ⟨u,rfl,ru⟩:=jw r;obtain rfl:u=Value.ref a:=ru;obtain ⟨its,rv,p,hz⟩:=I.list hq;have hlt:a<s.heap.objs.size:=by obtain ⟨_,_,e,_⟩:=p;exact yQ e
 have hl:s.heap.IsList a its.toArray:=p.isList;refine call_all_walk (wpAny_pyIter_list hl ?_);refine ⟨s.heap.objs.size,_,_,_,_,_,λi=>bs.getD i false,rfl,Walks.list (A:=X.A.in1) (I.ok.hd hc) s.heap.objs.size a (yH hlt) its.toArray,⟨⟨_,yu _ rfl,rfl,rfl⟩,hl.push _⟩,?_,λh' tk k=>?_⟩
 ·intro i v s' Q' E' hP hQ;have e:=Gh rv (by simpa using hP);subst e;exact wpAny_truthy_bool hQ
 ·have hn:its.toArray.size=bs.length:=by have e:=rv.length;rw [yZ] at e;rw [yW];exact e.symm
  rw [hn,GI];refine ⟨.bl (bs.all id),H,I.kept (t':=tk) (λb o e=>k b o (λhm=>?_) (yU _ e)),rfl,q⟩;have e':b=s.heap.objs.size:=by simpa using hm
  exact absurd (yQ e) (by rw [e'];exact uU _)
theorem Gj:∀{ns:List Int}{us:List Value},Vals (ns.map V.int) us->IntsAre us ns
 |[],_,.nil=> .nil
 |n::_,_,.cons ⟨t,e⟩ r=>by
  subst e;exact .cons n t (Gj r)
theorem Kn (hc:X.calm=true):CallR X (.builtin "sum") (λxs H Q=>∃ (a:Addr) (ns:List Int),xs=[.ref a]/\SqL X.K H a (ns.map V.int)/\Q (.int ns.sum) H):=by
 intro pins s σ H xs us Q I r h;obtain ⟨a,ns,rfl,hq,q⟩:=h;obtain ⟨u,rfl,ru⟩:=jw r;obtain rfl:u=Value.ref a:=ru;obtain ⟨its,rv,p,hz⟩:=I.list hq;have hi:=Gj rv;have hl:s.heap.IsList a its.toArray:=p.isList;obtain ⟨xs,ex⟩:=hi.allInts.items;have e2:(numsOf its.toArray.toList).sum=ns.sum:=by rw [show its.toArray.toList=its from rfl,hi.numsOf]
 rw [ex] at hl e2;rw [nums_intItems] at e2;refine sum_intListG (I.ok.hd hc) hl λh' tk t' k=>⟨.int ns.sum,H,I.kept (t':=tk) k,?_,q⟩;rw [preSum_eq,List.take_of_length_le (by simp),e2];exact ⟨_,rfl⟩
def zI (_i j:Int):Prop:=0<j/\j.natAbs.log2<9000
theorem ZU:OpR X (binaryOp .FloorDiv) (rI zI λi j=> .int (i / j)):=opI λi j _ _ _ _ _ hc q=>by
 have e:i.fdiv j=i / j:=Int.fdiv_eq_ediv_of_nonneg i (Int.le_of_lt hc.1);exact floordiv_int (Ne.symm (Int.ne_of_lt hc.1)) (by rw [e];exact q) (.inl (PyProof.noPylong_of_log2 hc.2))
def CMulB (i j:Int):Prop:=Builtin.Int.intBits i<=2 ^ 20/\Builtin.Int.intBits j<=2 ^ 20
theorem ZW:OpR X (binaryOp .Mult) (rI CMulB λi j=> .int (i*j)):=opI λ_ _ _ _ _ _ _ hc q=>mul_int q (IntMulOk.of_bits hc.1 hc.2)
def Its (lo c:Int)(n:Nat):It:=⟨λi _=>i<n,λi H x H'=>H'=H/\x = .int (lo+i*c),λi _=>n<=i⟩
theorem Lh {P:Program}{w:World}(it:Addr)(lo c:Int)(n:Nat):jC P w K tg (Its lo c n) [it] it (λi h=>IsRangeIter h it (lo+(i:Nat)*c) ((n:Int)-(i:Nat)) c) where
 mem:=by simp
 obj:=λi h st b hb=>by
  have e:b=it:=by simpa using hb
  subst e;exact ⟨_,st,λv z=>by
   have z':Data.fields _=Data.cell v:=z;cases z'⟩
 keep:=λi h h' st k=>k it (by simp) _ st
 item:=by intro X hP hw hK hc i pins s σ H E I hf st hg;subst hP hw hK;obtain ⟨f0,f1,f2,f3,f4,f5⟩:=hf it (by simp);have W:=Walks.range (prog:=X.prog) (w:=X.w) (I.ok.hd hc) it lo c n;refine W.item i s _ _ hg st λv h' tk hv st' kk=>?_;obtain ⟨t,rfl⟩:=hv;have I1:Inv X pins σ H { s with heap:=h',toks:=tk }:=I.turned (λb o hb e=>kk b o (by simpa using hb) e) f0 f1 f3 f4 f5;exact ⟨_,rfl,Zy (s:={ s with heap:=h',toks:=tk }) (n:="range_iterator") st' rfl rfl (by decide) ⟨.int (lo+i*c),H,I1,⟨t,rfl⟩,⟨rfl,rfl⟩,st',λb hb=>(hf b hb).1⟩⟩
 done:=by intro X hP hw hK hc i pins s σ H E I hf st hg;subst hP hw hK;obtain ⟨f0,f1,f2,f3,f4,f5⟩:=hf it (by simp);exact wpAny_pyNext_range_end (I.ok.hd hc) st (by have:n<=i:=hg;omega) λh' eb=>⟨rfl,I.turned (t':=s.toks) (λb o hb e=>eb b o hb e) f0 f1 f3 f4 f5⟩
 self:=λ_ _ _ _ _ st h=>wpAny_pyIter_rangeiter st h
def jp (i j c:Int):Nat:=(Builtin.Range.rangeSize i j c).toNat
def iRng3 (ta:TA):TI:=λσ H R=>ta σ H λvs H1=>∃ i j c:Int,vs=[.int i,.int j,.int c]/\(0<c/\c<1073741824)/\0<=Builtin.Range.rangeSize i j c/\Builtin.Range.small i j c=true/\R (Its i c (jp i j c)) H1
variable {tg:Expr}
theorem Dm {a b c:Expr}{ta:TA}{p:Pos}(hg:Gl X "range")(hm:X.mg "range"=none)(ha:PA X [a,b,c] ta)(hs:starEach [a,b,c] X.env=[(false,eval a X.env),(false,eval b X.env),(false,eval c X.env)]:=by rfl)(hs2:starEach [b,c] X.env=[(false,eval b X.env),(false,eval c X.env)]:=by rfl):PI X tg (.Call (.Name "range" p) [a,b,c] [] pos) (iRng3 ta):=by
 intro pins s σ H R I h;refine Call_ (vi I hg hm boot_range (PyProof.Rows.callWith_type1 (j5 (ha pos pins s σ H _ I h) λus s1 ⟨vs,H1,I1,r1,q1⟩=>?_) (by rw [hs,hs2]) (by rw [hs2];rfl)));obtain ⟨i,j,c,e,⟨q1,q2⟩,q3,q4,q⟩:=q1;subst e;cases r1 with
 |cons r rr =>
  cases rr with
  |cons r' rr =>
   cases rr with
   |cons r'' rr =>
    cases rr;obtain ⟨t,rfl⟩:=r;obtain ⟨t',rfl⟩:=r';obtain ⟨t'',rfl⟩:=r'';refine call_range_3 (Ne.symm (Int.ne_of_lt q1)) ?_ (.inl (PyProof.noPylong_small (by omega)));refine wpAny_pyIter_range (IsRange.new ..) q4 ?_;have I2:Inv X pins σ H1 { s1 with heap:=s1.heap.push { cls:= .type "range",data:= .fields #[.int i t,.int j t',.int c t''] },toks:=s1.toks }:=I1.kept λb o e=>yU _ e;refine ⟨(s1.heap.push { cls:= .type "range",data:= .fields #[.int i t,.int j t',.int c t''] }).objs.size,[(s1.heap.push { cls:= .type "range",data:= .fields #[.int i t,.int j t',.int c t''] }).objs.size],_,_,H1,rfl,
     I2.kept (t':=s1.toks) λb o e=>yU _ e,Lh _ i c (jp i j c),?_,λb hb=>?_,q⟩
    ·have e1:i+((0:Nat):Int)*c=i:=by simp
     have e2:((jp i j c:Nat):Int)-((0:Nat):Int)=Builtin.Range.rangeSize i j c:=by unfold jp;omega
     show IsRangeIter _ _ (i+((0:Nat):Int)*c) (((jp i j c:Nat):Int)-((0:Nat):Int)) c;rw [e1,e2];exact yu _ rfl
    ·have e:b=(s1.heap.push { cls:= .type "range",data:= .fields #[.int i t,.int j t',.int c t''] }).objs.size:=by simpa using hb
     subst e;exact I2.fpOk (yS _) (I2.hok.fresh (yS _))
end
theorem KY {lo c:Int}{n:Nat}{tb:TS}{D:qu}{H:Hp}(Pv:Nat->St->Hp->Prop)(h0:Pv 0 σ H)(hs:∀ i σ H,i<n->Pv i σ H->g (.int (lo+i*c)) σ H λσ2 H2=>tb { D with nx:=Pv (i+1),ct:=Pv (i+1),bk:=D.nx } σ2 H2)(hd:∀ σ H,Pv n σ H->D.nx σ H):∃ W:Nat->Nat->St->Hp->Prop,(∃ m,W 0 m σ H)/\∀ i m σ H,W i m σ H -> ((Its lo c n).stop i H/\D.nx σ H)∨((Its lo c n).go i H/\∃ N:St->Hp->Prop,(∀ σ' H',N σ' H'->∃ m',m'<m/\W (i+1) m' σ' H')/\∀ x H',(Its lo c n).yld i H x H'->g x σ H' λσ2 H2=>tb { D with nx:=N,ct:=N,bk:=D.nx } σ2 H2):=by
 refine ⟨λi m σ H=>m=n-i/\i<=n/\Pv i σ H,⟨n,by simp,uZ _,h0⟩,?_⟩;rintro i m σ H ⟨rfl,hi,p⟩;by_cases hlt:i<n
 ·refine .inr ⟨hlt,Pv (i+1),λσ' H' p'=>⟨n-(i+1),by omega,rfl,hlt,p'⟩,λx H' y=>?_⟩;obtain ⟨e,y⟩:=y;subst e y;exact hs i σ _ hlt p
 ·have e:i=n:=by omega
  subst e;exact .inl ⟨yS _,hd σ H p⟩
section
open PySem.SeqAt
theorem xO {α β:Type}{F:α->β->Prop}:∀{l₁:List α}{l₂:List β},Paired F l₁ l₂->∀(j:Nat)(h1:j<l₁.length)(h2:j<l₂.length),F l₁[j] l₂[j]
 |_,_,.cons r _,0,_,_=>r
 |_,_,.cons _ t,j+1,h1,h2=>xO t j (by simpa using h1) (by simpa using h2)
variable {X:Cx}
end
structure Fn (P:Program)(w:World)(K:Fg)(mg:Str->Option Value)(base:Heap)(k:Nat)(x:Str)(ps:List Str)(sp:Sp):Prop where
 ex:∃ f fd,FnOk P w K mg base v8 k f fd ps sp/\mg x=some (.ref f)/\PySem.W.keepIn K (.ref f)=true/\Binds K fd ps []
section
variable {X:Cx}{k j:Nat}{x:Str}{ps:List Str}{sp:Sp}{e:Expr}{es:List Expr}{t:TA}{p pos:Pos}
theorem qy (c:Fn X.prog X.w X.K X.mg X.base k x ps sp)(hr:Room j X.A)(hj:k<=j)(hg:Gl X x)(ha:PA X (e::es) t)(hdb:(x==("__debug__":Str))=false:=by decide)(he:starEach (e::es) X.env=(false,eval e X.env)::starEach es X.env:=by rfl)(hpl:(backTo pos (starEach es X.env)).any (·.1)=false:=by rfl):PE X (.Call (.Name x p) (e::es) [] pos) (qO sp [] E0 t):=by obtain ⟨f,fd,F,hm,hk,hb⟩:=c.ex;exact YW F (hr.mono hj) hg hm hk hb .nil YV ha hdb he hpl
end
end L2
namespace L2
open PySem PySem.Spec PyProof.Rows
variable{p pos px tp:Pos}{a:Expr}{b:Addr}{P:Program}{w:World}{K:Fg}{elts:List Expr}{x1:Nat}{ta:TA}{x:Str}{l:List Env}{S:List Addr}{h h':Heap}{p2:List (Addr×Obj)}{oe:Obj}
section
variable {X:Cx}{pins:List (Addr×Obj)}{σ:St}{H:Hp}{s:Shared}{h':Heap}
theorem Inv.turnedL {t':Nat}{ch:List Addr}(I:Inv X pins σ H s)(k:∀ b o,b∉ch->s.heap.get? b=some o->h'.get? b=some o)(hf:∀ b∈ch,qT X pins H b):Inv X pins σ H { s with heap:=h',toks:=t' }:=by
 have nit:∀ b u,H b=some u->b∉ch:=λb u e z=>by rw [(hf b z).1] at e;cases e
 have nL:X.env.locals∉ch:=λz=>(hf _ z).2.1 rfl;refine I.step (g':=s.gens) (d':=s.drawn) (ch:=ch) (λb hb=>?_) (λb o _ _ hc e _=>k b o hc e) (λb o _ _ hc e _=>⟨o.slots,k b o hc e⟩) (λ_ _ _ _ n=>n)
  (λb o hc e=>⟨o,k b o hc e⟩) (λ_ _ e=>e) (λ_ _ _ e=>e) (λ_ _ _ e=>e) (λm hm=>?_) (λb u e=>?_) I.bare
 ·obtain ⟨f0,f1,f2,f3,f4,f5⟩:=hf b hb;exact ⟨f3,f1,f4,f5⟩
 ·obtain ⟨o,es,ep,ho,r⟩:=hm;exact ⟨o,es,ep,k _ o nL ho,r⟩
 ·refine (I.hok b u e).stay (λc v hc q=>k c v ?_ q) (λ_ q=>q) (λ_ _ q=>q) λ_ _ _ q=>q;rcases hc with z|z
  ·rw [z];exact nit b u e
  ·exact nit c _ z
theorem Inv.track {p:Addr}{o:HO}(I:Inv X pins σ H s)(hp:X.s₀.heap.objs.size<=p)(hn:H p=none)(nL:p≠X.env.locals)(nC:∀ x c,X.env.cells.lookup x=some c->c≠p)(nP:∀ q∈X.pn++pins,q.1≠p)(new:ObjOk X.prog X.w (z6 H p o) s.heap p o):Inv X pins σ (z6 H p o) s:=by
 refine ⟨I.ok,I.os,I.bare,⟨I.base.keep,I.base.slot,λb ob e n hx=>?_,I.base.there,λb xs e=>?_,λb ob u e=>?_,λb ps q e=>?_⟩,I.loc,I.cell,?_,λx c e=>?_,λq hq=>?_,λb u e=>?_,I.len⟩
 ·rw [z7 (yH (yE (yQ e) hp))];exact I.base.free b ob e n hx
 ·have z:=I.base.tups b xs e;rw [z7 (w6 z hn)];exact z
 ·have z:=I.base.frzs b ob u e;rw [z7 (w6 z hn)];exact z
 ·have z:=I.base.tbls b ps q e;rw [z7 (w6 z hn)];exact z
 ·rw [z7 (Ne.symm nL)];exact I.free
 ·rw [z7 (nC x c e)];exact I.freeC x c e
 ·obtain ⟨a1,a2,a3⟩:=I.pin q hq;exact ⟨a1,by rw [z7 (nP q hq)];exact a2,a3⟩
 ·by_cases hb:b=p
  ·subst hb;rw [v3] at e;cases e;exact new
  ·rw [z7 hb] at e;exact (I.hok b u e).stay (λc v _ q=>q) (λc q=>by rw [z7 (w6 q hn)];exact q) (λc xs q=>by rw [z7 (w6 q hn)];exact q) λc _ _ q=>by rw [z7 (w6 q hn)];exact q
theorem Inv.seq_ne {a:Addr}{xs:List V}(I:Inv X pins σ H s)(hq:SqL X.K H a xs)(hf:qT X pins H b):a≠b:=by
 rintro rfl;rcases hq with (h|⟨o,h⟩)|⟨o,its,n,hk,_⟩
 ·rw [hf.1] at h;cases h
 ·rw [hf.1] at h;cases h
 ·have e:=I.ok.mod.kin a o hk;rcases hf.2.2.2.1 with z|z
  ·exact I.ok.noex a o e z
  ·exact absurd (yE (yQ e) (yd I.ok.bsz z)) (uU _)
end
def Ite (K:Fg)(a:Addr):It :=
 ⟨λi H=>∃ xs x,SqL K H a xs/\xs[i]?=some x,λi H x H'=>∃ p y,H p=none/\x = .ref p/\H'=z6 H p (.tup [.int i,y])/\∀ xs,SqL K H a xs->xs[i]?=some y,λi H=>∃ xs,SqL K H a xs/\xs.length<=i⟩
theorem Le (a e it:Addr)(hne:e≠it):jC P w K (.Tuple elts x1 tp) (Ite K a) [e,it] e (λi h=>(∃ old,IsEnum h e it ((i:Nat):Int) old)/\h.IsListIter it a i) where
 mem:=by simp
 obj:=λi h st b hb=>by
  obtain ⟨⟨old,he⟩,hit⟩:=st;rcases yJ.mp hb with rfl|hb
  ·exact ⟨_,he,λv z=>by
    have z':Data.fields _=Data.cell v:=z;cases z'⟩
  ·have eb:b=it:=by simpa using hb
   subst eb;obtain ⟨o,e1,c,d⟩:=hit;exact ⟨o,e1,λv z=>by rw [d] at z;cases z⟩
 keep:=λi h h' st k=>by
  obtain ⟨⟨old,he⟩,hit⟩:=st;exact ⟨⟨old,k e (by simp) _ he⟩,hit.at λo q=>k it (by simp) o q⟩
 item:=by
  intro X hP hw hK hc i pins s σ H E I hf st hg;subst hP hw hK;obtain ⟨⟨old,he⟩,hit⟩:=st;obtain ⟨xs,x,hq,hx⟩:=hg;obtain ⟨its,rv,p,hz⟩:=I.list hq;obtain ⟨u,hu,ru⟩:=rv.get hx;have fz:qT X pins H s.heap.objs.size:=I.fpOk (yS _) (I.hok.fresh (yS _));have lte:e<s.heap.objs.size:=yQ he;have lti:it<s.heap.objs.size:=by obtain ⟨o,q,_⟩:=hit;exact yQ q
  refine wpAny_pyNext_enum_item he hit p.isList (x:=u) (by simpa using hu) hne λh1 heo hit1 ht1 hz1 hk1=>⟨_,rfl,?_⟩;refine wpAny_letOwnedTupleGo_enum heo λh2 he2 hs2=>?_;have hs2':Heap.SameBut e h1 h2:=hs2;have I2:Inv X pins σ H { s with heap:=h2,toks:=s.toks+1 }:=I.turnedL (ch:=[e,it]) (λb o hb q=>by
   have n1:b≠e:=λz=>hb (by rw [z];simp);have n2:b≠it:=λz=>hb (by rw [z];simp);exact hs2'.extBut b o n1 (hk1 b o n1 n2 q)) hf
  obtain ⟨f0,f1,f2,f3,f4,f5⟩:=fz;have tup:h2.get? s.heap.objs.size=some { cls:= .type "tuple",data:= .seq #[.int i s.toks,u] }:=hs2'.extBut _ _ (Ne.symm (yH lte)) ht1;refine ⟨.ref s.heap.objs.size,z6 H s.heap.objs.size (.tup [.int i,x]),I2.track I.sz f0 f1 f4 f5 ?_,rfl,⟨s.heap.objs.size,x,f0,rfl,rfl,λys hy=>by rw [I.list_inj hy hq];exact hx⟩,⟨⟨u,?_⟩,?_⟩,λb hb=>?_⟩
  ·exact ⟨by show 2<=sizeLine;decide,[.int i s.toks,u],.cons ⟨_,rfl⟩ (.cons ru .nil),⟨_,tup,rfl,_,rfl⟩⟩
  ·have ei:(((i+1:Nat):Int))=(i:Int)+1:=by omega
   rw [ei];exact he2
  ·exact hit1.at λo q=>hs2'.extBut it o (Ne.symm hne) q
  ·have nb:b≠s.heap.objs.size:=by
    rcases yJ.mp hb with rfl|hb
    ·exact yH lte
    ·have eb:b=it:=by simpa using hb
     rw [eb];exact yH lti
   rw [z7 nb];exact (hf b hb).1
 done:=by intro X hP hw hK hc i pins s σ H E I hf st hg;subst hP hw hK;obtain ⟨⟨old,he⟩,hit⟩:=st;obtain ⟨xs,hq,hx⟩:=hg;obtain ⟨its,rv,p,hz⟩:=I.list hq;have hl:=rv.length;exact wpAny_pyNext_enum_end (I.ok.hd hc) he hit p.isList (by simp;omega) λh1 eb=>⟨rfl,I.turnedL (t':=s.toks) (ch:=[e,it]) (λb o hb q=>eb b o (λz=>hb (by rw [z];simp)) q) hf⟩
 self:=λ_ _ _ _ _ st h=>by
  obtain ⟨⟨old,he⟩,hit⟩:=st;exact wpAny_pyIter_enum he h
section
variable {X:Cx}{elts:List Expr}{x1:Nat}{tp:Pos}
def Zz (K:Fg)(ta:TA):TI:=λσ H R=>ta σ H λvs H1=>∃ a,vs=[.ref a]/\(∃ xs,SqL K H1 a xs)/\R (Ite K a) H1
theorem Dj (hg:Gl X "enumerate")(hm:X.mg "enumerate"=none)(ha:PA X [a] ta)(hs:starEach [a] X.env=[(false,eval a X.env)]:=by rfl):PI X (.Tuple elts x1 tp) (.Call (.Name "enumerate" p) [a] [] pos) (Zz X.K ta):=by
 intro pins s σ H R I h;refine Call_ (vi I hg hm GU (PyProof.Rows.callWith_type1 (j5 (ha pos pins s σ H _ I h) λus s1 zq=>?_) hs rfl));obtain ⟨vs,H1,I1,r1,q1⟩:=zq;obtain ⟨a,e,⟨xs,hq⟩,q⟩:=q1;subst e;cases r1 with
 |cons r rr =>
  cases rr;cases r;obtain ⟨its,rv,p,hz⟩:=I1.list hq;refine call_enumerate_list p.isList λh' he hit hsz hk=>?_;refine wpAny_pyIter_enum he ?_;refine ⟨s1.heap.objs.size+1,[s1.heap.objs.size+1,s1.heap.objs.size],_,_,H1,rfl,I1.kept (t':=s1.toks) hk,Le a (s1.heap.objs.size+1) s1.heap.objs.size (Nat.ne_of_gt (ux _)),⟨⟨_,he⟩,hit⟩,λb hb=>?_,q⟩;rcases yJ.mp hb with rfl|hb
  ·exact I1.fpOk (uB _) (I1.hok.fresh (uB _))
  ·have eb:b=s1.heap.objs.size:=by simpa using hb
   subst eb;exact I1.fpOk (yS _) (I1.hok.fresh (yS _))
end
def Itz (K:Fg)(a b:Addr):It :=
  ⟨λi H=>∃ xs ys x y,SqL K H a xs/\SqL K H b ys/\xs[i]?=some x/\ys[i]?=some y,
   λi H z H'=>∃ p x y,H p=none/\z = .ref p/\H'=z6 H p (.tup [x,y])/\(∀ xs,SqL K H a xs->xs[i]?=some x)/\∀ ys,SqL K H b ys->ys[i]?=some y,
   λi H=>∃ xs ys,SqL K H a xs/\SqL K H b ys/\(xs.length<=i∨ys.length<=i)⟩
theorem Li (a b z TI TO i1 i2:Addr)(d:[z,TI,TO,i1,i2].Nodup):jC P w K (.Tuple elts x1 tp) (Itz K a b) [z,TI,TO,i1,i2] z (λi h=>IsZip h z TI TO .none/\IsPair h TI (.ref i1) (.ref i2)/\(∃ u v,IsPair h TO u v)/\h.IsListIter i1 a i/\h.IsListIter i2 b i) where
 mem:=by simp
 obj:=λi h st c hc=>by
  obtain ⟨hz,hTI,⟨u,v,hTO⟩,h1,h2⟩:=st;have hc':c=z∨c=TI∨c=TO∨c=i1∨c=i2:=by simpa using hc
  rcases hc' with rfl|rfl|rfl|rfl|rfl
  ·exact ⟨_,hz,λv q=>by
    have q':Data.fields _=Data.cell v:=q;cases q'⟩
  ·exact ⟨_,hTI,λv q=>by
    have q':Data.seq _ _=Data.cell v:=q;cases q'⟩
  ·exact ⟨_,hTO,λv q=>by
    have q':Data.seq _ _=Data.cell v:=q;cases q'⟩
  ·obtain ⟨o,e1,cc,dd⟩:=h1;exact ⟨o,e1,λv q=>by rw [dd] at q;cases q⟩
  ·obtain ⟨o,e1,cc,dd⟩:=h2;exact ⟨o,e1,λv q=>by rw [dd] at q;cases q⟩
 keep:=λi h h' st k=>by
  obtain ⟨hz,hTI,⟨u,v,hTO⟩,h1,h2⟩:=st;exact ⟨k z (by simp) _ hz,k TI (by simp) _ hTI,⟨u,v,k TO (by simp) _ hTO⟩,h1.at λo e=>k i1 (by simp) o e,h2.at λo e=>k i2 (by simp) o e⟩
 item:=by
  intro X hP hw hK hc i pins s σ H E I hf st hg;subst hP hw hK;obtain ⟨hz,hTI,⟨u0,v0,hTO⟩,h1,h2⟩:=st;obtain ⟨xs,ys,x,y,hqa,hqb,hx,hy⟩:=hg;obtain ⟨its,rv,p,_⟩:=I.list hqa;obtain ⟨jts,rw',p',_⟩:=I.list hqb;obtain ⟨u,hu,ru⟩:=rv.get hx;obtain ⟨v,hv,rv'⟩:=rw'.get hy;simp only [yk,yJ,not_or,yG,not_false_eq_true,uy,and_true] at d;obtain ⟨⟨d1,d2,d3,d4⟩,⟨d5,d6,d7⟩,⟨d8,d9⟩,d10⟩:=d;have ap:ZipApart z TI TO i1 i2 a b:=⟨Ne.symm d1,Ne.symm d2,Ne.symm d3,Ne.symm d4,d5,d6,d7,d8,d9,d10,
   I.seq_ne hqa (hf z (by simp)),I.seq_ne hqa (hf TO (by simp)),I.seq_ne hqa (hf i1 (by simp)),I.seq_ne hqa (hf i2 (by simp)),
   I.seq_ne hqb (hf z (by simp)),I.seq_ne hqb (hf TO (by simp)),I.seq_ne hqb (hf i1 (by simp)),I.seq_ne hqb (hf i2 (by simp))⟩
  have fz:qT X pins H s.heap.objs.size:=I.fpOk (yS _) (I.hok.fresh (yS _));have lt:∀ c∈[z,TI,TO,i1,i2],c<s.heap.objs.size:=λc hc=>by
   have hc':c=z∨c=TI∨c=TO∨c=i1∨c=i2:=by simpa using hc
   rcases hc' with rfl|rfl|rfl|rfl|rfl
   ·exact yQ hz
   ·exact yQ hTI
   ·exact yQ hTO
   ·obtain ⟨o,q,_⟩:=h1;exact yQ q
   ·obtain ⟨o,q,_⟩:=h2;exact yQ q
  refine wpAny_pyNext_zip_item ap hz hTI hTO h1 h2 p.isList p'.isList (x:=u) (y:=v) (by simpa using hu) (by simpa using hv) λh3 hz3 hTO3 h13 h23 hp3 hs3 hk3=>⟨_,rfl,?_⟩;refine wpAny_letOwnedTupleGo_zip hz3 λh4 hz4 hs4=>?_;have hs4':Heap.SameBut z h3 h4:=hs4;have I4:Inv X pins σ H { s with heap:=h4,toks:=s.toks }:=I.turnedL (ch:=[z,TI,TO,i1,i2]) (λc o hc q=>by
   have n1:c≠z:=λe=>hc (by rw [e];simp);have n2:c≠TO:=λe=>hc (by rw [e];simp);have n3:c≠i1:=λe=>hc (by rw [e];simp);have n4:c≠i2:=λe=>hc (by rw [e];simp);exact hs4'.extBut c o n1 (hk3 c o n1 n2 n3 n4 q)) hf
  obtain ⟨f0,f1,f2,f3,f4,f5⟩:=fz;have tup:h4.get? s.heap.objs.size=some { cls:= .type "tuple",data:= .seq #[u,v] }:=hs4'.extBut _ _ (Ne.symm (yH (lt z (by simp)))) hp3;refine ⟨.ref s.heap.objs.size,z6 H s.heap.objs.size (.tup [x,y]),I4.track I.sz f0 f1 f4 f5 ?_,rfl,⟨s.heap.objs.size,x,y,f0,rfl,rfl,(λzs hy'=>by rw [I.list_inj hy' hqa];exact hx),λzs hy'=>by rw [I.list_inj hy' hqb];exact hy⟩,⟨hz4,?_,⟨u,v,?_⟩,?_,?_⟩,λc hc=>?_⟩
  ·exact ⟨by show 2<=sizeLine;decide,[u,v],.cons ru (.cons rv' .nil),⟨_,tup,rfl,_,rfl⟩⟩
  ·exact hs4'.extBut _ _ (Ne.symm d1) (hk3 _ _ (Ne.symm d1) d5 d6 d7 hTI)
  ·exact hs4'.extBut _ _ (Ne.symm d2) hTO3
  ·exact h13.at λo q=>hs4'.extBut i1 o (Ne.symm d3) q
  ·exact h23.at λo q=>hs4'.extBut i2 o (Ne.symm d4) q
  ·rw [z7 (yH (lt c hc))];exact (hf c hc).1
 done:=by
  intro X hP hw hK hc i pins s σ H E I hf st hg;subst hP hw hK;obtain ⟨hz,hTI,⟨u0,v0,hTO⟩,h1,h2⟩:=st;obtain ⟨xs,ys,hqa,hqb,hend⟩:=hg;obtain ⟨its,rv,p,_⟩:=I.list hqa;obtain ⟨jts,rw',p',_⟩:=I.list hqb;have l1:=rv.length;have l2:=rw'.length;simp only [yk,yJ,not_or,yG,not_false_eq_true,uy,and_true] at d;obtain ⟨⟨d1,d2,d3,d4⟩,⟨d5,d6,d7⟩,⟨d8,d9⟩,d10⟩:=d;have ap:ZipApart z TI TO i1 i2 a b:=⟨Ne.symm d1,Ne.symm d2,Ne.symm d3,Ne.symm d4,d5,d6,d7,d8,d9,d10,
   I.seq_ne hqa (hf z (by simp)),I.seq_ne hqa (hf TO (by simp)),I.seq_ne hqa (hf i1 (by simp)),I.seq_ne hqa (hf i2 (by simp)),
   I.seq_ne hqb (hf z (by simp)),I.seq_ne hqb (hf TO (by simp)),I.seq_ne hqb (hf i1 (by simp)),I.seq_ne hqb (hf i2 (by simp))⟩
  refine wpAny_pyNext_zip_end (I.ok.hd hc) ap hz hTI hTO h1 h2 p.isList p'.isList (hend.elim (λq=> .inl (by simp;omega)) (λq=> .inr (by simp;omega))) λh3 hk3=>⟨rfl,I.turnedL (t':=s.toks) (ch:=[z,TI,TO,i1,i2]) (λc o hc q=>?_) hf⟩;exact hk3 c o (λe=>hc (by rw [e];simp)) (λe=>hc (by rw [e];simp)) (λe=>hc (by rw [e];simp)) (λe=>hc (by rw [e];simp)) q
 self:=λ_ _ _ _ _ st h=>wpAny_pyIter_zip st.1 h
section
variable {X:Cx}{elts:List Expr}{x1:Nat}{tp:Pos}
def iZip (K:Fg)(ta:TA):TI:=λσ H R=>ta σ H λvs H1=>∃ a b,vs=[.ref a,.ref b]/\(∃ xs,SqL K H1 a xs)/\(∃ ys,SqL K H1 b ys)/\R (Itz K a b) H1
theorem Do {b:Expr}(hg:Gl X "zip")(hm:X.mg "zip"=none)(ha:PA X [a,b] ta)(hs:starEach [a,b] X.env=[(false,eval a X.env),(false,eval b X.env)]:=by rfl)(hs2:starEach [b] X.env=[(false,eval b X.env)]:=by rfl):PI X (.Tuple elts x1 tp) (.Call (.Name "zip" p) [a,b] [] pos) (iZip X.K ta):=by
 intro pins s σ H R I h;refine Call_ (vi I hg hm Ka (PyProof.Rows.callWith_type1 (j5 (ha pos pins s σ H _ I h) λus s1 ⟨vs,H1,I1,r1,q1⟩=>?_) (by rw [hs,hs2]) (by rw [hs2];rfl)));obtain ⟨a,b,e,⟨xs,hq⟩,⟨ys,hq'⟩,q⟩:=q1;subst e;cases r1 with
 |cons r rr =>
  cases rr with
  |cons r' rr =>
   cases rr;cases r;cases r';obtain ⟨its,rv,p,hz⟩:=I1.list hq;obtain ⟨jts,rw',p',_⟩:=I1.list hq';refine call_zip_2 p.isList p'.isList λh' g1 g2 g3 g4 g5 hsz hk=>?_;refine wpAny_pyIter_zip g1 ?_;refine ⟨s1.heap.objs.size+4,[s1.heap.objs.size+4,s1.heap.objs.size+2,s1.heap.objs.size+3,s1.heap.objs.size,s1.heap.objs.size+1],_,_,H1,rfl,I1.kept (t':=s1.toks) hk,Li a b _ _ _ _ _ ?_,⟨g1,g2,⟨_,_,g3⟩,g4,g5⟩,λc hc=>?_,q⟩
   ·simp only [yk,yJ,not_or,yG,not_false_eq_true,uy,and_true];refine ⟨⟨?_,?_,?_,?_⟩,⟨?_,?_,?_⟩,⟨?_,?_⟩,?_⟩<;>(show ¬ (_:Nat)=_;omega)
   ·have hc':s1.heap.objs.size<=c:=by
     have hc2:c=s1.heap.objs.size+4∨c=s1.heap.objs.size+2∨c=s1.heap.objs.size+3∨c=s1.heap.objs.size∨c=s1.heap.objs.size+1:=by simpa using hc
     rcases hc2 with e|e|e|e|e<;>(rw [e];first|exact yS _|exact Nat.le_add_right _ _)
    exact I1.fpOk hc' (I1.hok.fresh hc')
end
section
variable {X:Cx}{K:Fg}
theorem ZC (h:X.K=K):IxR X (rIxL K):=by subst h;exact ix_list
theorem MT (h:X.K=K):SlR X (rSlL K):=by subst h;exact MR
theorem WC (h:X.K=K):CallR X (.builtin "len") (λxs H Q=>∃ p ys,xs=[.ref p]/\(SqL K H p ys∨SqT K H p ys)/\Q (.int ys.length) H):=by subst h;exact Kk
theorem Ko (hc:X.calm=true)(h:X.K=K):CallR X (.builtin "sum") (λxs H Q=>∃ (a:Addr) (ns:List Int),xs=[.ref a]/\SqL K H a (ns.map V.int)/\Q (.int ns.sum) H):=by subst h;exact Kn hc
theorem Jh {es:List Expr}{k:Nat}{t:TGs}{n:Nat}(hc:X.calm=true)(hK:X.K=K)(h:PGs X es t)(hn:(assignEach es X.env).length=n:=by rfl)(hst:(assignEach es X.env).findIdx? (·.1)=none:=by rfl):PG X (.Tuple es k pos) (gTup K n t):=by subst hK;exact Di hc h hn hst
theorem qo {tg l:Expr}{tl:TE}(hK:X.K=K)(hl:PE X l tl):PI X tg l (Xg K tl):=by subst hK;exact Dl hl
theorem Dk (hK:X.K=K)(hg:Gl X "enumerate")(hm:X.mg "enumerate"=none)(ha:PA X [a] ta)(hs:starEach [a] X.env=[(false,eval a X.env)]:=by rfl):PI X (.Tuple elts x1 tp) (.Call (.Name "enumerate" p) [a] [] pos) (Zz K ta):=by subst hK;exact Dj hg hm ha hs
theorem Dp {b:Expr}(hK:X.K=K)(hg:Gl X "zip")(hm:X.mg "zip"=none)(ha:PA X [a,b] ta)(hs:starEach [a,b] X.env=[(false,eval a X.env),(false,eval b X.env)]:=by rfl)(hs2:starEach [b] X.env=[(false,eval b X.env)]:=by rfl):PI X (.Tuple elts x1 tp) (.Call (.Name "zip" p) [a,b] [] pos) (iZip K ta):=by subst hK;exact Do hg hm ha hs hs2
end
section
variable {X:Cx}
theorem CJ:OpR X (compareOp .LtE) (λx y H Q=>∃ i j,x = .str i/\y = .str j/\Q (.bl (!decide (j.cps.toList<i.cps.toList))) H):=by intro pins s σ H x y v u Q I rx ry h;obtain ⟨i,j,rfl,rfl,q⟩:=h;obtain ⟨t,rfl⟩:=rx;obtain ⟨t',rfl⟩:=ry;exact PySem.P.le_str (Zx I q rfl)
def ItS (z:Str):It:=⟨λi _=>i<z.cps.size,λi H x H'=>H'=H/\∃ c,z.cps[i]?=some c/\x = .str ⟨#[c]⟩,λi _=>i=z.cps.size⟩
theorem UW (it:Addr)(ty:String)(z:Str)(t:Tok)(W:∀ A':Around,A'.handled=none->Walks P w A' it [it] [it] z.cps.size (SignAt z) (λi h=>h.IsStrIter it ty z t i))(sf:∀(A:Around)(i:Nat)(s:Shared)(Q:Value->Shared->Prop)(E:Value->Shared->Prop),s.heap.IsStrIter it ty z t i->Q (.ref it) s->wpAny (model P w) A (pyIter (.ref it)) Q E s):jC P w K (.Name x px) (ItS z) [it] it (λi h=>h.IsStrIter it ty z t i) where
 mem:=by simp
 obj:=λi h st b hb=>by
  have e:b=it:=by simpa using hb
  subst e;obtain ⟨o,e,c,d⟩:=st;exact ⟨o,e,λv q=>by rw [d] at q;cases q⟩
 keep:=λi h h' st k=>by
  obtain ⟨o,e,r⟩:=st;exact ⟨o,k it (by simp) o e,r⟩
 item:=by intro X hP hw hK hc i pins s σ H E I hf st hg;subst hP hw hK;obtain ⟨f0,f1,f2,f3,f4,f5⟩:=hf it (by simp);refine (W X.A (I.ok.hd hc)).item i s _ _ hg st λv h' tk hv st' kk=>?_;obtain ⟨c,u,e1,rfl⟩:=hv;have I1:Inv X pins σ H { s with heap:=h',toks:=tk }:=I.turned (λb o hb e=>kk b o (by simpa using hb) e) f0 f1 f3 f4 f5;refine ⟨_,rfl,?_⟩;show wpAny _ _ (pure ()) _ _ _;exact yP ⟨.str ⟨#[c]⟩,H,I1,⟨u,rfl⟩,⟨rfl,c,e1,rfl⟩,st',λb hb=>(hf b hb).1⟩
 done:=by intro X hP hw hK hc i pins s σ H E I hf st hg;subst hP hw hK;obtain ⟨f0,f1,f2,f3,f4,f5⟩:=hf it (by simp);have hg':i=z.cps.size:=hg;subst hg';exact (W X.A (I.ok.hd hc)).done s _ _ st λh' tk kk=>⟨rfl,I.turned (λb o hb e=>kk b o (by simpa using hb) e) f0 f1 f3 f4 f5⟩
 self:=sf
def iStr (tl:TE):TI:=λσ H R=>tl σ H λx H1=>∃ z,x = .str z/\R (ItS z) H1
theorem Dn {l:Expr}{tl:TE}(hl:PE X l tl):PI X (.Name x px) l (iStr tl):=by
 intro pins s σ H R I h;refine j5 (hl pins s σ H _ I h) λv s1 zq=>?_;obtain ⟨x,H1,I1,r1,q1⟩:=zq;obtain ⟨z,e,q⟩:=q1;subst e;obtain ⟨t,rfl⟩:=r1;have fp:∀ b∈[s1.heap.objs.size],qT X pins H1 b:=λb hb=>by
  have e:b=s1.heap.objs.size:=by simpa using hb
  subst e;exact I1.fpOk (yS _) (I1.hok.fresh (yS _))
 cases ha:z.cps.all (·<128)
 ·refine wpAny_pyIter_wide ha ?_;exact ⟨s1.heap.objs.size,[s1.heap.objs.size],_,_,H1,rfl,I1.kept (t':=s1.toks) λb o e=>yU _ e,UW _ "str_iterator" z t (λA' hA=>Walks.strWide hA _ z t) (λ_ _ _ _ _ st h=>wpAny_pyIter_striter_wide st h),⟨_,yu _ rfl,rfl,rfl⟩,fp,q⟩
 ·refine wpAny_pyIter_ascii ha ?_;exact ⟨s1.heap.objs.size,[s1.heap.objs.size],_,_,H1,rfl,I1.kept (t':=s1.toks) λb o e=>yU _ e,UW _ "str_ascii_iterator" z t (λA' hA=>Walks.strAscii hA _ z t) (λ_ _ _ _ _ st h=>wpAny_pyIter_striter_ascii st h),⟨_,yu _ rfl,rfl,rfl⟩,fp,q⟩
end
section
variable {X:Cx}{K:Fg}
def XH (K:Fg):R2:=λx y H Q=>∃ l b xs zs,x = .ref l/\y = .ref b/\SqL K H l xs/\SqL K H b zs/\xs.length+zs.length<=sizeLine/\∀ p,H p=none->Q (.ref p) (z6 H p (.lst (xs++zs)))
theorem op_catL:OpR X (binaryOp .Add) (XH X.K):=by
 intro pins s σ H x y v u Q I rx ry h;obtain ⟨l,b,xs,zs,rfl,rfl,hH,hB,hz,q⟩:=h;cases rx;cases ry;obtain ⟨its,r,⟨⟨cls,dd,data,sl⟩,n,e,h1,h2,h3⟩,_⟩:=I.list hH;obtain ⟨its2,r2,⟨⟨cls2,dd2,data2,sl2⟩,n2,e2,k1,k2,k3⟩,_⟩:=I.list hB
 dsimp only at h1 h2 h3 k1 k2 k3
 subst h1 h2 h3 k1 k2 k3;have hl:=r.length;have hl2:=r2.length;have hsz:its.toArray.size+its2.toArray.size<=sizeLine:=by rw [yW,yW];omega
 refine concat_meets ⟨_,e,rfl⟩ ⟨_,e2,rfl⟩ noFill_list_add seq_list_add PySem.F.slot_list_add PySem.F.entry_list_add (PySem.F.args_list_add_2 _ _) (list_addW l b its.toArray its2.toArray n n2 none none sl sl2 hsz) ⟨e,e2,?_⟩;have ea:its.toArray++its2.toArray=(its++its2).toArray:=by simp
 rw [ea];exact ⟨.ref _,_,I.lnew (t':=s.toks) (r.append r2) (by rw [yD];omega),rfl,q _ I.fresh⟩
end
section
variable {P:Program}{w:World}{H H' H0:Hp}{h h' h0:Heap}{a:Addr}{o:HO}
theorem ObjOk.here (x:ObjOk P w H h a o):∃ u,h.get? a=some u:=by
 cases o with
 |lst xs=>obtain ⟨_,_,_,_,e⟩:=x;exact ⟨_,e⟩
 |tup xs=>obtain ⟨_,_,_,_,e,_⟩:=x;exact ⟨_,e⟩
 |dK kvs=>obtain ⟨_,_,_,_,_,_,_,e,_⟩:=x;exact ⟨_,e⟩
 |dT fl as kvs=>obtain ⟨_,_,_,_,_,_,_,e,_⟩:=x;exact ⟨_,e⟩
 |set S n=>obtain ⟨_,_,_,_,e,_⟩:=x;exact ⟨_,e⟩
 |ins C dx fs=>obtain ⟨_,_,_,e,_⟩:=x;exact ⟨_,e⟩
 |own y=>obtain ⟨_,e⟩:=x;exact ⟨_,e⟩
 |xd fs=>obtain ⟨_,⟨_,_,_,e,_⟩,_⟩:=x;exact ⟨_,e⟩
 |rng lo hi=>obtain ⟨_,_,_,e⟩:=x;exact ⟨_,e⟩
 |frz ob u=>obtain ⟨e,_⟩:=x;exact ⟨_,e⟩
 |tbl ps q=>obtain ⟨_,e,_⟩:=x;exact ⟨_,e⟩
 |met f y=>exact ⟨_,(show h.get? a=some _ from x)⟩
 |ext φ=>obtain ⟨_,⟨_,e⟩,_⟩:=x;exact ⟨_,e⟩
theorem HOk.gone (x:HOk P w H h)(e:h.get? a=none):H a=none:=by
 cases q:H a with
 |none=>rfl
 |some u=>obtain ⟨v,z⟩:=(x a u q).here;rw [e] at z;cases z
theorem HOk.off (x:HOk P w H h)(k:∀ b u,b∉S->h.get? b=some u->h'.get? b=some u)(hS:∀ b∈S,H b=none):HOk P w H h':=λb u e=>by
 have out:∀ c v,H c=some v->c∉S:=λc v q z=>by
  have n:=hS c z;rw [q] at n;cases n
 refine (x b u e).stay (λc v hc q=>k c v ?_ q) (λ_ q=>q) (λ_ _ q=>q) λ_ _ _ q=>q;rcases hc with z|z
 ·rw [z];exact out b u e
 ·exact out c _ z
theorem Un.off {fs ex:List Addr}(u:Un fs ex H0 H h0 h)(k:∀ b o,b∉S->h.get? b=some o->h'.get? b=some o)(hS:∀ b∈S,b∈fs∨h0.get? b=none)(sl:∀ b o,b∈fs->h.get? b=some o->∃ z,h'.get? b=some { o with slots:=z }):Un fs ex H0 H h0 h' where
 keep:=λb o e n hb hx=>k b o (λz=>by
  rcases hS b z with q|q
  ·exact hb q
  ·rw [e] at q;cases q) (u.keep b o e n hb hx)
 slot:=λb o e n hb hx=>by
  obtain ⟨z,q⟩:=u.slot b o e n hb hx;obtain ⟨z2,q2⟩:=sl b _ hb q;exact ⟨z2,q2⟩
 free:=u.free
 there:=λb o e hx=>by
  obtain ⟨o',q⟩:=u.there b o e hx;by_cases hb:b∈fs
  ·obtain ⟨z,q2⟩:=sl b _ hb q;exact ⟨_,q2⟩
  ·exact ⟨o',k b o' (λz=>by
    rcases hS b z with y|y
    ·exact hb y
    ·rw [e] at y;cases y) q⟩
 tups:=u.tups
 frzs:=u.frzs
 tbls:=u.tbls
end
theorem ZP {env:Env}(h:env∈l)(hf:env.frame=some b):b∈b9 l:=ya.mpr ⟨env,h,hf⟩
section
variable {M:Model}{A:Around}{Er:Value->Shared->Prop}{s:Shared}{h0 base:Heap}{H:Hp}{P:Program}{w:World}{env:Env}{outer:List Env}{L e:Addr}{cls:Value}{Q:Unit->Shared->Prop}
structure vM (S:List Addr)(l:List Env)(h h':Heap):Prop where
 keep:∀ b o,b∉S->h.get? b=some o->h'.get? b=some o
 slot:∀ b o,b∈b9 l->h.get? b=some o->∃ z,h'.get? b=some { o with slots:=z }
theorem WW {B h1:Heap}{T:Addr}{oT:Obj}{ts:Array Value}(hok:HOk P w H h1)(hp:∀ b o,h0.get? b=some o->∃ o',h1.get? b=some o')(fr:h1.FunFrames base l)(hB:B=PySem.W.hideAll h1 (S++b9 l))(up:∀ b o,b∈b9 l->h1.get? b=some o->∃ z,h'.get? b=some { o with slots:=z })(hn:B.get? T=none)(hT:h'.get? T=some oT)(hd:oT.data = .fields ts)(hS:T∈S->H T=none/\h0.get? T=none):H T=none/\h0.get? T=none:=by
 cases q:h1.get? T with
 |none =>
  refine ⟨hok.gone q,?_⟩;cases z:h0.get? T with
  |none=>rfl
  |some o=>obtain ⟨o',z2⟩:=hp T o z;rw [q] at z2;cases z2
 |some o =>
  by_cases m:T∈S++b9 l
  ·rcases yB.mp m with m|m
   ·exact hS m
   ·obtain ⟨z,z2⟩:=up T o m q;obtain ⟨_,o2,z3,z4⟩:=fr.mem m;rw [q] at z3;cases z3;rw [hT] at z2;have e:=Option.some.inj z2;rw [e] at hd;exact absurd hd (z4 ts)
  ·rw [hB,PySem.W.hideAll_get _ q m] at hn;cases hn
end
theorem CP {mg:Str->Option Value}{C:Addr}{bmB:List Value}{newId:String}(X:K.In h)(hm:mg x=some (.ref C))(q:PySem.W.excIn K C bmB newId=true):OwnCls x C bmB newId mg h:=by
 constructor
 ·exact hm
 unfold PySem.W.excIn at q;split at q
 next dA cA sA lk =>
  split at q
  next D mr s0 s1 s2 s3 nw s5 em es =>
   rw [yt,yt,yt,yt,yt] at q;obtain ⟨⟨⟨⟨⟨q1,q2⟩,q3⟩,q4⟩,q5⟩,q6⟩:=q;have r1:D=C:=beq_iff_eq.mp q1;have r2:nw=newId:=beq_iff_eq.mp q2;have r6:=beq_iff_eq.mp q6;subst r1 r2;cases cA with
   |mk f1 f2 f3 f4 f5 f6 f7 f8 f9 f10 f11 =>
    have em':f3 = .ref D::mr:=em;have q3':f11=false:=by simpa using q3
    have es':sA=#[s0,s1,s2,s3,some (.builtin nw),s5]:=by
     cases sA with
     |mk l=>exact congrArg Array.mk es
    subst em' q3' es';have nsx:=PySem.W.isNs_of_in X (show PySem.W.nsOkIn K f4=true from q5);refine ⟨mr,f4,f1,f5,f2,f6,f7,f8,f9,f10,dA,s0,s1,s2,s3,s5,_,X _ _ lk,Heap.Ns.of_isNs nsx,?_,PySem.W.tail_of_in X q4⟩;exact PySem.W.nsMap_none_of_in X q5 r6
  next=>cases q
 next=>cases q
def veMro:List Value:=[.type "ValueError",.type "Exception",.type "BaseException",.type "object"]
section
variable {X:Cx}{x:Str}{C:Addr}{E:XK}{np cpos pos:Pos}
def Vk (C:Addr)(E:XK):TS:=λ_ _ H=>E (.ref C) none H
end
abbrev Cx.tried (X:Cx)(pn:List (Addr×Obj))(W:Value->Shared->Prop):Cx:={ X with pn:=pn,xe:=W }
abbrev Cx.suite (X:Cx)(pn:List (Addr×Obj))(ea:Addr):Cx:={ X with A:=X.A.mark (some (.ref ea)),calm:=false,pn:=pn,xe:=λ_ _=>False }
section
variable {X:Cx}{pins:List (Addr×Obj)}{σ:St}{H:Hp}{s:Shared}{W:Value->Shared->Prop}{b ea:Addr}
theorem Cx.Ok.tried (ok:X.Ok)(pn:List (Addr×Obj))(W:Value->Shared->Prop):(X.tried pn W).Ok :=
 ⟨ok.mod,ok.kind,ok.glob,ok.blt,ok.above,ok.inj,ok.has,ok.cab,ok.hd,ok.frames,ok.stk,ok.exf,ok.bs,ok.bsz,ok.noex,ok.exfs,ok.funs,ok.frf,ok.tbs⟩
theorem Cx.Ok.suite (ok:X.Ok)(pn:List (Addr×Obj))(ea:Addr):(X.suite pn ea).Ok :=
 ⟨ok.mod,ok.kind,ok.glob,ok.blt,ok.above,ok.inj,ok.has,ok.cab,(λz=>nomatch z),ok.frames,ok.stk,ok.exf,ok.bs,ok.bsz,ok.noex,ok.exfs,ok.funs,ok.frf,ok.tbs⟩
theorem Inv.tried (I:Inv X pins σ H s)(W:Value->Shared->Prop):Inv (X.tried (X.pn++pins) W) [] σ H s :=
 ⟨I.ok.tried _ _,I.os,I.bare,I.base,I.loc,I.cell,I.free,I.freeC,λp hp=>I.pin p (by simpa using hp),I.hok,I.len⟩
theorem Inv.untried (ok:X.Ok)(I:Inv (X.tried (X.pn++pins) W) p2 σ H s):Inv X pins σ H s :=
 ⟨ok,I.os,I.bare,I.base,I.loc,I.cell,I.free,I.freeC,λp hp=>I.pin p (yg _ hp),I.hok,I.len⟩
theorem Inv.suite (I:Inv X pins σ H s)(e1:s.heap.get? ea=some oe)(e2:H ea=none)(e3:ea≠X.env.locals)(e4:ea∉X.fs)(e5:∀ v,oe.data ≠ .cell v):Inv (X.suite (X.pn++pins++[(ea,oe)]) ea) [] σ H s :=
 ⟨I.ok.suite _ _,I.os,I.bare,I.base,I.loc,I.cell,I.free,I.freeC,λp hp=>by
  have hp':p∈X.pn++pins++[(ea,oe)]:=by simpa using hp
  rcases yB.mp hp' with z|z
  ·exact I.pin p z
  ·have q:p=(ea,oe):=by simpa using z
   subst q;exact ⟨e1,e2,e3,e4,e5⟩,I.hok,I.len⟩
theorem Inv.unsuite (ok:X.Ok)(I:Inv (X.suite (X.pn++pins++[(ea,oe)]) ea) p2 σ H s):Inv X pins σ H s :=
 ⟨ok,I.os,I.bare,I.base,I.loc,I.cell,I.free,I.freeC,λp hp=>I.pin p (yg _ (yg _ hp)),I.hok,I.len⟩
structure QI (X:Cx)(pins:List (Addr×Obj))(b:Addr):Prop where
 s0:X.s₀.heap.get? b=none
 loc:b≠X.env.locals
 cel:∀ x c,X.env.cells.lookup x=some c->c≠b
 pin:∀ p∈X.pn++pins,p.1≠b
 fs:b∉X.fs
theorem Inv.apart (I:Inv X pins σ H s)(hex:X.ex=[])(n:s.heap.get? b=none):QI X pins b where
 s0:=by
  cases z:X.s₀.heap.get? b with
  |none=>rfl
  |some o=>obtain ⟨o',q⟩:=I.base.there b o z (by rw [hex];exact λz=>nomatch z);rw [n] at q;cases q
 loc:=λz=>by
  obtain ⟨m,⟨o,es,ep,ho,_⟩,_⟩:=I.loc;rw [<- z,n] at ho;cases ho
 cel:=λx c e z=>by
  obtain ⟨v,o,ho,_⟩:=I.cell x c e;rw [z,n] at ho;cases ho
 pin:=λp hp z=>by
  have q:=(I.pin p hp).1;rw [z,n] at q;cases q
 fs:=λz=>by
  obtain ⟨_,o,ho,_⟩:=I.funs.mem z;rw [n] at ho;cases ho
theorem Inv.flown (I:Inv X pins σ H s)(hf:X.env.frame=some X.env.locals)(hst:X.stack=X.env::X.outer)(hS:∀ c∈S,H c=none/\QI X pins c)(k:vM (S++b9 X.stack) X.stack s.heap h'):Inv X pins σ H { s with heap:=h' }:=by
 have hL:X.env.locals∈b9 X.stack:=by rw [hst];exact ZP yR hf
 have sub:∀ c,c∈X.fs->c∈b9 X.stack:=λc hc=>by
  rw [hst];obtain ⟨x,hx,q⟩:=ya.mp hc;exact ya.mpr ⟨x,yT _ hx,q⟩
 have celK:∀ x c,X.env.cells.lookup x=some c->∀ v,s.heap.IsCell c v->h'.IsCell c v:=λx c e v ⟨o,ho,hd⟩=>by
  by_cases hc:c∈b9 X.stack
  ·obtain ⟨z,q⟩:=k.slot c o hc ho;exact ⟨_,q,hd⟩
  ·exact ⟨o,k.keep c o (λz=>(yB.mp z).elim (λy=>(hS c y).2.cel x c e rfl) hc) ho,hd⟩
 refine ⟨I.ok,I.os,I.bare,I.base.off k.keep (λc hc=>?_) (λc o hc q=>k.slot c o (sub c hc) q),?_,λx c e=>?_,I.free,I.freeC,λp hp=>?_,I.hok.off k.keep (λc hc=>?_),I.len⟩
 ·rcases yB.mp hc with z|z
  ·exact .inr (hS c z).2.s0
  ·rcases yJ.mp (I.stkSub c z) with y|y
   ·refine .inr ?_;rw [y];exact yh I.ok.above
   ·exact .inl y
 ·obtain ⟨m,⟨o,es,ep,ho,r⟩,hl⟩:=I.loc;obtain ⟨z,q⟩:=k.slot _ o hL ho;refine ⟨m,⟨_,es,ep,q,r⟩,λi x v e1 e2 e3=>?_⟩;obtain ⟨u,r2,l⟩:=hl i x v e1 e2 e3;refine ⟨u,r2,?_⟩;rcases l with l|⟨k1,c,e,y⟩
  ·exact .inl l
  ·exact .inr ⟨k1,c,e,celK x c e _ y⟩
 ·obtain ⟨v,z⟩:=I.cell x c e;exact ⟨v,celK x c e v z⟩
 ·obtain ⟨e,n,ne,nf,d⟩:=I.pin p hp;refine ⟨k.keep p.1 p.2 (λz=>?_) e,n,ne,nf,d⟩;rcases yB.mp z with y|y
  ·exact (hS p.1 y).2.pin p hp rfl
  ·rcases yJ.mp (I.stkSub p.1 y) with q|q
   ·exact ne q
   ·exact nf q
 ·rcases yB.mp hc with z|z
  ·exact (hS c z).1
  ·exact I.stkFree c z
theorem Inv.goes {M:Model}{A:Around}{Er:Value->Shared->Prop}{i:Nat}{n:Str}{Q:Unit->Shared->Prop}(I:Inv X pins σ H s)(hN:X.N.Nodup)(hi:X.N[i]?=some n)(hl:X.env.kindOf n=some .local)
  (h:∀ s',Inv X pins (σ.set i none) H s'->Q () s'):wpAny M A (do bindName X.env n .none;unbindBehindTheSuite X.env n pos) Q Er s:=by
 obtain ⟨m,hn,hv⟩:=id I.loc;have iσ:i<σ.length:=by rw [I.len];exact (yv.mp hi).1
 refine wpAny_nameGoes_keeps hl hn (by rw [I.ok.kind];rfl) λh' v hn' hs=>h _ ?_;obtain ⟨oL,_,_,hoL,_⟩:=id hn;have neL:∀ c o,X.s₀.heap.get? c=some o->c≠X.env.locals:=λc o e z=>by
  rw [z,yh I.ok.above] at e;cases e
 refine ⟨I.ok,I.os,I.bare,I.base.off (S:=[X.env.locals]) (λc o nc q=>(hs.2 c (λz=>nc (by simp [z]))).trans q) (λc hc=>?_) (λc o hc q=>⟨o.slots,(hs.2 c (λz=>?_)).trans q⟩),⟨_,hn',λj y v' e1 e2 e3=>?_⟩,λy c e=>?_,I.free,I.freeC,λp hp=>?_,
  I.hok.off (S:=[X.env.locals]) (λc o nc q=>(hs.2 c (λz=>nc (by simp [z]))).trans q) (λc hc=>?_),by simpa using I.len⟩
 ·have z:c=X.env.locals:=by simpa using hc
  refine .inr ?_;rw [z];exact yh I.ok.above
 ·rw [z] at hc;obtain ⟨_,o2,h2,_⟩:=I.ok.funs.mem hc;rw [yh I.ok.above] at h2;cases h2
 ·by_cases hj:j=i
  ·subst hj;rw [uX iσ] at e2;cases e2
  ·rw [yr (Ne.symm hj)] at e2;obtain ⟨u',r',q⟩:=hv j y v' e1 e2 e3;refine ⟨u',r',?_⟩;rcases q with ⟨k,e⟩|⟨k,c,e,z⟩
   ·refine .inl ⟨k,?_⟩;have ny:y≠n:=λe=>hj (ZQ hN e1 (e▸hi));simp [ny,e]
   ·exact .inr ⟨k,c,e,z.sameBut hs (I.cne y c e)⟩
 ·obtain ⟨w',z⟩:=I.cell y c e;exact ⟨w',z.sameBut hs (I.cne y c e)⟩
 ·obtain ⟨e,n,ne,nf,d⟩:=I.pin p hp;exact ⟨(hs.2 p.1 ne).trans e,n,ne,nf,d⟩
 ·have z:c=X.env.locals:=by simpa using hc
  rw [z];exact I.free
end
theorem SP.untried {X:Cx}{pins:List (Addr×Obj)}{W:Value->Shared->Prop}{D:qu}{f:Flow}{s:Shared}(ok:X.Ok)(h:SP (X.tried (X.pn++pins) W) p2 D f s):SP X pins D f s:=by
 cases f with
 |next=>obtain ⟨σ',H',I,q⟩:=h;exact ⟨σ',H',I.untried ok,q⟩
 |brk=>obtain ⟨σ',H',I,q⟩:=h;exact ⟨σ',H',I.untried ok,q⟩
 |cont=>obtain ⟨σ',H',I,q⟩:=h;exact ⟨σ',H',I.untried ok,q⟩
 |ret u=>obtain ⟨v,σ',H',I,r,q⟩:=h;exact ⟨v,σ',H',I.untried ok,r,q⟩
theorem UK {base:Heap}(fr:h.FunFrames base l)(k:(PySem.W.hideAll h (S++b9 l)).StaysIn h')(up:h.UpToSlots h'):vM (S++b9 l) l h h' :=
 ⟨λb o nb q=>k b o (PySem.W.hideAll_get _ q nb),λb o hb q=>up b o q (by
  obtain ⟨_,o2,z3,z4⟩:=fr.mem hb;rw [q] at z3;cases z3;exact z4)⟩
end L2
namespace L2
open PySem PySem.Spec PyProof.Rows PySem.W Builtin Builtin.ObjectAttr Builtin.Getset_descriptor
variable{C ea:Addr}{h:Heap}
theorem GS:bootBuiltins "ValueError"=some (.type "ValueError"):=by decide +kernel
structure qS (K:Fg)(C:Addr):Prop where
 cls:(clsIn K C).isSome=true
 ga:findIn K (.ref C) "__getattribute__"=some (some (.builtin "BaseException.__getattribute__"))
 gt:findIn K (.ref C) "__getattr__"=some none
 cl:findIn K (.ref C) "__class__"=some (some (.builtin "object.__class__"))
 sp:specialIn K (.builtin "object.__class__") "__get__"=some (some (.builtin "getset_descriptor.__get__"))
 tk:takesIn K (.builtin "object.__class__")=some true
 ob:mroIn K C (.type "object")=some true
 be:mroIn K C (.type "BaseException")=some true
def ExcAt (ea C:Addr)(h:Heap):Prop:=∃ o,h.get? ea=some o/\o.cls = .ref C
theorem ExcAt.ty {M:Model}(p:ExcAt ea C h):Looks M h (typeOf (.ref ea)) (.ref C):=by obtain ⟨o,a,b⟩:=p;exact b▸(Looks.ld a).andThen .now
section
variable {prog:Program}{w:World}{A:Around}{K:Fg}{s:Shared}{ea C:Addr}
theorem KQ {R:Result->Shared->Prop}{tp:Value}(T:qS K C)(X:K.In s.heap)(p:ExcAt ea C s.heap)(h:R (.ok (.ret (.ref C))) s):codeAny (model prog w) A (.call (.builtin "getset_descriptor.__get__") ⟨[.builtin "object.__class__",.ref ea,tp],[]⟩) R s:=by
 cases s with
 |mk hp gs dr tk os =>
  have y0:=p.ty (M:=model prog w);have y1:=looks_mroIn (M:=model prog w) X T.ob;refine codeAny_call_builtin KF.slot_gs.plain KF.entry_gs ?_;refine KF.slot_gs.check _ _ _ _ _ _ _ _ KF.type_class (KF.args_gs _ _ _) ?_;unfold Builtin.«getset_descriptor.__get__» descrGet;rw [dga_obj (.builtin "object.__class__") tp ea];apply yY;apply yP;unfold descrGetter descrCheckInstance descrNameAndClass isInstance;simp only [KF.owner_class]
  repeat lk
  constructor
  ·exact Code.quiet_builtin _ (by decide +kernel)
  ·refine codeAny_builtin KF.entry_class ?_;unfold Builtin.«object.__class__» shownTypeOf
   repeat lk
   exact h
theorem KR {M:Model}(T:qS K C)(X:K.In h):Looks M h (find (.ref ea) (.ref C) "__class__") (.bind (.builtin "getset_descriptor.__get__") (.builtin "object.__class__")):=by have y1:=looks_findIn (M:=M) X T.cl;have y2:Looks M h (getOf (some (.builtin "object.__class__"))) (some (.builtin "getset_descriptor.__get__")):=looks_specialIn X T.sp;have y3:=looks_takesIn (M:=M) X T.tk;have y4:Looks M h (dataDescriptor? (some (.builtin "object.__class__")) (some (.builtin "getset_descriptor.__get__"))) (some (.builtin "getset_descriptor.__get__",.builtin "object.__class__")):=y3.andThen .now;exact y1.andThen (y2.andThen (y4.andThen (Looks.tag .now)))
theorem KP {Q:Option Value->Shared->Prop}{Er:Value->Shared->Prop}(T:qS K C)(X:K.In s.heap)(p:ExcAt ea C s.heap)(h:Q (some (.ref C)) { s with toks:=s.toks+1 }):wpAny (model prog w) A (getAttr? (.ref ea) "__class__") Q Er s:=by
 cases s with
 |mk hp gs dr tk os =>
  have y0:=p.ty (M:=model prog w);have y1:=looks_findIn (M:=model prog w) X T.ga;have y2:=looks_findIn (M:=model prog w) X T.gt;have y3:=KR (M:=model prog w) (ea:=ea) T X;have y4:=looks_mroIn (M:=model prog w) X T.be;unfold getAttr? getAttrBy? getAttrBy;refine yY (wpAny_mkText (yY (wpAny_attempt (wpAny_holding (yY (y0.at ?_))))));refine yY (y1.at ?_);have n1:(onTheHeap (Value.ref C)&&Value.builtin "BaseException.__getattribute__" == Value.builtin "object.__getattribute__")=false:=by rw [show (Value.builtin "BaseException.__getattribute__" == Value.builtin "object.__getattribute__")=false by decide +kernel,Bool.and_false]
  dsimp only
  rw [n1,if_neg yV];unfold getAttrByItsOwn hookBefore;rw [show onTheHeap (Value.ref C)=true from rfl,if_pos rfl];refine yY (y2.at ?_);refine yY (wpAny_attempt (wpAny_holding ?_));unfold callGetattribute boundAndCalled;rw [Bool.false_and,if_neg yV];refine yY (wpAny_of_eq (PySem.F.excAttr_ValueError.ga.bind (.ref ea)) ?_);refine wpAny_call (codeAny_call_builtin PySem.F.excAttr_ValueError.ga.plain PySem.F.entry_bexc_ga ?_);have hk:builtinKind "BaseException.__getattribute__"=some .slot:=by decide +kernel
  have hq:splitId "BaseException.__getattribute__"=some ("BaseException","__getattribute__"):=by decide +kernel
  have ha:=PySem.F.args_bexc_ga (.ref ea) (.str "__class__" tk);simp only [checkBuiltinCall,hk,hq];have hb:Looks (model prog w) hp (isInstance (.ref ea) (.type "BaseException")) true:=y0.andThen y4;refine yY (hb.at ?_);rw [Bool.not_true];rw [if_neg yV];refine wpAny_of_eq ha ?_;unfold Builtin.«object.__getattribute__»;refine yY (yP ?_);refine yY (yP (yY (y0.at (yY (y3.at ?_)))));unfold bindTo;show wpAny _ _ (holding [Value.builtin "object.__class__"] (call (.builtin "getset_descriptor.__get__") [.builtin "object.__class__",.ref ea,.ref C]) >>= ret) _ _ _;refine yY (wpAny_holding (wpAny_call (KQ T X p (yP ?_))));refine handed_on rfl (yP h)
end
theorem Ys {K:Fg}(T:qS K C):KitX K (.ref ea) (.ref C) (ExcAt ea C) where
 ty:=λ_ _ _ p=>p.ty
 it:=λM h X _=>by
  have z:=T.cls;unfold clsIn at z;split at z
  next c' d' cd' sl' ho =>
   intro A' Q' E' s' k q;unfold isType loadHead;refine yY (wpAny_loadPart (k _ _ (X _ _ ho)) ?_);exact yP q
  next=>cases z
 ne:=λh tp dd its n sl X htp=>by
  cases hb:((.ref C:Value) == .ref tp) with
  |false=>rfl
  |true =>
   have e:C=tp:=Value.ref.inj (beq_iff_eq.mp hb);have z:=T.cls;unfold clsIn at z;split at z
   next c' d' cd' sl' ho =>
    have y:=X _ _ ho;rw [e,htp] at y;cases y
   next=>cases z
 ca:=λX p k=>KP T X p k
end L2
namespace L2
open PySem PySem.Spec PyProof.Rows PySem.SeqAt
variable{x y:V}{A:Around}{s:Shared}{u v:Value}{l:Addr}{items:Array Value}{n:Nat}{b:Bool}{K:Fg}
def EqP (K:Fg)(H:Hp):Nat->V->V->Bool->Prop
 |0,x,y,b=>y9 x=true/\y9 y=true/\b=t9 x y
 |n+1,x,y,b=>(y9 x=true/\y9 y=true/\b=t9 x y) ∨
  (∃(a c:Addr)(xs ys:List V),x = .ref a/\y = .ref c/\SqL K H a xs/\SqL K H c ys/\((xs.length≠ys.length/\b=false)∨(xs.length=ys.length/\∃ e:Nat->Bool,(∀ j (h1:j<xs.length) (h2:j<ys.length),EqP K H n xs[j] ys[j] (e j))/\b=(List.range xs.length).all e))) ∨
  (∃(a c:Addr)(xs ys:List V),x = .ref a/\y = .ref c/\SqT K H a xs/\SqT K H c ys/\∃ e:Nat->Bool,(∀ j (h1:j<xs.length) (h2:j<ys.length),EqP K H n xs[j] ys[j] (e j))/\b=((List.range (min xs.length ys.length)).all e&&xs.length==ys.length)) ∨
  (∃(a c:Addr)(xs ys:List V),x = .ref a/\y = .ref c/\SqL K H a xs/\SqT K H c ys/\b=false) ∨
  (∃(a c:Addr)(xs ys:List V),x = .ref a/\y = .ref c/\SqT K H a xs/\SqL K H c ys/\b=false) ∨
  (∃(c:Addr)(ys:List V),y9 x=true/\y = .ref c/\(SqL K H c ys∨SqT K H c ys)/\b=false) ∨
  (∃(a:Addr)(xs:List V),y9 y=true/\x = .ref a/\(SqL K H a xs∨SqT K H a xs)/\b=false)
theorem Xb (h:y9 x=true):t9 x x=true:=by cases x<;>first|rfl|exact beq_self_eq_true _|cases h
theorem Us (ry:RelV y u)(rx:RelV x v)(fy:y9 y=true)(fx:y9 x=true):RcAt A s u v (t9 y x):=by
 cases y with
 |non =>
  cases ry;cases x with
  |non=>cases rx;exact RcAt.none_none
  |bl b=>cases rx;exact RcAt.none_bool b
  |int b=>obtain ⟨t2,rfl⟩:=rx;exact RcAt.none_int b t2
  |str b=>obtain ⟨t2,rfl⟩:=rx;exact RcAt.none_str b t2
  |_=>exact absurd (show false=true from fx) yV
 |bl a =>
  cases ry;cases x with
  |non=>cases rx;exact RcAt.bool_none a
  |bl b=>cases rx;exact RcAt.bool_bool a b
  |int b=>obtain ⟨t2,rfl⟩:=rx;exact RcAt.bool_int a b t2
  |str b=>obtain ⟨t2,rfl⟩:=rx;exact RcAt.bool_str a b t2
  |_=>exact absurd (show false=true from fx) yV
 |int a =>
  obtain ⟨t1,rfl⟩:=ry;cases x with
  |non=>cases rx;exact RcAt.int_none a t1
  |bl b=>cases rx;exact RcAt.int_bool a t1 b
  |int b=>obtain ⟨t2,rfl⟩:=rx;exact RcAt.int_int a t1 b t2
  |str b=>obtain ⟨t2,rfl⟩:=rx;exact RcAt.int_str a t1 b t2
  |_=>exact absurd (show false=true from fx) yV
 |str a =>
  obtain ⟨t1,rfl⟩:=ry;cases x with
  |non=>cases rx;exact RcAt.str_none a t1
  |bl b=>cases rx;exact RcAt.str_bool a t1 b
  |int b=>obtain ⟨t2,rfl⟩:=rx;exact RcAt.str_int a t1 b t2
  |str b=>obtain ⟨t2,rfl⟩:=rx;exact RcAt.str_str a t1 b t2
  |_=>exact absurd (show false=true from fx) yV
 |_=>exact absurd (show false=true from fy) yV
theorem Ut (ry:RelV y u)(rx:RelV x v)(fy:y9 y=true)(fx:y9 x=true):RcNeAt A s u v (!t9 y x):=by
 cases y with
 |non =>
  cases ry;cases x with
  |non=>cases rx;exact RcNeAt.none_none
  |bl b=>cases rx;exact RcNeAt.none_bool b
  |int b=>obtain ⟨t2,rfl⟩:=rx;exact RcNeAt.none_int b t2
  |str b=>obtain ⟨t2,rfl⟩:=rx;exact RcNeAt.none_str b t2
  |_=>exact absurd (show false=true from fx) yV
 |bl a =>
  cases ry;cases x with
  |non=>cases rx;exact RcNeAt.bool_none a
  |bl b=>cases rx;exact RcNeAt.bool_bool a b
  |int b=>obtain ⟨t2,rfl⟩:=rx;exact RcNeAt.bool_int a b t2
  |str b=>obtain ⟨t2,rfl⟩:=rx;exact RcNeAt.bool_str a b t2
  |_=>exact absurd (show false=true from fx) yV
 |int a =>
  obtain ⟨t1,rfl⟩:=ry;cases x with
  |non=>cases rx;exact RcNeAt.int_none a t1
  |bl b=>cases rx;exact RcNeAt.int_bool a t1 b
  |int b=>obtain ⟨t2,rfl⟩:=rx;exact RcNeAt.int_int a t1 b t2
  |str b=>obtain ⟨t2,rfl⟩:=rx;exact RcNeAt.int_str a t1 b t2
  |_=>exact absurd (show false=true from fx) yV
 |str a =>
  obtain ⟨t1,rfl⟩:=ry;cases x with
  |non=>cases rx;exact RcNeAt.str_none a t1
  |bl b=>cases rx;exact RcNeAt.str_bool a t1 b
  |int b=>obtain ⟨t2,rfl⟩:=rx;exact RcNeAt.str_int a t1 b t2
  |str b=>obtain ⟨t2,rfl⟩:=rx;exact RcNeAt.str_str a t1 b t2
  |_=>exact absurd (show false=true from fx) yV
 |_=>exact absurd (show false=true from fy) yV
theorem KC (hl:s.heap.IsList l items)(hu:A.units<cLine)(ry:RelV y u)(fy:y9 y=true):EqAt A s u (.ref l) false:=by
 cases y with
 |non=>cases ry;exact EqAt.none_list hl hu
 |bl a=>cases ry;exact EqAt.bool_list a hl hu
 |int a=>obtain ⟨t1,rfl⟩:=ry;exact EqAt.int_list a t1 hl hu
 |str a=>obtain ⟨t1,rfl⟩:=ry;exact EqAt.str_list a t1 hl hu
 |_=>exact absurd (show false=true from fy) yV
theorem KE (hl:s.heap.IsList l items)(hu:A.units<cLine)(ry:RelV y u)(fy:y9 y=true):EqAt A s (.ref l) u false:=by
 cases y with
 |non=>cases ry;exact EqAt.list_none hl hu
 |bl a=>cases ry;exact EqAt.list_bool a hl hu
 |int a=>obtain ⟨t1,rfl⟩:=ry;exact EqAt.list_int a t1 hl hu
 |str a=>obtain ⟨t1,rfl⟩:=ry;exact EqAt.list_str a t1 hl hu
 |_=>exact absurd (show false=true from fy) yV
theorem KD (hl:s.heap.IsTuple l items)(hu:A.units<cLine)(ry:RelV y u)(fy:y9 y=true):EqAt A s u (.ref l) false:=by
 cases y with
 |non=>cases ry;exact EqAt.none_tuple hl hu
 |bl a=>cases ry;exact EqAt.bool_tuple a hl hu
 |int a=>obtain ⟨t1,rfl⟩:=ry;exact EqAt.int_tuple a t1 hl hu
 |str a=>obtain ⟨t1,rfl⟩:=ry;exact EqAt.str_tuple a t1 hl hu
 |_=>exact absurd (show false=true from fy) yV
theorem KG (hl:s.heap.IsTuple l items)(hu:A.units<cLine)(ry:RelV y u)(fy:y9 y=true):EqAt A s (.ref l) u false:=by
 cases y with
 |non=>cases ry;exact EqAt.tuple_none hl hu
 |bl a=>cases ry;exact EqAt.tuple_bool a hl hu
 |int a=>obtain ⟨t1,rfl⟩:=ry;exact EqAt.tuple_int a t1 hl hu
 |str a=>obtain ⟨t1,rfl⟩:=ry;exact EqAt.tuple_str a t1 hl hu
 |_=>exact absurd (show false=true from fy) yV
theorem DI (hl:s.heap.IsList l items)(hu:A.units<cLine)(ry:RelV y u)(fy:y9 y=true):RcAt A s u (.ref l) false:=by
 cases y with
 |non=>cases ry;exact RcAt.none_list hl hu
 |bl a=>cases ry;exact RcAt.bool_list a hl hu
 |int a=>obtain ⟨t1,rfl⟩:=ry;exact RcAt.int_list a t1 hl hu
 |str a=>obtain ⟨t1,rfl⟩:=ry;exact RcAt.str_list a t1 hl hu
 |_=>exact absurd (show false=true from fy) yV
theorem DK (hl:s.heap.IsList l items)(hu:A.units<cLine)(ry:RelV y u)(fy:y9 y=true):RcAt A s (.ref l) u false:=by
 cases y with
 |non=>cases ry;exact RcAt.list_none hl hu
 |bl a=>cases ry;exact RcAt.list_bool a hl hu
 |int a=>obtain ⟨t1,rfl⟩:=ry;exact RcAt.list_int a t1 hl hu
 |str a=>obtain ⟨t1,rfl⟩:=ry;exact RcAt.list_str a t1 hl hu
 |_=>exact absurd (show false=true from fy) yV
theorem DJ (hl:s.heap.IsTuple l items)(hu:A.units<cLine)(ry:RelV y u)(fy:y9 y=true):RcAt A s u (.ref l) false:=by
 cases y with
 |non=>cases ry;exact RcAt.none_tuple hl hu
 |bl a=>cases ry;exact RcAt.bool_tuple a hl hu
 |int a=>obtain ⟨t1,rfl⟩:=ry;exact RcAt.int_tuple a t1 hl hu
 |str a=>obtain ⟨t1,rfl⟩:=ry;exact RcAt.str_tuple a t1 hl hu
 |_=>exact absurd (show false=true from fy) yV
theorem DL (hl:s.heap.IsTuple l items)(hu:A.units<cLine)(ry:RelV y u)(fy:y9 y=true):RcAt A s (.ref l) u false:=by
 cases y with
 |non=>cases ry;exact RcAt.tuple_none hl hu
 |bl a=>cases ry;exact RcAt.tuple_bool a hl hu
 |int a=>obtain ⟨t1,rfl⟩:=ry;exact RcAt.tuple_int a t1 hl hu
 |str a=>obtain ⟨t1,rfl⟩:=ry;exact RcAt.tuple_str a t1 hl hu
 |_=>exact absurd (show false=true from fy) yV
theorem DM (hl:s.heap.IsList l items)(hu:A.units<cLine)(ry:RelV y u)(fy:y9 y=true):RcNeAt A s u (.ref l) true:=by
 cases y with
 |non=>cases ry;exact RcNeAt.none_list hl hu
 |bl a=>cases ry;exact RcNeAt.bool_list a hl hu
 |int a=>obtain ⟨t1,rfl⟩:=ry;exact RcNeAt.int_list a t1 hl hu
 |str a=>obtain ⟨t1,rfl⟩:=ry;exact RcNeAt.str_list a t1 hl hu
 |_=>exact absurd (show false=true from fy) yV
theorem DO (hl:s.heap.IsList l items)(hu:A.units<cLine)(ry:RelV y u)(fy:y9 y=true):RcNeAt A s (.ref l) u true:=by
 cases y with
 |non=>cases ry;exact RcNeAt.list_none hl hu
 |bl a=>cases ry;exact RcNeAt.list_bool a hl hu
 |int a=>obtain ⟨t1,rfl⟩:=ry;exact RcNeAt.list_int a t1 hl hu
 |str a=>obtain ⟨t1,rfl⟩:=ry;exact RcNeAt.list_str a t1 hl hu
 |_=>exact absurd (show false=true from fy) yV
theorem DN (hl:s.heap.IsTuple l items)(hu:A.units<cLine)(ry:RelV y u)(fy:y9 y=true):RcNeAt A s u (.ref l) true:=by
 cases y with
 |non=>cases ry;exact RcNeAt.none_tuple hl hu
 |bl a=>cases ry;exact RcNeAt.bool_tuple a hl hu
 |int a=>obtain ⟨t1,rfl⟩:=ry;exact RcNeAt.int_tuple a t1 hl hu
 |str a=>obtain ⟨t1,rfl⟩:=ry;exact RcNeAt.str_tuple a t1 hl hu
 |_=>exact absurd (show false=true from fy) yV
theorem DP (hl:s.heap.IsTuple l items)(hu:A.units<cLine)(ry:RelV y u)(fy:y9 y=true):RcNeAt A s (.ref l) u true:=by
 cases y with
 |non=>cases ry;exact RcNeAt.tuple_none hl hu
 |bl a=>cases ry;exact RcNeAt.tuple_bool a hl hu
 |int a=>obtain ⟨t1,rfl⟩:=ry;exact RcNeAt.tuple_int a t1 hl hu
 |str a=>obtain ⟨t1,rfl⟩:=ry;exact RcNeAt.tuple_str a t1 hl hu
 |_=>exact absurd (show false=true from fy) yV
section
variable {X:Cx}{pins:List (Addr×Obj)}{σ:St}{H:Hp}{s:Shared}
theorem Xa (I:Inv X pins σ H s):∀(n:Nat){x:V}{b:Bool},EqP X.K H n x x b->b=true
 |0,x,b,h=>by obtain ⟨h1,_,rfl⟩:=h;exact Xb h1
 |n+1,x,b,h=>by
  rcases h with ⟨h1,_,rfl⟩|⟨a,c,xs,ys,rfl,e2,p1,p2,h⟩|⟨a,c,xs,ys,rfl,e2,p1,p2,e,he,rfl⟩|⟨a,c,xs,ys,rfl,e2,p1,p2,_⟩|⟨a,c,xs,ys,rfl,e2,p1,p2,_⟩|⟨c,ys,f,rfl,_⟩|⟨c,ys,f,rfl,_⟩
  ·exact Xb h1
  ·cases e2;cases I.list_inj p1 p2;rcases h with ⟨h,_⟩|⟨_,e,he,rfl⟩
   ·exact absurd rfl h
   ·rw [uY];exact λj hj=>Xa I n (he j (uH.mp hj) (uH.mp hj))
  ·cases e2;cases I.tuple_inj p1 p2;rw [Nat.min_self,beq_self_eq_true,Bool.and_true,uY];exact λj hj=>Xa I n (he j (uH.mp hj) (uH.mp hj))
  ·cases e2;obtain ⟨_,_,⟨o1,_,q1,c1,_⟩,_⟩:=I.list p1;obtain ⟨_,_,⟨o2,q2,c2,_⟩,_⟩:=I.tuple p2;rw [q1] at q2;cases q2;rw [c1] at c2;exact absurd c2 (by decide)
  ·cases e2;obtain ⟨_,_,⟨o2,q2,c2,_⟩,_⟩:=I.tuple p1;obtain ⟨_,_,⟨o1,_,q1,c1,_⟩,_⟩:=I.list p2;rw [q1] at q2;cases q2;rw [c1] at c2;exact absurd c2 (by decide)
  ·cases f
  ·cases f
theorem wf (I:Inv X pins σ H s):∀(n:Nat)(A:Around){x y:V}{u v:Value}{b:Bool},A.units+n<cLine->EqP X.K H n x y b->RelV x u->RelV y v->EqAt A s u v b
 |0,A,x,y,u,v,b,hu,h,r1,r2=>by obtain ⟨h1,h2,rfl⟩:=h;exact Zp r1 r2 h1 h2
 |n+1,A,x,y,u,v,b,hu,h,r1,r2=>by
  have h':=h;rcases h with ⟨h1,h2,rfl⟩|⟨a,c,xs,ys,rfl,rfl,p1,p2,h⟩|⟨a,c,xs,ys,rfl,rfl,p1,p2,e,he,rfl⟩|⟨a,c,xs,ys,rfl,rfl,p1,p2,rfl⟩|⟨a,c,xs,ys,rfl,rfl,p1,p2,rfl⟩|⟨c,ys,f,rfl,p,rfl⟩|⟨c,ys,f,rfl,p,rfl⟩
  ·exact Zp r1 r2 h1 h2
  ·cases r1;cases r2;by_cases hac:a=c
   ·subst hac;have hb:=Xa I (n+1) h';rw [hb];exact EqAt.same _
   obtain ⟨us,v1,q1,_⟩:=I.list p1;obtain ⟨ws,v2,q2,_⟩:=I.list p2;have l1:=v1.length;have l2:=v2.length;refine EqAt.of_refs hac ?_;rcases h with ⟨h,rfl⟩|⟨hl,e,he,rfl⟩
   ·exact RcAt.lists_lengths q1.isList q2.isList (by rw [yW,yW];simp;omega) (by omega)
   ·have q:=RcAt.lists (A:=A) (s:=s) q1.isList q2.isList (by rw [yW,yW];omega) (by omega) (e:=e) (λj j1 j2=>?_)
    ·rw [yW,<- l1] at q;exact q
    ·have j1':j<us.length:=by simpa using j1
     have j2':j<ws.length:=by simpa using j2
     rw [ym,ym];exact wf I n A.in1 (by show A.units+1+n<cLine;omega) (he j (by omega) (by omega)) (xO v1 j (by omega) j1') (xO v2 j (by omega) j2')
  ·cases r1;cases r2;by_cases hac:a=c
   ·subst hac;have hb:=Xa I (n+1) h';rw [hb];exact EqAt.same _
   obtain ⟨us,v1,q1,_⟩:=I.tuple p1;obtain ⟨ws,v2,q2,_⟩:=I.tuple p2;have l1:=v1.length;have l2:=v2.length;refine EqAt.of_refs hac ?_;have q:=RcAt.tuples (A:=A) (s:=s) q1 q2 (by omega) (e:=e) (λj j1 j2=>?_)
   ·rw [yW,yW,<- l1,<- l2] at q;exact q
   ·have j1':j<us.length:=by simpa using j1
    have j2':j<ws.length:=by simpa using j2
    rw [ym,ym];exact wf I n A.in1 (by show A.units+1+n<cLine;omega) (he j (by omega) (by omega)) (xO v1 j (by omega) j1') (xO v2 j (by omega) j2')
  ·cases r1;cases r2;obtain ⟨us,v1,q1,_⟩:=I.list p1;obtain ⟨ws,v2,q2,_⟩:=I.tuple p2;exact EqAt.list_tuple q1.isList q2 (by omega)
  ·cases r1;cases r2;obtain ⟨us,v1,q1,_⟩:=I.tuple p1;obtain ⟨ws,v2,q2,_⟩:=I.list p2;exact EqAt.tuple_list q1 q2.isList (by omega)
  ·cases r2;rcases p with p|p
   ·obtain ⟨us,v1,q1,_⟩:=I.list p;exact KC q1.isList (by omega) r1 f
   ·obtain ⟨us,v1,q1,_⟩:=I.tuple p;exact KD q1 (by omega) r1 f
  ·cases r1;rcases p with p|p
   ·obtain ⟨us,v1,q1,_⟩:=I.list p;exact KE q1.isList (by omega) r2 f
   ·obtain ⟨us,v1,q1,_⟩:=I.tuple p;exact KG q1 (by omega) r2 f
theorem rc_at (I:Inv X pins σ H s)(hu:A.units+n<cLine)(h:EqP X.K H n x y b)(r1:RelV x u)(r2:RelV y v):RcAt A s u v b:=by
 cases n with
 |zero=>obtain ⟨h1,h2,rfl⟩:=h;exact Us r1 r2 h1 h2
 |succ n =>
  rcases h with ⟨h1,h2,rfl⟩|⟨a,c,xs,ys,rfl,rfl,p1,p2,h⟩|⟨a,c,xs,ys,rfl,rfl,p1,p2,e,he,rfl⟩|⟨a,c,xs,ys,rfl,rfl,p1,p2,rfl⟩|⟨a,c,xs,ys,rfl,rfl,p1,p2,rfl⟩|⟨c,ys,f,rfl,p,rfl⟩|⟨c,ys,f,rfl,p,rfl⟩
  ·exact Us r1 r2 h1 h2
  ·cases r1;cases r2;obtain ⟨us,v1,q1,_⟩:=I.list p1;obtain ⟨ws,v2,q2,_⟩:=I.list p2;have l1:=v1.length;have l2:=v2.length;rcases h with ⟨h,rfl⟩|⟨hl,e,he,rfl⟩
   ·exact RcAt.lists_lengths q1.isList q2.isList (by rw [yW,yW];simp;omega) (by omega)
   ·have q:=RcAt.lists (A:=A) (s:=s) q1.isList q2.isList (by rw [yW,yW];omega) (by omega) (e:=e) (λj j1 j2=>?_)
    ·rw [yW,<- l1] at q;exact q
    ·have j1':j<us.length:=by simpa using j1
     have j2':j<ws.length:=by simpa using j2
     rw [ym,ym];exact wf I n A.in1 (by show A.units+1+n<cLine;omega) (he j (by omega) (by omega)) (xO v1 j (by omega) j1') (xO v2 j (by omega) j2')
  ·cases r1;cases r2;obtain ⟨us,v1,q1,_⟩:=I.tuple p1;obtain ⟨ws,v2,q2,_⟩:=I.tuple p2;have l1:=v1.length;have l2:=v2.length;have q:=RcAt.tuples (A:=A) (s:=s) q1 q2 (by omega) (e:=e) (λj j1 j2=>?_)
   ·rw [yW,yW,<- l1,<- l2] at q;exact q
   ·have j1':j<us.length:=by simpa using j1
    have j2':j<ws.length:=by simpa using j2
    rw [ym,ym];exact wf I n A.in1 (by show A.units+1+n<cLine;omega) (he j (by omega) (by omega)) (xO v1 j (by omega) j1') (xO v2 j (by omega) j2')
  ·cases r1;cases r2;obtain ⟨us,v1,q1,_⟩:=I.list p1;obtain ⟨ws,v2,q2,_⟩:=I.tuple p2;exact RcAt.list_tuple q1.isList q2 (by omega)
  ·cases r1;cases r2;obtain ⟨us,v1,q1,_⟩:=I.tuple p1;obtain ⟨ws,v2,q2,_⟩:=I.list p2;exact RcAt.tuple_list q1 q2.isList (by omega)
  ·cases r2;rcases p with p|p
   ·obtain ⟨us,v1,q1,_⟩:=I.list p;exact DI q1.isList (by omega) r1 f
   ·obtain ⟨us,v1,q1,_⟩:=I.tuple p;exact DJ q1 (by omega) r1 f
  ·cases r1;rcases p with p|p
   ·obtain ⟨us,v1,q1,_⟩:=I.list p;exact DK q1.isList (by omega) r2 f
   ·obtain ⟨us,v1,q1,_⟩:=I.tuple p;exact DL q1 (by omega) r2 f
theorem DQ (I:Inv X pins σ H s)(hu:A.units+n<cLine)(h:EqP X.K H n x y b)(r1:RelV x u)(r2:RelV y v):RcNeAt A s u v (!b):=by
 cases n with
 |zero=>obtain ⟨h1,h2,rfl⟩:=h;exact Ut r1 r2 h1 h2
 |succ n =>
  rcases h with ⟨h1,h2,rfl⟩|⟨a,c,xs,ys,rfl,rfl,p1,p2,h⟩|⟨a,c,xs,ys,rfl,rfl,p1,p2,e,he,rfl⟩|⟨a,c,xs,ys,rfl,rfl,p1,p2,rfl⟩|⟨a,c,xs,ys,rfl,rfl,p1,p2,rfl⟩|⟨c,ys,f,rfl,p,rfl⟩|⟨c,ys,f,rfl,p,rfl⟩
  ·exact Ut r1 r2 h1 h2
  ·cases r1;cases r2;obtain ⟨us,v1,q1,_⟩:=I.list p1;obtain ⟨ws,v2,q2,_⟩:=I.list p2;have l1:=v1.length;have l2:=v2.length;rcases h with ⟨h,rfl⟩|⟨hl,e,he,rfl⟩
   ·exact RcNeAt.lists_lengths q1.isList q2.isList (by rw [yW,yW];simp;omega) (by omega)
   ·have q:=RcNeAt.lists (A:=A) (s:=s) q1.isList q2.isList (by rw [yW,yW];omega) (by omega) (e:=e) (λj j1 j2=>?_)
    ·rw [yW,<- l1] at q;exact q
    ·have j1':j<us.length:=by simpa using j1
     have j2':j<ws.length:=by simpa using j2
     rw [ym,ym];exact wf I n A.in1 (by show A.units+1+n<cLine;omega) (he j (by omega) (by omega)) (xO v1 j (by omega) j1') (xO v2 j (by omega) j2')
  ·cases r1;cases r2;obtain ⟨us,v1,q1,_⟩:=I.tuple p1;obtain ⟨ws,v2,q2,_⟩:=I.tuple p2;have l1:=v1.length;have l2:=v2.length;have q:=RcNeAt.tuples (A:=A) (s:=s) q1 q2 (by omega) (e:=e) (λj j1 j2=>?_)
   ·rw [yW,yW,<- l1,<- l2] at q;exact q
   ·have j1':j<us.length:=by simpa using j1
    have j2':j<ws.length:=by simpa using j2
    rw [ym,ym];exact wf I n A.in1 (by show A.units+1+n<cLine;omega) (he j (by omega) (by omega)) (xO v1 j (by omega) j1') (xO v2 j (by omega) j2')
  ·cases r1;cases r2;obtain ⟨us,v1,q1,_⟩:=I.list p1;obtain ⟨ws,v2,q2,_⟩:=I.tuple p2;exact RcNeAt.list_tuple q1.isList q2 (by omega)
  ·cases r1;cases r2;obtain ⟨us,v1,q1,_⟩:=I.tuple p1;obtain ⟨ws,v2,q2,_⟩:=I.list p2;exact RcNeAt.tuple_list q1 q2.isList (by omega)
  ·cases r2;rcases p with p|p
   ·obtain ⟨us,v1,q1,_⟩:=I.list p;exact DM q1.isList (by omega) r1 f
   ·obtain ⟨us,v1,q1,_⟩:=I.tuple p;exact DN q1 (by omega) r1 f
  ·cases r1;rcases p with p|p
   ·obtain ⟨us,v1,q1,_⟩:=I.list p;exact DO q1.isList (by omega) r2 f
   ·obtain ⟨us,v1,q1,_⟩:=I.tuple p;exact DP q1 (by omega) r2 f
def rEqD (K:Fg)(n:Nat)(neg:Bool):R2:=λx y H Q=>∃ b,EqP K H n x y b/\Q (.bl (if neg then !b else b)) H
theorem YN (hu:X.A.units+n<cLine)(hK:X.K=K):OpR X (compareOp .Eq) (rEqD K n false):=by subst hK;intro pins s σ H x y v u Q I rx ry h;obtain ⟨b,h,q⟩:=h;exact rc_at I hu h rx ry X.prog X.w X.xe _ ⟨.bl b,H,I,rfl,q⟩
theorem zo (hu:X.A.units+n<cLine)(hK:X.K=K):OpR X (compareOp .NotEq) (rEqD K n true):=by subst hK;intro pins s σ H x y v u Q I rx ry h;obtain ⟨b,h,q⟩:=h;exact DQ I hu h rx ry X.prog X.w X.xe _ ⟨.bl (!b),H,I,rfl,q⟩
theorem hu6 {k:Nat}(hr:Room k A):A.units+6<cLine:=by have:=hr.units;omega
end
end L2
namespace L2
open PySem PySem.Spec PyProof.Rows
section
variable {X:Cx}{K:Fg}
def rAddS:R2:=λx y H Q=>∃ i j,x = .str i/\y = .str j/\i.length+j.length<=sizeLine/\Q (.str (i++j)) H
def Jj (K:Fg):R2:=λx y H Q=>(rI0 λi j=> .int (i+j)) x y H Q∨rAddS x y H Q∨XH K x y H Q∨Uh K x y H Q
theorem xW (h:X.K=K):OpR X (binaryOp .Add) (Jj K):=by subst h;exact op_add.or (op_add_str.or (op_catL.or CG))
theorem BL (h:X.K=K):IxR X (rIx K):=by subst h;exact BK
def rLen (K:Fg):List V->Hp->VK->Prop:=λxs H Q=>(∃ x n,xs=[x]/\LenV K x H n/\Q (.int n) H)∨∃ a kvs,xs=[V.ref a]/\H a=some (.dK kvs)/\Q (.int kvs.length) H
theorem zR (h:X.K=K):CallR X (.builtin "len") (rLen K):=by subst h;exact CallR.or (f:= .builtin "len") Ki Kj
theorem DD {a:Expr}{ta:TE}(h:X.K=K)(ha:PE X a ta)(he:∀ whole,isTrue a X.env whole=(do let v <- whole;standAt a.pos;holding [v] (truthy v))):PT X a (λσ H Q=>ta σ H λx H'=>∃ k,TruV K x H' k/\Q k H'):=by subst h;exact DE ha he
def Um (K:Fg):List V->Hp->VK->Prop:=λxs H Q=>∃ p ys,xs=[.ref p]/\(SqL K H p ys∨SqT K H p ys)/\∀ l,H l=none->Q (.ref l) (z6 H l (.lst ys))
theorem va (h:X.K=K):CallR X (.type "list") (Um K):=by subst h;exact Kl
def rIsi (K:Fg):List V->Hp->VK->Prop:=λxs H Q=>∃ x n T b,xs=[x,.ty n]/\qZ K H x (.type T)/\tyB T n=some b/\Q (.bl b) H
theorem vW (h:X.K=K):CallR X (.builtin "isinstance") (rIsi K):=by subst h;exact Ke
def Uf (K:Fg):List V->Hp->VK->Prop:=λxs H Q=>∃(a:Addr)(bs:List Bool),xs=[.ref a]/\SqL K H a (bs.map V.bl)/\Q (.bl (bs.all id)) H
theorem Zf (hc:X.calm=true)(h:X.K=K):CallR X (.builtin "all") (Uf K):=by subst h;exact Kb hc
def rIsN:R2:=λx y H Q=>y = .non/\Q (.bl (decide (x = .non))) H
def Up:R2:=λx y H Q=>y = .non/\Q (.bl (!decide (x = .non))) H
theorem ZV:OpR X (compareOp .Is) rIsN:=CI
theorem CN:OpR X (compareOp .IsNot) Up:=CL
theorem GZ:bootBuiltins "tuple"=some (.type "tuple"):=by decide +kernel
theorem GW:bootBuiltins "sorted"=some (.builtin "sorted"):=by decide +kernel
theorem Wz:bootBuiltins "dict"=some (.type "dict"):=by decide +kernel
theorem Lo:tyB "tuple" "tuple"=some true:=by decide +kernel
end
section
variable {X:Cx}{K:Fg}{o e:Expr}{es:List Expr}{to:TE}{t:TA}{name:Str}{apos cpos:Pos}{T id:String}{r:V->List V->Hp->VK->Prop}
theorem CZ (hK:X.K=K)(pa:PlainAttrs T)(slot:Slot T name id)(hty:typeOf (.builtin id)=pure (.type "method_descriptor"))(hm:MtR X id r)(ho:PE X o to)(hbase:attributeBase o name X.env (eval o X.env)=eval o X.env:=by rfl)(hline:(apos.endLine==cpos.line)=true:=by rfl):PE X (.Call (.Attribute o name apos) [] [] cpos) (tBM0 K T r to):=by subst hK;exact CY pa slot hty hm ho hbase hline
theorem ZZ (hK:X.K=K)(pa:PlainAttrs T)(slot:Slot T name id)(hty:typeOf (.builtin id)=pure (.type "method_descriptor"))(hm:MtR X id r)(ho:PE X o to)(ha:PA X (e::es) t)(hbase:attributeBase o name X.env (eval o X.env)=eval o X.env:=by rfl)(hfew:((backTo cpos (starEach (e::es) X.env)).all (λx=>!x.1)&&(backToKw cpos (keywordEach [] X.env)).all (λx=>x.1.isSome)&&decide ((e::es).length+([]:List Keyword).length+(if ([]:List Keyword).isEmpty then 0 else 1)<30))=true:=by rfl)(hline:(apos.endLine==cpos.line)=true:=by rfl)(hs:starEach (e::es) X.env=(false,eval e X.env)::starEach es X.env:=by rfl)(hplain:(backTo cpos (starEach es X.env)).any (·.1)=false:=by rfl):PE X (.Call (.Attribute o name apos) (e::es) [] cpos) (tBM K T r to t):=by subst hK;exact pe_bm pa slot hty hm ho ha hbase hfew hline hs hplain
end
end L2
namespace L2
open PySem PySem.Spec PySem.Calls PyProof.Rows
variable{ss:List Str}{P:Program}{w:World}{vs:List Value}{A:Around}{E Q:Value->Shared->Prop}{s:Shared}
section
variable {X:Cx}
def QQ (ss:List Str):Prop:=ss.Pairwise λx y=>¬ (y.cps.toList<x.cps.toList)
theorem UI (h:sortedS ss=true):QQ ss:=by
 cases ss with
 |nil=>exact List.Pairwise.nil
 |cons x r =>
  have key:∀(l:List Str)(p:Str),risingS p l=true->(p::l).Pairwise λx y=>¬ (y.cps.toList<x.cps.toList):=by
   intro l
   induction l with
   |nil=>intro p _;exact List.pairwise_singleton _ _
   |cons y l ih =>
    intro p hp;have hp':(!ltCps y.cps.toList p.cps.toList&&risingS y l)=true:=hp;rw [yt] at hp';have i2:=ih y hp'.2;have hyp:¬ (y.cps.toList<p.cps.toList):=by have e:=hp'.1;rw [ltCps_eq] at e;simpa using e
    refine List.pairwise_cons.mpr ⟨λz hz=>?_,i2⟩;rcases yJ.mp hz with rfl|hz
    ·exact hyp
    ·have hzy:=(List.pairwise_cons.mp i2).1 z hz;intro hlt;exact hyp (Std.lt_of_le_of_lt (Std.not_lt.mp hzy) hlt)
  exact key r x h
def Uq (K:Fg):List V->Hp->VK->Prop:=λxs H Q=>∃(a:Addr)(ss:List Str),xs=[.ref a]/\(SqL K H a (ss.map V.str)∨∃ kvs,Rd H a (.dK kvs)/\kvs.map (·.1)=ss.map Sum.inr)/\ss.length<64 /\
 ∀ l ss',H l=none->ss'.Perm ss->QQ ss'->Q (.ref l) (z6 H l (.lst (ss'.map V.str)))
theorem UN:∀{ss:List Str}{us:List Value},Vals (ss.map V.str) us->StrsAre us ss
 |[],_,.nil=> .nil
 |x::_,_,.cons ⟨t,e⟩ r=>by subst e;exact .cons x t (UN r)
theorem Vt:∀{us:List Value}{ss:List Str},StrsAre us ss->Vals (ss.map V.str) us
 |_,_,.nil=> .nil
 |_,_,.cons x t r=> .cons ⟨t,rfl⟩ (Vt r)
theorem BS:∀{kvs:List (v7×V)}{vs:List (v7×Value)}{ss:List Str},KV kvs vs->kvs.map (·.1)=ss.map Sum.inr->vs.map (·.1)=ss.map Sum.inr:=by
 intro kvs vs ss r e;rw [<- e];clear e
 induction r with
 |nil=>rfl
 |cons p _ ih=>rw [yF,yF,ih,p.1]
theorem BF {vs:List (v7×Value)}{acc:Array Value}(e:vs.map (·.1)=ss.map Sum.inr)(h:ItemsOf (λi v=>∃ k x,vs[i]?=some (k,x)/\(qF P w).is k v=true) acc vs.length):StrsAre acc.toList ss:=by
 have hl:vs.length=ss.length:=by have:=congrArg List.length e;rwa [yZ,yZ] at this
 have h0:∀ v∈acc.toList,∃ x t,v = .str x t:=by
  intro v hv;obtain ⟨i,hi,rfl⟩:=uK hv;obtain ⟨k,x,hk,his⟩:=h.2 i acc.toList[i] (by simp at hi ⊢);have hk2:(vs.map (·.1))[i]?=some k:=by rw [yN,hk];rfl
  rw [e,yN] at hk2;obtain ⟨z,_,rfl⟩:=yI.mp hk2;cases hv2:acc.toList[i] with
  |str y t=>exact ⟨y,t,rfl⟩
  |_=>rw [hv2] at his;cases his
 have h1:=strsAre_map acc.toList h0;have e2:acc.toList.map strOf=ss:=by
  apply List.ext_getElem?;intro i;rw [yN];by_cases hi:i<acc.size
  ·obtain ⟨k,x,hk,his⟩:=h.2 i acc[i] (Array.getElem?_eq_getElem hi);have hk2:(vs.map (·.1))[i]?=some k:=by rw [yN,hk];rfl
   rw [e,yN] at hk2;obtain ⟨z,hz,rfl⟩:=yI.mp hk2;obtain ⟨y,t,hy⟩:=h0 acc[i] (by simp);rw [hy] at his;have:y=z:=by have q:vh (Sum.inr z) (.str y t)=true:=his;have q2:=Yq y t;have q3:=(qF P w).inj (.str y t) (Sum.inr z) (Sum.inr y) his (YH P w y t);injection q3 with q3;exact q3.symm
   rw [hz,Array.getElem?_toList,Array.getElem?_eq_getElem hi,hy,<- this];rfl
  ·have h1:=h.1;rw [List.getElem?_eq_none (by simp;omega),List.getElem?_eq_none (by omega)];rfl
 rw [e2] at h1;exact h1
theorem LV (hS:StrsAre vs ss)(h64:vs.length<64)(h:∀ (h':Heap) (out:List Value) (ss':List Str) (e:Nat),(∀ b o,s.heap.get? b=some o->h'.get? b=some o)->h'.get? s.heap.objs.size=some (seqObj "list" out.toArray e)->StrsAre out ss'->ss'.Perm ss->sortedS ss'=true->Q (.ref s.heap.objs.size) { s with heap:=h' }):wpAny (model P w) A (newList vs >>= λl=>holding [l] (call (.builtin "list.sort") [l]) >>= λ_=>pure l) Q E s:=by
 refine yY (wpAny_newList ?_);have ho:(s.heap.push (seqObj "list" vs.toArray 0)).get? s.heap.objs.size=some (seqObj "list" vs.toArray 0):=yu _ rfl;refine yY (wpAny_holding (wpAny_call_entry slot_list_sort (s:={ s with heap:=s.heap.push (seqObj "list" vs.toArray 0) }) ⟨_,ho,rfl⟩ entry_list_sort
  (list_sort_treeK strKind_oneLt (s:={ s with heap:=s.heap.push (seqObj "list" vs.toArray 0) }) ho hS.keysOf (λv1 v2 rest e=>keyKind_strs (by rw [<- e];exact hS)) h64 λst p1 p2=>⟨_,rfl,?_⟩) (args_list_sort _)))
 obtain ⟨ss',a1,a2,a3⟩:=sorted_out_str hS p1 p2;obtain ⟨e,he⟩:=sortedHeap_at (out:=(arrOf st).map (·.2)) ho;refine yP (h _ _ ss' e (λb o hb=>?_) (by rw [Array.toArray_toList];exact he) a1 a2 a3);have hlt:=yQ hb;rw [sortedHeap_old (yH hlt) (by rw [Heap.size_push];exact Nat.lt_succ_of_lt hlt)];exact yU _ hb
theorem MX (hS:StrsAre vs ss)(h64:vs.length<64)(h:∀ (h':Heap) (out:List Value) (ss':List Str) (e:Nat),(∀ b o,s.heap.get? b=some o->h'.get? b=some o)->h'.get? s.heap.objs.size=some (seqObj "list" out.toArray e)->StrsAre out ss'->ss'.Perm ss->sortedS ss'=true->Q (.ref s.heap.objs.size) { s with heap:=h' }):wpAny (model P w) A (newList vs >>= λl=>holding [l] (call (.builtin "list.sort") [l] []) >>= λ_=>ret l) (λfin s'=>∃ v,fin=PySem.Fin.done (.ret v)/\Q v s') E s:=by
 refine yY (wpAny_newList ?_);have ho:(s.heap.push (seqObj "list" vs.toArray 0)).get? s.heap.objs.size=some (seqObj "list" vs.toArray 0):=yu _ rfl;refine yY (wpAny_holding (wpAny_call_entry slot_list_sort (s:={ s with heap:=s.heap.push (seqObj "list" vs.toArray 0) }) ⟨_,ho,rfl⟩ entry_list_sort
  (list_sort_treeK strKind_oneLt (s:={ s with heap:=s.heap.push (seqObj "list" vs.toArray 0) }) ho hS.keysOf (λv1 v2 rest e=>keyKind_strs (by rw [<- e];exact hS)) h64 λst p1 p2=>⟨_,rfl,?_⟩) (args_list_sort _)))
 obtain ⟨ss',a1,a2,a3⟩:=sorted_out_str hS p1 p2;obtain ⟨e,he⟩:=sortedHeap_at (out:=(arrOf st).map (·.2)) ho;refine yP ⟨_,rfl,h _ _ ss' e (λb o hb=>?_) (by rw [Array.toArray_toList];exact he) a1 a2 a3⟩;have hlt:=yQ hb;rw [sortedHeap_old (yH hlt) (by rw [Heap.size_push];exact Nat.lt_succ_of_lt hlt)];exact yU _ hb
theorem Km {K:Fg}(hc:X.calm=true)(hK:X.K=K):CallR X (.builtin "sorted") (Uq K):=by
 subst hK;intro pins s σ H xs us Q I r h;obtain ⟨a,ss,rfl,hq,h64,q⟩:=h;obtain ⟨u,rfl,ru⟩:=jw r;obtain rfl:u=Value.ref a:=ru;rcases hq with hq|⟨kvs,hq,hk⟩
 ·obtain ⟨its,rv,p,hz⟩:=I.list hq;have hS:=UN rv;have hl:its.length=ss.length:=by have e:=rv.length;rw [yZ] at e;exact e.symm
  refine sorted_strs p.isList hS (by omega) λout ss' a1 a2 a3=>?_;obtain ⟨e,he⟩:=sortedAll_at s.heap its out;refine ⟨.ref _,_,I.laid (t':=s.toks) (o:= .lst (ss'.map V.str)) (λb o hb=>sortedAll_old hb) (uB _) ?_,rfl,q _ ss' (I.hok.fresh (uB _)) a2 (UI a3)⟩;exact ⟨by rw [yZ,a2.length_eq];exact uQ (Qv (by omega)),out.toList,e,Vt a1,by simpa [seqObj] using he⟩
 ·obtain ⟨z,hd,vs,rel,dd⟩:=QY I.hok hq;obtain ⟨ep,hat⟩:=dd.dictAt;have ek:=BS rel hk;have hvl:vs.length=ss.length:=by have:=congrArg List.length ek;rwa [yZ,yZ] at this
  refine Calls.call_function_entry (id:="sorted") kind_sorted plain_sorted entry_sorted (args_sorted1 _) ?_;unfold Builtin.«sorted»;refine yY (m:=checkCount "sorted" 1 1 _) (yP ?_);refine yY (PySem.W.kdu_collect (PySem.W.kdl_dict (knd:=qF X.prog X.w) (kvs:=vs) (ep:=ep) hd) (by simpa using I.ok.hd hc) hat (uQ (Qv (by omega))) λh1 tk acc k1 hacc=>?_);have hS:=BF ek hacc;have hal:acc.toList.length=ss.length:=by have:=hacc.1;simp;omega
  refine MX (s:={ s with heap:=h1,toks:=tk }) hS (by omega) λh' out ss' e k2 he a1 a2 a3=>?_;have I1:Inv X pins σ H { s with heap:=h1,toks:=tk }:=I.kept (t':=tk) k1;refine ⟨.ref _,_,I1.laid (t':=tk) (o:= .lst (ss'.map V.str)) k2 (yS _) ?_,rfl,q _ ss' (I1.hok.fresh (yS _)) a2 (UI a3)⟩;exact ⟨by rw [yZ,a2.length_eq];exact uQ (Qv (by omega)),out,e,Vt a1,he⟩
end
end L2
namespace L2
open PySem PySem.Spec PySem.Calls
variable{a:Addr}{its:Array Value}{n:Nat}
section
variable {P:Program}{w:World}{A:Around}{E:Value->Shared->Prop}
theorem Ph:typeLookup (.type "list") "keys"=pure none:=am_miss_of_fast (by kernel_rfl)
theorem Pg:typeLookup (.type "list") "__getattr__"=pure none:=am_miss_of_fast (by kernel_rfl)
theorem Ba {hp:Heap}{g:Array GenState}{d:Drawn}{tk:Nat}{os:_}{u:Tok}{Q:PySem.Fin->Shared->Prop}(ho:hp.get? a=some { cls:= .type "list",data:= .seq its n })(hh:A.handled=none)(h:∀ h' tk' e,Heap.NewAttrErr hp h' e (.ref a) "keys"->E (.ref e) ⟨h',g,d,tk',os⟩):wpAny (model P w) A (Builtin.«object.__getattribute__» ⟨[.ref a,.str "keys" u],[]⟩) Q E ⟨hp,g,d,tk,os⟩:=by
 have hT:(⟨hp,g,d,tk,os⟩:Shared).TypeIs (.ref a) "list":=⟨_,ho,rfl⟩;have f0:=Ph;unfold Builtin.«object.__getattribute__»
 (repeat (any_goals (first|assumption|wp_step)))
 exact wpAny_raiseAttrError (s:=⟨hp,g,d,tk,os⟩) hh h (attrMsg_fits (by decide +kernel) (by decide +kernel))
theorem GL {s:Shared}{Q:Option Value->Shared->Prop}(ho:s.heap.get? a=some { cls:= .type "list",data:= .seq its n })(hh:A.handled=none)(h:∀ h' tk,(∀ b o,s.heap.get? b=some o->h'.get? b=some o)->Q none { s with heap:=h',toks:=tk }):wpAny (model P w) A (getAttr? (.ref a) "keys") Q E s:=by
 obtain ⟨hp,g,d,tk,os⟩:=s;have hT:∀ t',(⟨hp,g,d,t',os⟩:Shared).TypeIs (.ref a) "list":=λ_=>⟨_,ho,rfl⟩;have f1:=sub_AttributeError;have f2:=PySem.F.slot_list_getattribute.lookup;have f3:=PySem.F.slot_list_getattribute.bind (.ref a);have f5:=Pg;unfold getAttr? getAttrBy? getAttrBy
 (repeat (any_goals (first|assumption|exact hT _|wp_step)))
 refine codeAny_call_builtin PySem.F.slot_list_getattribute.plain PySem.F.entry_list_ga (PySem.F.slot_list_getattribute.check _ _ _ _ _ _ _ _ (hT _) (PySem.F.args_list_getattribute_2 _ _) (Ba ho (by simpa using hh) λh' tk' e hx=>?_));obtain ⟨t',u',he⟩:=hx.there;have hk:=hx.keeps;show wpAny _ _ (getattributeRaised _ _ _ _ _ _ _) _ _ _;unfold getattributeRaised
 (repeat (any_goals (first|assumption|wp_step)))
 exact h _ _ hk
end
end L2
namespace L2
open PySem PySem.Spec PySem.Calls PyProof.Rows
variable{A:Around}{s:Shared}
section
variable {P:Program}{w:World}{κ:Type}[DecidableEq κ]{knd:PySem.KeyKind P w κ}
theorem WV:entryFor table "dict.update.loop"=some Builtin.«dict.update.loop»:=entryFor_of_tree (by kernel_rfl)
theorem XC:plainId "dict.update.loop"=true:=by decide +kernel
theorem KA {R:Result->Shared->Prop}{I:Addr}{fp wr:List Addr}{Pp:Nat->Value->Prop}{St:Nat->Heap->Prop}{more:List (κ×Value)}{lo:Addr}(W:Walks P w A.in1 I fp wr more.length Pp St)(d:Addr)(hdf:d∉fp)(hlo:lo<=d)(hwr:∀ b∈wr,lo<=b)(hsz:more.length<=sizeLine):∀ (m i:Nat) (z:Int) (tk:Tok) (s:Shared),more.length-i=m->i<=more.length->St i s.heap->s.heap.DictOf knd d (merged [] (more.take i)) -> (∀ j v kv,Pp j v->more[j]?=some kv->∃ t k,t<lo/\v = .ref t/\knd.is kv.1 k=true/\IsTup s.heap t #[k,kv.2]) -> (∀ h' tk',(∀ b o,b<lo->s.heap.get? b=some o->h'.get? b=some o)->h'.DictOf knd d (merged [] more)->R (.ok (.ret .none)) { s with heap:=h',toks:=tk' }) -> codeAny (model P w) A (.builtin "dict.update.loop" ⟨[.ref d,.ref I,.int z tk,.none],[]⟩) R s:=by
 have hdw:d∉wr:=λq=>hdf (W.sub _ q);intro m
 induction m with
 |zero =>
  intro i z tk s hm hi st hd hp hR;have hin:i=more.length:=by omega
  subst hin;refine codeAny_builtin WV ?_;rw [Around.under_plainId XC _];show wpAny _ A.in1 (pyNext (.ref I) >>= _) _ _ s;refine yY (W.done s _ _ st λh' tk' k=>?_);show wpAny _ A.in1 (Builtin.Dict.addKeywords d [] >>= _) _ _ _;refine yY (yP ?_);refine yP (hR h' tk' (λb o hb e=>k b o (λq=>absurd (hwr b q) (Nat.not_le.mpr hb)) e) ?_);rw [List.take_length] at hd;obtain ⟨o,es,ep,ho,r⟩:=hd;exact ⟨o,es,ep,k d o hdw ho,r⟩
 |succ m ih =>
  intro i z tk s hm hi st hd hp hR;have hlt:i<more.length:=by omega
  refine codeAny_builtin WV ?_;rw [Around.under_plainId XC _];show wpAny _ A.in1 (pyNext (.ref I) >>= _) _ _ s;refine yY (W.item i s _ _ hlt st λv h' tk' hPv st' k=>?_);obtain ⟨t,kk,ht,rfl,hk,o,ho,hc,n,hdt⟩:=hp i v more[i] hPv (yA hlt);have ho':h'.get? t=some o:=k t o (λq=>absurd (hwr t q) (Nat.not_le.mpr ht)) ho;have hd':h'.DictOf knd d (merged [] (more.take i)):=by obtain ⟨o,es,ep,ho,r⟩:=hd;exact ⟨o,es,ep,k d o hdw ho,r⟩
  have hT:Shared.TypeIs { s with heap:=h',toks:=tk' } (.ref t) "tuple":=⟨o,ho',hc⟩;show wpAny _ A.in1 (holding [.ref t] _ >>= _) _ _ _;refine yY (wpAny_holding (yY (wpAny_tryCatch ?_)));unfold Builtin.Dict.pairItems;refine yY (wpAny_typeOf hT ?_);rw [if_pos (by decide)];refine yY (wpAny_seqItems ho' hdt (yP ?_));show wpAny _ A.in1 (holding [kk,more[i].2] (dictSet d kk more[i].2)) _ _ _;refine wpAny_holding (wpAny_dictSet_pairs (knd:=knd) hk hd' (λh2 hd2 sb=>?_) ?_)
  ·rw [<- merged_take_succ [] more i more[i] (yA hlt)] at hd2;have keep2:∀ b o,b<lo->s.heap.get? b=some o->h2.get? b=some o:=λb o hb e=>by
    rw [sb.2 b (yH (yE hb hlo))];exact k b o (λq=>absurd (hwr b q) (Nat.not_le.mpr hb)) e
   refine yP ⟨plainId_quiet XC _,ih (i+1) _ _ _ (by omega) hlt (W.frame _ _ _ st' λb hb o e=>?_) hd2 (λj v kv hv hj=>?_) λh3 tk3 k3 hd3=>?_⟩
   ·rw [sb.2 b (λq=>hdf (by rw [<- q];exact hb))];exact e
   ·obtain ⟨t,kk,ht,rfl,hk,o,ho,r⟩:=hp j v kv hv hj;exact ⟨t,kk,ht,rfl,hk,o,keep2 t o ht ho,r⟩
   ·exact hR h3 tk3 (λb o hb e=>k3 b o hb (keep2 b o hb e)) hd3
  ·have:=merged_length_le [] (more.take i);rw [List.length_take,List.length_nil] at this;omega
theorem Kc {E:Value->Shared->Prop}{l:Addr}{its:Array Value}{n:Nat}{more:List (κ×Value)}{Q:Value->Shared->Prop}(hh:A.handled=none)(ho:s.heap.get? l=some { cls:= .type "list",data:= .seq its n })(hlen:its.size=more.length)(hsz:more.length<=sizeLine)(hp:∀ (j:Nat) (v:Value) (kv:κ×Value),its[j]?=some v->more[j]?=some kv->∃ t k,v = .ref t/\knd.is kv.1 k=true/\IsTup s.heap t #[k,kv.2])(h:∀ h' tk',(∀ b o,s.heap.get? b=some o->h'.get? b=some o)->h'.DictOf knd s.heap.objs.size (merged [] more)->Q (.ref s.heap.objs.size) { s with heap:=h',toks:=tk' }):wpAny (model P w) A (call (.type "dict") [.ref l]) Q E s:=by
 refine callType_codes (Q₁:=λob s1=>ob = .ref s.heap.objs.size/\s1={ s with heap:=s.heap.push { cls:= .type "dict",data:= .dict #[] } }) PySem.F.kt_called_dict (PySem.F.kt_typeCall_dict_1 _) PySem.F.entry_dict_init (kt_code_dict_new _ ⟨rfl,rfl⟩) ?_;rintro ob s1 ⟨rfl,rfl⟩;have hnew:(s.heap.push { cls:= .type "dict",data:= .dict #[] }).DictOf knd s.heap.objs.size []:=Heap.DictOf.new s.heap;have ho':(s.heap.push { cls:= .type "dict",data:= .dict #[] }).get? l=some { cls:= .type "list",data:= .seq its n }:=yU _ ho;have hTl:Shared.TypeIs { s with heap:=s.heap.push { cls:= .type "dict",data:= .dict #[] } } (.ref l) "list":=⟨_,ho',rfl⟩;have hlt:l<s.heap.objs.size:=yQ ho;refine ⟨hnew.typeIs,PySem.F.args_dict_init_2 _ _,?_⟩;unfold Builtin.«dict.__init__»;refine yY ?_;unfold Builtin.Dict.selfAndRest;refine yY (wpAny_notOrdered_dict hnew.typeIs ?_);show wpAny _ _ (pure (s.heap.objs.size,[Value.ref l])) _ _ _;refine yP ?_;show wpAny _ _ (Builtin.Dict.updateFrom "dict.__init__" s.heap.objs.size (.ref l) [] .none) _ _ _;unfold Builtin.Dict.updateFrom;refine yY (wpAny_typeOf hTl ?_);rw [if_pos (by decide)];refine yY (GL ho' (by simpa using hh) λh1 tk1 k1=>?_);rw [if_pos (show (none:Option Value).isNone=true from rfl)];refine yY (wpAny_rule ?_);have ho1:=k1 _ _ ho';have hl1:h1.IsList l its:=⟨_,ho1,rfl,n,rfl⟩;refine yY (wpAny_pyIter_list (s:={ s with heap:=h1,toks:=tk1 }) hl1 ?_);have hd1:h1.DictOf knd s.heap.objs.size []:=by obtain ⟨o,es,ep,hq,r⟩:=hnew;exact ⟨o,es,ep,k1 _ _ hq,r⟩
 have hdlt:s.heap.objs.size<h1.objs.size:=by obtain ⟨o,es,ep,hq,r⟩:=hd1;exact yQ hq
 have hll:l<h1.objs.size:=yQ ho1;refine yP ⟨plainId_quiet XC _,?_⟩;have W:=Walks.list (prog:=P) (w:=w) (A:=A.in1.in1) (by simpa using hh) h1.objs.size l (yH hll) its;rw [hlen] at W;refine KA (knd:=knd) (lo:=s.heap.objs.size) W s.heap.objs.size ?_ (yS _) (λb hb=>?_) hsz more.length 0 _ _ { s with heap:=h1.push { cls:= .type "list_iterator",data:= .fields #[.ref l,.int 0 0] },toks:=tk1 } (by omega) (uZ _) ⟨⟨_,yu _ rfl,rfl,rfl⟩,hl1.push _⟩ ?_ (λj v kv hv hj=>?_) λh' tk' kp hd=>?_
 ·simp only [yJ,yG,or_false,not_or];exact ⟨yH hdlt,Nat.ne_of_gt hlt⟩
 ·rw [yO.mp hb];exact uQ hdlt
 ·obtain ⟨o,es,ep,hq,r⟩:=hd1;exact ⟨o,es,ep,yU _ hq,r⟩
 ·obtain ⟨t,k,rfl,hk,o,hto,r⟩:=hp j v kv hv hj;exact ⟨t,k,yQ hto,rfl,hk,o,yU _ (k1 _ _ (yU _ hto)),r⟩
 ·exact ⟨rfl,h h' tk' (λb o e=>kp b o (yQ e) (yU _ (k1 _ _ (yU _ e)))) hd⟩
end
section
variable {X:Cx}
theorem CV {pins:List (Addr×Obj)}{σ:St}{H:Hp}(I:Inv X pins σ H s){ts:List Addr}{kvs:List (v7×V)}(r:Paired (λt (kv:v7×V)=>H t=some (.tup [kV kv.1,kv.2])) ts kvs):∃ more:List (v7×Value),KV kvs more/\∀(j:Nat)(t:Addr)(m:v7×Value),ts[j]?=some t->more[j]?=some m->∃ k,(qF X.prog X.w).is m.1 k=true/\IsTup s.heap t #[k,m.2]:=by
 induction r with
 |nil=>exact ⟨[],.nil,λj t m h=>by simp at h⟩
 |@cons t kv ts kvs p _ ih =>
  obtain ⟨more,k1,k2⟩:=ih;obtain ⟨_,its,rv,ht⟩:=(show ObjOk X.prog X.w H s.heap t (.tup [kV kv.1,kv.2]) from I.hok t _ p);cases rv with
  |cons p1 r1 =>
   cases r1 with
   |cons p2 r2 =>
    cases r2;rename_i u1 u2;refine ⟨(kv.1,u2)::more,.cons ⟨rfl,p2⟩ k1,λj t' m h1 h2=>?_⟩;cases j with
    |zero=>simp at h1 h2;subst h1 h2;exact ⟨u1,Xk p1,ht⟩
    |succ j=>exact k2 j t' m (by simpa using h1) (by simpa using h2)
theorem Gk:∀{ts:List Addr}{us:List Value},Vals (ts.map V.ref) us->us=ts.map Value.ref
 |[],_,.nil=>rfl
 |t::ts,_,.cons p r=>by
  obtain rfl:=(show _=Value.ref t from p);rw [Gk r];rfl
theorem VC:∀{kvs:List (v7×V)}{vs:List (v7×Value)},KV kvs vs->vs.map (·.1)=kvs.map (·.1)
 |[],_,.nil=>rfl
 |_::_,_,.cons p r=>by rw [yF,yF,VC r,p.1]
end
section
variable {X:Cx}{tg:Expr}
def Uj:List V->Hp->VK->Prop:=λxs H Q=>∃(a:Addr)(ts:List Addr)(kvs:List (v7×V)),xs=[.ref a]/\H a=some (.lst (ts.map V.ref))/\Paired (λt (kv:v7×V)=>H t=some (.tup [kV kv.1,kv.2])) ts kvs/\(kvs.map (·.1)).Nodup/\kvs.length<=1000 /\
  ∀ l o,H l=none->Q (.ref l) (z6 H l (.frz o (.dK kvs)))
theorem WB {K:Fg}(hc:X.calm=true)(_:X.K=K):CallR X (.type "dict") Uj:=by
 intro pins s σ H xs us Q I r h;obtain ⟨a,ts,kvs,rfl,hq,hp,hn,h1000,q⟩:=h;obtain ⟨u,rfl,ru⟩:=jw r;obtain rfl:u=Value.ref a:=ru;obtain ⟨hz,its,n,rv,ho⟩:=(show ObjOk X.prog X.w H s.heap a (.lst (ts.map V.ref)) from I.hok a _ hq);have ei:=Gk rv;obtain ⟨more,k1,k2⟩:=CV I hp;have lk:more.length=kvs.length:=k1.length.symm;have lt:=hp.length;have hsl:more.length<=sizeLine:=uQ (Qv (by omega));refine Kc (knd:=qF X.prog X.w) (more:=more) (I.ok.hd hc) ho (by rw [yW,ei,yZ];omega) hsl (λj v m hv hm=>?_) λh' tk k hd=>?_
 ·have hv':its[j]?=some v:=by simpa using hv
  rw [ei,yN] at hv';obtain ⟨t,ht,rfl⟩:=yI.mp hv';obtain ⟨kk,x1,x2⟩:=k2 j t m ht hm;exact ⟨t,kk,rfl,x1,x2⟩
 ·rw [merged_nil_of_nodup more (by rw [VC k1];exact hn)] at hd;obtain ⟨o,es,ep,ho',_⟩:=id hd;refine ⟨.ref s.heap.objs.size,_,I.laid (t':=tk) (o:= .frz o (.dK kvs)) k (yS _) ⟨ho',WQ (by omega) (beq_eq_false_iff_ne.mpr (Ne.symm (yH I.big))) k1 hd⟩,rfl,q _ _ (I.hok.fresh (yS _))⟩
end
end L2
namespace Mi
open PySem L2
variable{fl:Bool}{H H' H0 Hb Hs Hs' Hs0:Hp}{ks:List g0}{u v:V}{C p:Addr}{ns:List Str}{vs:List V}{o:HO}{σ σ':St}{tb te:TE}{r:R2}{ta:TA}{n:Nat}{K:Fg}{t:TT}{E:XK}{nm:Str}{ts:List Nat}{lo:Int}{wi:TI}{tg:TG}
def KAs (fl:Bool)(H:Hp)(as:List Addr)(ks:List g0):Prop:=Paired (KeyH fl H) as ks
theorem KAs.keeps {as:List Addr}(x:KAs fl H as ks)(ht:∀ b xs,H b=some (.tup xs)->H' b=some (.tup xs)):KAs fl H' as ks:=Paired.mapP x λ_ _ z=>z.keeps ht
theorem KAs.mono {as:List Addr}(x:KAs fl H as ks)(g:Same H H'):KAs fl H' as ks:=x.keeps λ_ _ z=>g _ _ z
inductive PV where
 |at (v:V)|tup (xs:List PV)|lst (xs:List PV)|dk (ks:List v7) (xs:List PV)|dn (fl:Bool) (ks:List g0) (xs:List PV)|fn (fl:Bool) (ks:List g0) (xs:List PV)|fk (ks:List v7) (xs:List PV)|ob (C:Addr) (ns:List Str) (xs:List PV)|op (φ:Hp->V->Prop)
variable{xs:List PV}{x y:PV}{g:PV->PV->Option PV}{m:List PV->Option PV}
mutual
def Rep (H:Hp):PV->V->Prop
 | .at u,v=>v=u
 | .tup xs,v=>∃ a vs,v = .ref a/\H a=some (.tup vs)/\Reps H xs vs
 | .lst xs,v=>∃ a vs,v = .ref a/\H a=some (.lst vs)/\Reps H xs vs
 | .dk ks xs,v=>∃ a kvs,v = .ref a/\H a=some (.dK kvs)/\kvs.map (·.1)=ks/\Reps H xs (kvs.map (·.2))
 | .dn fl ks xs,v=>∃ a as kvs,v = .ref a/\H a=some (.dT fl as kvs)/\(kvs.map (·.1)=ks/\KAs fl H as ks)/\Reps H xs (kvs.map (·.2))
 | .fn fl ks xs,v=>∃ a o as kvs,v = .ref a/\H a=some (.frz o (.dT fl as kvs))/\(kvs.map (·.1)=ks/\KAs fl H as ks)/\Reps H xs (kvs.map (·.2))
 | .fk ks xs,v=>∃ a o kvs,v = .ref a/\H a=some (.frz o (.dK kvs))/\kvs.map (·.1)=ks/\Reps H xs (kvs.map (·.2))
 | .ob C ns xs,v=>∃ a dx fs,v = .ref a/\H a=some (.ins C dx fs)/\fs.map (·.1)=ns/\Reps H xs (fs.map (·.2))
 | .op φ,v=>∃ H',Same H' H/\φ H' v
def Reps (H:Hp):List PV->List V->Prop
 |[],vs=>vs=[]
 |x::xs,vs=>∃ v r,vs=v::r/\Rep H x v/\Reps H xs r
end
mutual
theorem Rep.mono {H H':Hp}(g:Same H H'):∀{x:PV}{v:V},Rep H x v->Rep H' x v
 | .at u,v,h=>by unfold Rep at h ⊢;exact h
 | .tup xs,v,h=>by unfold Rep at h ⊢;obtain ⟨a,vs,e,p,r⟩:=h;exact ⟨a,vs,e,g _ _ p,Reps.mono g r⟩
 | .lst xs,v,h=>by unfold Rep at h ⊢;obtain ⟨a,vs,e,p,r⟩:=h;exact ⟨a,vs,e,g _ _ p,Reps.mono g r⟩
 | .dk ks xs,v,h=>by unfold Rep at h ⊢;obtain ⟨a,vs,e,p,q,r⟩:=h;exact ⟨a,vs,e,g _ _ p,q,Reps.mono g r⟩
 | .dn fl ks xs,v,h=>by unfold Rep at h ⊢;obtain ⟨a,as,vs,e,p,q,r⟩:=h;exact ⟨a,as,vs,e,g _ _ p,⟨q.1,q.2.mono g⟩,Reps.mono g r⟩
 | .fn fl ks xs,v,h=>by unfold Rep at h ⊢;obtain ⟨a,o,as,vs,e,p,q,r⟩:=h;exact ⟨a,o,as,vs,e,g _ _ p,⟨q.1,q.2.mono g⟩,Reps.mono g r⟩
 | .fk ks xs,v,h=>by unfold Rep at h ⊢;obtain ⟨a,o,vs,e,p,q,r⟩:=h;exact ⟨a,o,vs,e,g _ _ p,q,Reps.mono g r⟩
 | .ob C ns xs,v,h=>by unfold Rep at h ⊢;obtain ⟨a,dx,vs,e,p,q,r⟩:=h;exact ⟨a,dx,vs,e,g _ _ p,q,Reps.mono g r⟩
 | .op φ,v,h=>by unfold Rep at h ⊢;obtain ⟨H1,s,p⟩:=h;exact ⟨H1,s.trans g,p⟩
theorem Reps.mono {H H':Hp}(g:Same H H'):∀{xs:List PV}{vs:List V},Reps H xs vs->Reps H' xs vs
 |[],vs,h=>by unfold Reps at h ⊢;exact h
 |x::xs,vs,h=>by unfold Reps at h ⊢;obtain ⟨v,r,e,p,q⟩:=h;exact ⟨v,r,e,Rep.mono g p,Reps.mono g q⟩
end
theorem rep_at :Rep H (.at u) v↔v=u:=by unfold Rep;exact Iff.rfl
theorem rep_tup :Rep H (.tup xs) v↔∃ a vs,v = .ref a/\H a=some (.tup vs)/\Reps H xs vs:=by unfold Rep;exact Iff.rfl
theorem rep_lst :Rep H (.lst xs) v↔∃ a vs,v = .ref a/\H a=some (.lst vs)/\Reps H xs vs:=by unfold Rep;exact Iff.rfl
theorem rep_dk {ks:List v7}:Rep H (.dk ks xs) v↔∃ a kvs,v = .ref a/\H a=some (.dK kvs)/\kvs.map (·.1)=ks/\Reps H xs (kvs.map (·.2)):=by unfold Rep;exact Iff.rfl
theorem rep_dn :Rep H (.dn fl ks xs) v↔∃ a as kvs,v = .ref a/\H a=some (.dT fl as kvs)/\(kvs.map (·.1)=ks/\KAs fl H as ks)/\Reps H xs (kvs.map (·.2)):=by unfold Rep;exact Iff.rfl
theorem rep_fn :Rep H (.fn fl ks xs) v↔∃ a o as kvs,v = .ref a/\H a=some (.frz o (.dT fl as kvs))/\(kvs.map (·.1)=ks/\KAs fl H as ks)/\Reps H xs (kvs.map (·.2)):=by unfold Rep;exact Iff.rfl
theorem rep_fk {ks:List v7}:Rep H (.fk ks xs) v↔∃ a o kvs,v = .ref a/\H a=some (.frz o (.dK kvs))/\kvs.map (·.1)=ks/\Reps H xs (kvs.map (·.2)):=by unfold Rep;exact Iff.rfl
theorem rep_ob :Rep H (.ob C ns xs) v↔∃ a dx fs,v = .ref a/\H a=some (.ins C dx fs)/\fs.map (·.1)=ns/\Reps H xs (fs.map (·.2)):=by unfold Rep;exact Iff.rfl
theorem rep_op {φ:Hp->V->Prop}:Rep H (.op φ) v↔∃ H',Same H' H/\φ H' v:=by unfold Rep;exact Iff.rfl
theorem reps_nil :Reps H [] vs↔vs=[]:=by unfold Reps;exact Iff.rfl
theorem reps_cons :Reps H (x::xs) vs↔∃ v r,vs=v::r/\Rep H x v/\Reps H xs r:=by
 constructor
 ·intro h;unfold Reps at h;exact h
 ·intro h;unfold Reps;exact h
theorem Reps.nil :Reps H [] []:=reps_nil.mpr rfl
theorem Reps.cons {H:Hp}{x:PV}{v:V}{xs:List PV}{vs:List V}(p:Rep H x v)(q:Reps H xs vs):Reps H (x::xs) (v::vs):=reps_cons.mpr ⟨v,vs,rfl,p,q⟩
theorem Reps.length {H:Hp}:∀{xs:List PV}{vs:List V},Reps H xs vs->vs.length=xs.length
 |[],vs,h=>by rw [reps_nil.mp h];rfl
 |x::xs,vs,h=>by obtain ⟨v,r,rfl,_,q⟩:=reps_cons.mp h;rw [yz,yz,Reps.length q]
theorem Reps.append {H:Hp}:∀{xs ys:List PV}{vs ws:List V},Reps H xs vs->Reps H ys ws->Reps H (xs++ys) (vs++ws)
 |[],ys,vs,ws,h,k=>by rw [reps_nil.mp h];exact k
 |x::xs,ys,vs,ws,h,k=>by obtain ⟨v,r,rfl,p,q⟩:=reps_cons.mp h;exact .cons p (Reps.append q k)
theorem Reps.one (p:Rep H x v):Reps H [x] [v]:= .cons p .nil
theorem Reps.get {H:Hp}:∀{xs:List PV}{vs:List V}{i:Nat}{x:PV},Reps H xs vs->xs[i]?=some x->∃ v,vs[i]?=some v/\Rep H x v
 |[],_,i,x,_,e=>by simp at e
 |y::xs,vs,0,x,h,e=>by
  obtain ⟨v,r,rfl,p,q⟩:=reps_cons.mp h;simp at e;subst e;exact ⟨v,rfl,p⟩
 |y::xs,vs,i+1,x,h,e=>by
  obtain ⟨v,r,rfl,p,q⟩:=reps_cons.mp h;obtain ⟨w,e1,e2⟩:=Reps.get (i:=i) (x:=x) q (by simpa using e);exact ⟨w,by simpa using e1,e2⟩
theorem Reps.take {H:Hp}:∀(n:Nat){xs:List PV}{vs:List V},Reps H xs vs->Reps H (xs.take n) (vs.take n)
 |0,_,_,_=>by rw [List.take_zero,List.take_zero];exact .nil
 |n+1,[],vs,h=>by rw [reps_nil.mp h];exact .nil
 |n+1,x::xs,vs,h=>by
  obtain ⟨v,r,rfl,p,q⟩:=reps_cons.mp h;exact .cons p (Reps.take n q)
theorem Reps.drop {H:Hp}:∀(n:Nat){xs:List PV}{vs:List V},Reps H xs vs->Reps H (xs.drop n) (vs.drop n)
 |0,_,_,h=>h
 |n+1,[],vs,h=>by rw [reps_nil.mp h];exact .nil
 |n+1,x::xs,vs,h=>by
  obtain ⟨v,r,rfl,p,q⟩:=reps_cons.mp h;exact Reps.drop n q
theorem Reps.set {H:Hp}{y:PV}{w:V}(r:Rep H y w):∀(i:Nat){xs:List PV}{vs:List V},Reps H xs vs->Reps H (xs.set i y) (vs.set i w)
 |_,[],vs,h=>by rw [reps_nil.mp h];exact .nil
 |0,x::xs,vs,h=>by
  obtain ⟨v,r',rfl,p,q⟩:=reps_cons.mp h;exact .cons r q
 |i+1,x::xs,vs,h=>by
  obtain ⟨v,r',rfl,p,q⟩:=reps_cons.mp h;exact .cons p (Reps.set r i q)
theorem Reps.ats {H:Hp}:∀{us vs:List V},Reps H (us.map .at) vs->vs=us
 |[],vs,h=>reps_nil.mp h
 |u::us,vs,h=>by
  obtain ⟨v,r,rfl,p,q⟩:=reps_cons.mp h;rw [rep_at.mp p,Reps.ats q]
theorem Reps.ofAts {H:Hp}:∀(us:List V),Reps H (us.map .at) us
 |[]=> .nil
 |u::us=> .cons (rep_at.mpr rfl) (Reps.ofAts us)
structure Ext (Hs H Hs' H':Hp):Prop where
 s1:Same Hs Hs'
 s2:Same H H'
 s3:Same Hs' H'
 s4:∀ b,H b≠none->Hs b=none->Hs' b=none
theorem wF (g:Same H H'){b:Addr}(h:H b≠none):H' b≠none:=λz=>h (g.free z)
theorem Ext.refl (s:Same Hs H):Ext Hs H Hs H:=⟨.refl _,.refl _,s,λ_ _ z=>z⟩
theorem Ext.trans {A B A1 B1 A2 B2:Hp}(x:Ext A B A1 B1)(y:Ext A1 B1 A2 B2):Ext A B A2 B2:=⟨x.s1.trans y.s1,x.s2.trans y.s2,y.s3,λb h z=>y.s4 b (wF x.s2 h) (x.s4 b h z)⟩
theorem Ext.new (s:Same Hs H)(h:H p=none):Ext Hs H (z6 Hs p o) (z6 H p o):=by
 have hs:Hs p=none:=s.free h;refine ⟨λb u e=>?_,λb u e=>?_,λb u e=>?_,λb e z=>?_⟩
 ·rw [z7 (w6 e hs)];exact e
 ·rw [z7 (w6 e h)];exact e
 ·by_cases hb:b=p
  ·subst hb;rw [v3] at e ⊢;exact e
  ·rw [z7 hb] at e ⊢;exact s _ _ e
 ·have hb:b≠p:=λq=>e (by rw [q];exact h);rw [z7 hb];exact z
theorem Ext.newO (s:Same Hs H)(h:H p=none):Ext Hs H Hs (z6 H p o) :=
 ⟨.refl _,λb u e=>by rw [z7 (w6 e h)];exact e,λb u e=>by rw [z7 (w6 (s _ _ e) h)];exact s _ _ e,λ_ _ z=>z⟩
def Top (Hs H:Hp)(a:Addr):PV->Prop
 | .lst xs=>∃ vs,H a=some (.lst vs)/\Reps Hs xs vs
 | .dk ks xs=>∃ kvs,H a=some (.dK kvs)/\kvs.map (·.1)=ks/\Reps Hs xs (kvs.map (·.2))
 | .dn fl ks xs=>∃ as kvs,H a=some (.dT fl as kvs)/\(kvs.map (·.1)=ks/\KAs fl Hs as ks)/\Reps Hs xs (kvs.map (·.2))
 | .fn fl ks xs=>∃ o as kvs,H a=some (.frz o (.dT fl as kvs))/\(kvs.map (·.1)=ks/\KAs fl Hs as ks)/\Reps Hs xs (kvs.map (·.2))
 | .ob C ns xs=>∃ dx fs,H a=some (.ins C dx fs)/\fs.map (·.1)=ns/\Reps Hs xs (fs.map (·.2))
 |_=>False
theorem Top.there {a:Addr}:∀{x:PV},Top Hs H a x->H a≠none
 | .lst _,h,z=>by obtain ⟨vs,e,_⟩:=h;rw [e] at z;cases z
 | .dk _ _,h,z=>by obtain ⟨vs,e,_⟩:=h;rw [e] at z;cases z
 | .dn _ _ _,h,z=>by obtain ⟨as,vs,e,_⟩:=h;rw [e] at z;cases z
 | .fn _ _ _,h,z=>by obtain ⟨o,as,vs,e,_⟩:=h;rw [e] at z;cases z
 | .ob _ _ _,h,z=>by obtain ⟨dx,vs,e,_⟩:=h;rw [e] at z;cases z
theorem Top.mono {a:Addr}(g:Same Hs Hs')(e:∀ o,H a=some o->H' a=some o):∀{x:PV},Top Hs H a x->Top Hs' H' a x
 | .lst _,h=>by obtain ⟨vs,q,r⟩:=h;exact ⟨vs,e _ q,r.mono g⟩
 | .dk _ _,h=>by obtain ⟨vs,q,k,r⟩:=h;exact ⟨vs,e _ q,k,r.mono g⟩
 | .dn _ _ _,h=>by obtain ⟨as,vs,q,k,r⟩:=h;exact ⟨as,vs,e _ q,⟨k.1,k.2.mono g⟩,r.mono g⟩
 | .fn _ _ _,h=>by obtain ⟨o,as,vs,q,k,r⟩:=h;exact ⟨o,as,vs,e _ q,⟨k.1,k.2.mono g⟩,r.mono g⟩
 | .ob _ _ _,h=>by obtain ⟨dx,vs,q,k,r⟩:=h;exact ⟨dx,vs,e _ q,k,r.mono g⟩
theorem Top.rep {a:Addr}:∀{x:PV},Top Hs H a x->Hs a=none->∃ o,H a=some o/\Rep (z6 Hs a o) x (.ref a)
 | .lst _,h,n=>by
  obtain ⟨vs,q,r⟩:=h;exact ⟨_,q,rep_lst.mpr ⟨a,vs,rfl,v3,r.mono λb u e=>by rw [z7 (w6 e n)];exact e⟩⟩
 | .dk _ _,h,n=>by
  obtain ⟨vs,q,k,r⟩:=h;exact ⟨_,q,rep_dk.mpr ⟨a,vs,rfl,v3,k,r.mono λb u e=>by rw [z7 (w6 e n)];exact e⟩⟩
 | .dn fl _ _,h,n=>by
  obtain ⟨as,vs,q,k,r⟩:=h;have g:Same Hs (z6 Hs a (.dT fl as vs)):=λb u e=>by rw [z7 (w6 e n)];exact e
  exact ⟨_,q,rep_dn.mpr ⟨a,as,vs,rfl,v3,⟨k.1,k.2.mono g⟩,r.mono g⟩⟩
 | .fn fl _ _,h,n=>by
  obtain ⟨o,as,vs,q,k,r⟩:=h;have g:Same Hs (z6 Hs a (.frz o (.dT fl as vs))):=λb u e=>by rw [z7 (w6 e n)];exact e
  exact ⟨_,q,rep_fn.mpr ⟨a,o,as,vs,rfl,v3,⟨k.1,k.2.mono g⟩,r.mono g⟩⟩
 | .ob _ _ _,h,n=>by
  obtain ⟨dx,vs,q,k,r⟩:=h;exact ⟨_,q,rep_ob.mpr ⟨a,dx,vs,rfl,v3,k,r.mono λb u e=>by rw [z7 (w6 e n)];exact e⟩⟩
theorem Ext.share {a:Addr}(x:Ext Hs H Hs' H')(h:H a=none)(n:Hs' a=none)(e:H' a=some o):Ext Hs H (z6 Hs' a o) H':=by
 refine ⟨λb u q=>?_,x.s2,λb u q=>?_,λb q z=>?_⟩
 ·rw [z7 (w6 (x.s1 _ _ q) n)];exact x.s1 _ _ q
 ·by_cases hb:b=a
  ·subst hb;rw [v3] at q;cases q;exact e
  ·rw [z7 hb] at q;exact x.s3 _ _ q
 ·have hb:b≠a:=λr=>q (by rw [r];exact h);rw [z7 hb];exact x.s4 b q z
def RepB (Hs H:Hp)(x:PV)(v:V):Prop:=Rep Hs x v∨∃ a,v = .ref a/\Hs a=none/\Top Hs H a x
theorem RepB.ext (e:Ext Hs H Hs' H')(h:RepB Hs H x v):RepB Hs' H' x v:=by
 rcases h with h|⟨a,rfl,n,t⟩
 ·exact .inl (h.mono e.s1)
 ·exact .inr ⟨a,rfl,e.s4 a t.there n,t.mono e.s1 λo q=>e.s2 _ _ q⟩
inductive MSlot where
 |no|sh (x:PV)|ow (x:PV)|bo (x:PV)
abbrev ME:=List MSlot
variable{ε:ME}
def Own (H0 Hs H:Hp)(a:Addr)(x:PV):Prop:=H0 a=none/\Hs a=none/\Top Hs H a x
structure RS (Hs0 H0 Hs H:Hp)(σ:St)(ε:ME):Prop where
 ext:Ext Hs0 H0 Hs H
 sh:∀(i:Nat)(x:PV),ε[i]?=some (.sh x)->∃ v,σ[i]?=some (some v)/\Rep Hs x v
 ow:∀(i:Nat)(x:PV),ε[i]?=some (.ow x)->∃ a,σ[i]?=some (some (.ref a))/\Own H0 Hs H a x
 nd:∀(i j:Nat)(x y:PV)(a:Addr),ε[i]?=some (.ow x)->ε[j]?=some (.ow y)->σ[i]?=some (some (.ref a))->σ[j]?=some (some (.ref a))->i=j
 len:σ.length=ε.length
 bo:∀(i:Nat)(x:PV),ε[i]?=some (.bo x)->∃ v,σ[i]?=some (some v)/\(Rep Hs x v∨∃ a,v = .ref a/\H0 a≠none/\Hs a=none/\Top Hs H a x)
section
variable {Hs0 H0 Hs H Hs' H':Hp}{σ:St}{ε:ME}
theorem RS.go (r:RS Hs0 H0 Hs H σ ε)(e:Ext Hs H Hs' H'):RS Hs0 H0 Hs' H' σ ε where
 ext:=r.ext.trans e
 sh:=λi x q=>by obtain ⟨v,a,b⟩:=r.sh i x q;exact ⟨v,a,b.mono e.s1⟩
 ow:=λi x q=>by
  obtain ⟨a,b,n0,n,t⟩:=r.ow i x q;exact ⟨a,b,n0,e.s4 a t.there n,t.mono e.s1 λo z=>e.s2 _ _ z⟩
 nd:=r.nd
 len:=r.len
 bo:=λi x q=>by
  obtain ⟨v,b,h|⟨a,rfl,n0,n,t⟩⟩:=r.bo i x q
  ·exact ⟨v,b,.inl (h.mono e.s1)⟩
  ·exact ⟨_,b,.inr ⟨a,rfl,n0,e.s4 a t.there n,t.mono e.s1 λo z=>e.s2 _ _ z⟩⟩
theorem RS.sub (r:RS Hs0 H0 Hs H σ ε):Same Hs H:=r.ext.s3
theorem RS.rebase (r:RS Hs0 H0 Hs H σ ε):RS Hs H0 Hs H σ ε:=⟨⟨.refl _,r.ext.s2,r.ext.s3,λ_ _ z=>z⟩,r.sh,r.ow,r.nd,r.len,r.bo⟩
theorem Ext.unbase (r:Ext Hs0 H0 Hb H)(e:Ext Hb H0 Hs' H'):Ext Hs0 H0 Hs' H':=⟨r.s1.trans e.s1,e.s2,e.s3,λb h z=>e.s4 b h (r.s4 b h z)⟩
theorem RS.unbase {ε':ME}(r:Ext Hs0 H0 Hb H)(e:RS Hb H0 Hs' H' σ' ε'):RS Hs0 H0 Hs' H' σ' ε':=⟨r.unbase e.ext,e.sh,e.ow,e.nd,e.len,e.bo⟩
theorem RS.put (r:RS Hs0 H0 Hs H σ ε){i:Nat}(h:Rep Hs x v):RS Hs0 H0 Hs H (σ.set i (some v)) (ε.set i (.sh x)) where
 ext:=r.ext
 sh:=λj y q=>by
  rw [yK] at q ⊢;split at q
  ·rename_i hij;split at q
   ·rename_i hl;injection q with q;injection q with q;subst q;rw [if_pos hij,if_pos (by rw [r.len,hij];rw [hij] at hl;exact hl)];exact ⟨v,rfl,h⟩
   ·cases q
  ·rename_i hij;rw [if_neg hij];exact r.sh j y q
 ow:=λj y q=>by
  rw [yK] at q ⊢;split at q
  ·split at q<;>cases q
  ·rename_i hij;rw [if_neg hij];exact r.ow j y q
 nd:=λj k x y a h1 h2 h3 h4=>by
  rw [yK] at h1 h2 h3 h4;split at h1
  ·split at h1<;>cases h1
  ·rename_i hj;rw [if_neg hj] at h3;split at h2
   ·split at h2<;>cases h2
   ·rename_i hk;rw [if_neg hk] at h4;exact r.nd j k x y a h1 h2 h3 h4
 len:=by rw [yw,yw,r.len]
 bo:=λj y q=>by
  rw [yK] at q ⊢;split at q
  ·split at q<;>cases q
  ·rename_i hij;rw [if_neg hij];exact r.bo j y q
theorem RS.putO (r:RS Hs0 H0 Hs H σ ε){i:Nat}{a:Addr}(h:Own H0 Hs H a x)(ne:∀(j:Nat)(y:PV),ε[j]?=some (.ow y)->σ[j]?≠some (some (.ref a))):RS Hs0 H0 Hs H (σ.set i (some (.ref a))) (ε.set i (.ow x)) where
 ext:=r.ext
 sh:=λj y q=>by
  rw [yK] at q ⊢;split at q
  ·split at q<;>cases q
  ·rename_i hij;rw [if_neg hij];exact r.sh j y q
 ow:=λj y q=>by
  rw [yK] at q ⊢;split at q
  ·rename_i hij;split at q
   ·rename_i hl;injection q with q;injection q with q;subst q;rw [if_pos hij,if_pos (by rw [r.len,hij];rw [hij] at hl;exact hl)];exact ⟨a,rfl,h⟩
   ·cases q
  ·rename_i hij;rw [if_neg hij];exact r.ow j y q
 nd:=λj k x' y b h1 h2 h3 h4=>by
  rw [yK] at h1 h2 h3 h4;split at h1
  ·rename_i hj;rw [if_pos hj] at h3;split at h1
   ·rename_i hl;rw [if_pos (by rw [r.len];exact hl)] at h3;injection h3 with h3;injection h3 with h3;injection h3 with h3;subst h3;split at h2
    ·rename_i hk;exact hj.symm.trans hk
    ·rename_i hk;rw [if_neg hk] at h4;exact absurd h4 (ne k y h2)
   ·cases h1
  ·rename_i hj;rw [if_neg hj] at h3;split at h2
   ·rename_i hk;rw [if_pos hk] at h4;split at h2
    ·rename_i hl;rw [if_pos (by rw [r.len];exact hl)] at h4;injection h4 with h4;injection h4 with h4;injection h4 with h4;subst h4;exact absurd h3 (ne j x' h1)
    ·cases h2
   ·rename_i hk;rw [if_neg hk] at h4;exact r.nd j k x' y b h1 h2 h3 h4
 len:=by rw [yw,yw,r.len]
 bo:=λj y q=>by
  rw [yK] at q ⊢;split at q
  ·split at q<;>cases q
  ·rename_i hij;rw [if_neg hij];exact r.bo j y q
theorem RS.change (r:RS Hs0 H0 Hs H σ ε){i:Nat}{a:Addr}(hi:ε[i]?=some (.ow x))(ha:σ[i]?=some (some (.ref a)))(t:Top Hs (z6 H a o) a y):RS Hs0 H0 Hs (z6 H a o) σ (ε.set i (.ow y)):=by
 obtain ⟨b,hb,n0,n,tx⟩:=r.ow i x hi;rw [ha] at hb;injection hb with hb;injection hb with hb;injection hb with hb;subst hb;refine ⟨⟨r.ext.s1,λb u e=>?_,λb u e=>?_,r.ext.s4⟩,λj z q=>?_,λj z q=>?_,λj k z z' c h1 h2 h3 h4=>?_,by rw [yw,r.len],λj z q=>?_⟩
 ·rw [z7 (w6 e n0)];exact r.ext.s2 _ _ e
 ·rw [z7 (w6 e n)];exact r.ext.s3 _ _ e
 ·rw [yK] at q;split at q
  ·split at q<;>cases q
  ·exact r.sh j z q
 ·rw [yK] at q;split at q
  ·rename_i hij;split at q
   ·injection q with q;injection q with q;subst q;exact ⟨a,hij▸ha,n0,n,t⟩
   ·cases q
  ·rename_i hij;obtain ⟨c,hc,m0,m,tc⟩:=r.ow j z q;have hne:c≠a:=λe=>hij (r.nd i j x z a hi q ha (e▸hc));exact ⟨c,hc,m0,m,tc.mono (.refl _) λo' e=>by rw [z7 hne];exact e⟩
 ·have down:∀{m:Nat}{w:PV},(ε.set i (.ow y))[m]?=some (.ow w)->∃ w',ε[m]?=some (.ow w'):=by
   intro m w q;rw [yK] at q;split at q
   ·rename_i him;exact ⟨x,him▸hi⟩
   ·exact ⟨w,q⟩
  obtain ⟨w1,q1⟩:=down h1;obtain ⟨w2,q2⟩:=down h2;exact r.nd j k w1 w2 c q1 q2 h3 h4
 ·rw [yK] at q;split at q
  ·split at q<;>cases q
  ·obtain ⟨v,hv,h|⟨c,rfl,m0,m,tc⟩⟩:=r.bo j z q
   ·exact ⟨v,hv,.inl h⟩
   ·have hne:c≠a:=λe=>m0 (e▸n0);exact ⟨_,hv,.inr ⟨c,rfl,m0,m,tc.mono (.refl _) λo' e=>by rw [z7 hne];exact e⟩⟩
def fz (i:Nat)(ε:ME):ME:=match ε[i]? with
 |some (.ow x)=>ε.set i (.sh x)
 |_=>ε
theorem RS.freeze (r:RS Hs0 H0 Hs H σ ε)(i:Nat):∃ Hs',Same Hs Hs'/\RS Hs0 H0 Hs' H σ (fz i ε):=by
 unfold fz;split
 ·rename_i x hi;obtain ⟨a,ha,n0,n,t⟩:=r.ow i x hi;obtain ⟨o,ho,hr⟩:=t.rep n;have g:Same Hs (z6 Hs a o):=λb u e=>by rw [z7 (w6 e n)];exact e
  refine ⟨z6 Hs a o,g,⟨r.ext.s1.trans g,r.ext.s2,λb u e=>?_,λb h z=>?_⟩,λj y q=>?_,λj y q=>?_,λj k z z' c h1 h2 h3 h4=>?_,by rw [yw,r.len],λj y q=>?_⟩
  ·by_cases hb:b=a
   ·subst hb;rw [v3] at e;cases e;exact ho
   ·rw [z7 hb] at e;exact r.ext.s3 _ _ e
  ·have hb:b≠a:=λe=>h (e▸n0);rw [z7 hb];exact r.ext.s4 b h z
  ·rw [yK] at q;split at q
   ·rename_i hij;split at q
    ·injection q with q;injection q with q;subst q;exact ⟨.ref a,hij▸ha,hr⟩
    ·cases q
   ·obtain ⟨v,e,w⟩:=r.sh j y q;exact ⟨v,e,w.mono g⟩
  ·rw [yK] at q;split at q
   ·split at q<;>cases q
   ·rename_i hij;obtain ⟨c,hc,m0,m,tc⟩:=r.ow j y q;have hne:c≠a:=λe=>hij (r.nd i j x y a hi q ha (e▸hc));exact ⟨c,hc,m0,by rw [z7 hne];exact m,tc.mono g λ_ e=>e⟩
  ·have down:∀{m:Nat}{w:PV},(ε.set i (.sh x))[m]?=some (.ow w)->ε[m]?=some (.ow w):=by
    intro m w q;rw [yK] at q;split at q
    ·split at q<;>cases q
    ·exact q
   exact r.nd j k z z' c (down h1) (down h2) h3 h4
  ·rw [yK] at q;split at q
   ·split at q<;>cases q
   ·obtain ⟨v,hv,h|⟨c,rfl,m0,m,tc⟩⟩:=r.bo j y q
    ·exact ⟨v,hv,.inl (h.mono g)⟩
    ·have hne:c≠a:=λe=>m0 (e▸n0);exact ⟨_,hv,.inr ⟨c,rfl,m0,by rw [z7 hne];exact m,tc.mono g λ_ e=>e⟩⟩
 ·exact ⟨Hs,.refl _,r⟩
end
theorem Qj {j:Nat}{s:MSlot}(h:∀(i:Nat)(x:PV),ε[i]?≠some (.bo x))(hs:∀ x,s ≠ .bo x):∀(i:Nat)(x:PV),(ε.set j s)[i]?≠some (.bo x):=λi x q=>by
 rw [yK] at q;split at q
 ·split at q
  ·injection q with q;exact hs x q
  ·cases q
 ·exact h i x q
abbrev M:=ME->Option PV
variable{a b:M}
abbrev MB:=ME->Option Bool
variable{c:MB}
abbrev MA:=ME->Option (List PV)
variable{as f:MA}
class SemE (te:TE)(f:M):Prop where
 h:∀{ε y},f ε=some y->∀{Hs0 H0 Hs H σ},RS Hs0 H0 Hs H σ ε->∀{Q:VK},(∀ v Hs' H',Ext Hs H Hs' H'->Rep Hs' y v->Q v H')->te σ H Q
class i7 (te:TE)(f:M):Prop where
 h:∀{ε y},f ε=some y->∀{Hs0 H0 Hs H σ},RS Hs0 H0 Hs H σ ε->∀{Q:VK},(∀ v Hs' H',Ext Hs H Hs' H'->RepB Hs' H' y v->Q v H')->te σ H Q
class xp (te:TE)(f:M):Prop where
 h:∀{ε y},f ε=some y->∀{Hs0 H0 Hs H σ},RS Hs0 H0 Hs H σ ε->∀{Q:VK},(∀ a Hs' H',Ext Hs H Hs' H'->H a=none->Hs' a=none->Top Hs' H' a y->Q (.ref a) H')->te σ H Q
class qk (tt:TT)(f:MB):Prop where
 h:∀{ε y},f ε=some y->∀{Hs0 H0 Hs H σ},RS Hs0 H0 Hs H σ ε->∀{Q:Bool->Hp->Prop},(∀ Hs' H',Ext Hs H Hs' H'->Q y H')->tt σ H Q
class o5 (ta:TA)(f:MA):Prop where
 h:∀{ε ys},f ε=some ys->∀{Hs0 H0 Hs H σ},RS Hs0 H0 Hs H σ ε->∀{Q:List V->Hp->Prop},(∀ vs Hs' H',Ext Hs H Hs' H'->Reps Hs' ys vs->Q vs H')->ta σ H Q
def vQ (Hs H:Hp):List PV->List V->Prop
 |[],vs=>vs=[]
 |x::xs,vs=>∃ v r,vs=v::r/\RepB Hs H x v/\vQ Hs H xs r
class wQ (ta:TA)(f:MA):Prop where
 h:∀{ε ys},f ε=some ys->∀{Hs0 H0 Hs H σ},RS Hs0 H0 Hs H σ ε->∀{Q:List V->Hp->Prop},(∀ vs Hs' H',Ext Hs H Hs' H'->vQ Hs' H' ys vs->Q vs H')->ta σ H Q
class SemR (r:R2)(g:PV->PV->Option PV):Prop where
 h:∀{x y z},g x y=some z->∀{Hs H:Hp}{v w:V},Same Hs H->RepB Hs H x v->RepB Hs H y w->∀{Q:VK},(∀ u Hs' H',Ext Hs H Hs' H'->Rep Hs' z u->Q u H')->r v w H Q
class SemRO (r:R2)(g:PV->PV->Option PV):Prop where
 h:∀{x y z},g x y=some z->∀{Hs H:Hp}{v w:V},Same Hs H->RepB Hs H x v->RepB Hs H y w->∀{Q:VK},(∀ a Hs' H',Ext Hs H Hs' H'->H a=none->Hs' a=none->Top Hs' H' a z->Q (.ref a) H')->r v w H Q
instance (priority:=50) semE_O {f:M}[s:xp te f]:SemE te f where
 h:=λe _ _ _ _ _ r _ q=>s.h e r λa Hs' H' x h n t=>by
  obtain ⟨o,ho,hr⟩:=t.rep n;exact q _ _ _ (x.share h n ho) hr
instance (priority:=50) semB_E {f:M}[s:SemE te f]:i7 te f where
 h:=λe _ _ _ _ _ r _ q=>s.h e r λv Hs' H' x h=>q v Hs' H' x (.inl h)
def x9 (i:Nat):M:=λε=>match ε[i]? with
 |some (.sh x)=>some x
 |_=>none
def z8 (i:Nat):M:=λε=>match ε[i]? with
 |some (.sh x)=>some x
 |some (.ow x)=>some x
 |some (.bo x)=>some x
 |_=>none
def dC (v:V):M:=λ_=>some (.at v)
instance {i:Nat}:SemE (qh i) (x9 i) where
 h:=λ{ε y} e {_ _ _ _ _} r {_} q=>by
  unfold x9 at e;split at e
  ·rename_i x hx;cases e;obtain ⟨v,h1,h2⟩:=r.sh i _ hx;exact ⟨v,h1,q v _ _ (.refl r.sub) h2⟩
  ·cases e
instance {i:Nat}:i7 (qh i) (z8 i) where
 h:=λ{ε y} e {_ _ _ _ _} r {_} q=>by
  unfold z8 at e;split at e
  ·rename_i x hx;cases e;obtain ⟨v,h1,h2⟩:=r.sh i _ hx;exact ⟨v,h1,q v _ _ (.refl r.sub) (.inl h2)⟩
  ·rename_i x hx;cases e;obtain ⟨a,h1,_,n,t⟩:=r.ow i _ hx;exact ⟨_,h1,q _ _ _ (.refl r.sub) (.inr ⟨a,rfl,n,t⟩)⟩
  ·rename_i x hx;cases e;obtain ⟨v,h1,h2|⟨a,rfl,_,n,t⟩⟩:=r.bo i _ hx
   ·exact ⟨v,h1,q v _ _ (.refl r.sub) (.inl h2)⟩
   ·exact ⟨_,h1,q _ _ _ (.refl r.sub) (.inr ⟨a,rfl,n,t⟩)⟩
  ·cases e
instance :SemE (tC v) (dC v) where
 h:=λe _ _ _ _ _ r _ q=>by cases e;exact q v _ _ (.refl r.sub) (rep_at.mpr rfl)
def j4 (g:PV->PV->Option PV)(a b:M):M:=λε=>(a ε).bind λx=>(b ε).bind λy=>g x y
theorem bind_some {α β:Type}{o:Option α}{f:α->Option β}{y:β}(h:o.bind f=some y):∃ x,o=some x/\f x=some y:=by
 cases o with
 |none=>cases h
 |some x=>exact ⟨x,rfl,h⟩
instance {ta:TE}[sr:SemR r g][sa:i7 ta a][sb:i7 tb b]:SemE (tOp r ta tb) (j4 g a b) where
 h:=λe _ _ _ _ _ rs _ q=>by
  obtain ⟨x,ex,e⟩:=bind_some e;obtain ⟨y,ey,e⟩:=bind_some e;exact sa.h ex rs λv Hs1 H1 x1 r1=>sb.h ey (rs.go x1) λw Hs2 H2 x2 r2=>sr.h e x2.s3 (r1.ext x2) r2 λu Hs3 H3 x3 r3=>q u _ _ (x1.trans (x2.trans x3)) r3
instance {ta:TE}[sr:SemRO r g][sa:i7 ta a][sb:i7 tb b]:xp (tOp r ta tb) (j4 g a b) where
 h:=λe _ _ _ _ _ rs _ q=>by
  obtain ⟨x,ex,e⟩:=bind_some e;obtain ⟨y,ey,e⟩:=bind_some e;exact sa.h ex rs λv Hs1 H1 x1 r1=>sb.h ey (rs.go x1) λw Hs2 H2 x2 r2=>sr.h e x2.s3 (r1.ext x2) r2 λu Hs3 H3 x3 n n' r3=>q u _ _ (x1.trans (x2.trans x3)) (x1.s2.free (x2.s2.free n)) n' r3
def x0:MA:=λ_=>some []
def q0 (a:M)(r:MA):MA:=λε=>(a ε).bind λx=>(r ε).bind λxs=>some (x::xs)
instance:o5 xD x0 where
 h:=λe _ _ _ _ _ r _ q=>by cases e;exact q [] _ _ (.refl r.sub) .nil
instance [sa:SemE te a][sr:o5 ta f]:o5 (qR te ta) (q0 a f) where
 h:=λe _ _ _ _ _ rs _ q=>by
  obtain ⟨x,ex,e⟩:=bind_some e;obtain ⟨xs,ey,e⟩:=bind_some e;cases e;exact sa.h ex rs λv Hs1 H1 x1 r1=>sr.h ey (rs.go x1) λvs Hs2 H2 x2 r2=>q _ _ _ (x1.trans x2) (.cons (r1.mono x2.s1) r2)
instance:wQ xD x0 where
 h:=λe _ _ _ _ _ r _ q=>by cases e;exact q [] _ _ (.refl r.sub) rfl
instance [sa:i7 te a][sr:wQ ta f]:wQ (qR te ta) (q0 a f) where
 h:=λe _ _ _ _ _ rs _ q=>by
  obtain ⟨x,ex,e⟩:=bind_some e;obtain ⟨xs,ey,e⟩:=bind_some e;cases e;exact sa.h ex rs λv Hs1 H1 x1 r1=>sr.h ey (rs.go x1) λvs Hs2 H2 x2 r2=>q _ _ _ (x1.trans x2) ⟨_,_,rfl,r1.ext x2,r2⟩
def lim:Nat:=1000000
theorem xg (h:n<=lim):n<=sizeLine:=yd h (by rw [sizeLine_eq];decide)
theorem Yy (h:n<=lim):n<sizeLine:=uC h (by rw [sizeLine_eq];decide)
def c4 (a:MA):M:=λε=>(a ε).bind λxs=>if xs.length<=lim then some (.tup xs) else none
def k7 (a:MA):M:=λε=>(a ε).bind λxs=>if xs.length<=lim then some (.lst xs) else none
instance [sa:o5 ta f]:SemE (tTup ta) (c4 f) where
 h:=λe _ _ _ _ _ rs _ q=>by
  obtain ⟨xs,ex,e⟩:=bind_some e;split at e
  ·rename_i hl;cases e;exact sa.h ex rs λvs Hs1 H1 x1 r1=>⟨xg (r1.length▸hl),λp hp=>q _ _ _ (x1.trans (.new x1.s3 hp)) (rep_tup.mpr ⟨p,vs,rfl,v3,r1.mono (Ext.new x1.s3 hp).s1⟩)⟩
  ·cases e
instance [sa:o5 ta f]:xp (tLst ta) (k7 f) where
 h:=λe _ _ _ _ _ rs _ q=>by
  obtain ⟨xs,ex,e⟩:=bind_some e;split at e
  ·rename_i hl;cases e;exact sa.h ex rs λvs Hs1 H1 x1 r1=>⟨xg (r1.length▸hl),λp hp=>q _ _ _ (x1.trans (.newO x1.s3 hp)) (x1.s2.free hp) (x1.s3.free hp) ⟨vs,v3,r1⟩⟩
  ·cases e
theorem u5 (h:RepB Hs H (.at u) v):v=u:=by
 rcases h with h|⟨a,_,_,t⟩
 ·exact rep_at.mp h
 ·exact t.elim
theorem o4 (s:Same Hs H)(h:RepB Hs H (.lst xs) v):∃ a vs,v = .ref a/\H a=some (.lst vs)/\Reps Hs xs vs:=by
 rcases h with h|⟨a,rfl,_,vs,e,r⟩
 ·obtain ⟨a,vs,rfl,e,r⟩:=rep_lst.mp h;exact ⟨a,vs,rfl,s _ _ e,r⟩
 ·exact ⟨a,vs,rfl,e,r⟩
theorem xk (s:Same Hs H)(h:RepB Hs H (.tup xs) v):∃ a vs,v = .ref a/\H a=some (.tup vs)/\Reps Hs xs vs:=by
 rcases h with h|⟨a,rfl,_,t⟩
 ·obtain ⟨a,vs,rfl,e,r⟩:=rep_tup.mp h;exact ⟨a,vs,rfl,s _ _ e,r⟩
 ·exact t.elim
theorem Jn {ks:List v7}(s:Same Hs H)(h:RepB Hs H (.fk ks xs) v):∃ a o kvs,v = .ref a/\H a=some (.frz o (.dK kvs))/\kvs.map (·.1)=ks/\Reps Hs xs (kvs.map (·.2)):=by
 rcases h with h|⟨a,rfl,n,t⟩
 ·obtain ⟨a,o,kvs,rfl,e,k,r⟩:=rep_fk.mp h;exact ⟨a,o,kvs,rfl,s _ _ e,k,r⟩
 ·exact t.elim
theorem wD {ks:List v7}(s:Same Hs H)(h:RepB Hs H (.dk ks xs) v):∃ a kvs,v = .ref a/\H a=some (.dK kvs)/\kvs.map (·.1)=ks/\Reps Hs xs (kvs.map (·.2)):=by
 rcases h with h|⟨a,rfl,_,kvs,e,k,r⟩
 ·obtain ⟨a,kvs,rfl,e,k,r⟩:=rep_dk.mp h;exact ⟨a,kvs,rfl,s _ _ e,k,r⟩
 ·exact ⟨a,kvs,rfl,e,k,r⟩
theorem DS (s:Same Hs H)(h:RepB Hs H (.dn fl ks xs) v):∃ a as kvs,v = .ref a/\H a=some (.dT fl as kvs)/\(kvs.map (·.1)=ks/\KAs fl Hs as ks)/\Reps Hs xs (kvs.map (·.2)):=by
 rcases h with h|⟨a,rfl,_,as,kvs,e,k,r⟩
 ·obtain ⟨a,as,kvs,rfl,e,k,r⟩:=rep_dn.mp h;exact ⟨a,as,kvs,rfl,s _ _ e,k,r⟩
 ·exact ⟨a,as,kvs,rfl,e,k,r⟩
theorem DT (s:Same Hs H)(h:RepB Hs H (.fn fl ks xs) v):∃ a o as kvs,v = .ref a/\H a=some (.frz o (.dT fl as kvs))/\(kvs.map (·.1)=ks/\KAs fl Hs as ks)/\Reps Hs xs (kvs.map (·.2)):=by
 rcases h with h|⟨a,rfl,_,o,as,kvs,e,k,r⟩
 ·obtain ⟨a,o,as,kvs,rfl,e,k,r⟩:=rep_fn.mp h;exact ⟨a,o,as,kvs,rfl,s _ _ e,k,r⟩
 ·exact ⟨a,o,as,kvs,rfl,e,k,r⟩
theorem Uz (s:Same Hs H)(h:RepB Hs H (.ob C ns xs) v):∃ a dx fs,v = .ref a/\H a=some (.ins C dx fs)/\fs.map (·.1)=ns/\Reps Hs xs (fs.map (·.2)):=by
 rcases h with h|⟨a,rfl,_,dx,fs,e,k,r⟩
 ·obtain ⟨a,dx,fs,rfl,e,k,r⟩:=rep_ob.mp h;exact ⟨a,dx,fs,rfl,s _ _ e,k,r⟩
 ·exact ⟨a,dx,fs,rfl,e,k,r⟩
def pI (g:Int->Int->Option V):PV->PV->Option PV
 | .at (.int i),.at (.int j)=>(g i j).map .at
 |_,_=>none
theorem YT {g:Int->Int->Option V}{z:PV}(h:pI g x y=some z):∃ i j u,x = .at (.int i)/\y = .at (.int j)/\g i j=some u/\z = .at u:=by
 unfold pI at h;split at h
 ·rename_i i j;obtain ⟨u,e,rfl⟩:=yI.mp h;exact ⟨i,j,u,rfl,rfl,e,rfl⟩
 ·cases h
instance {g:Int->Int->V}:SemR (rI0 g) (pI λi j=>some (g i j)) where
 h:=λe _ _ _ _ s a b _ q=>by
  obtain ⟨i,j,u,rfl,rfl,e,rfl⟩:=YT e;cases e;exact ⟨i,j,u5 a,u5 b,q _ _ _ (.refl s) (rep_at.mpr rfl)⟩
instance {C:Int->Int->Prop}[d:∀ i j,Decidable (C i j)]{g:Int->Int->V}:SemR (rI C g) (pI λi j=>if C i j then some (g i j) else none) where
 h:=λe _ _ _ _ s a b _ q=>by
  obtain ⟨i,j,u,rfl,rfl,e',rfl⟩:=YT e;split at e'
  ·rename_i hc;cases e';exact ⟨i,j,u5 a,u5 b,hc,q _ _ _ (.refl s) (rep_at.mpr rfl)⟩
  ·cases e'
def Qk:PV->PV->Option PV
 | .lst xs,.lst ys=>if xs.length+ys.length<=lim then some (.lst (xs++ys)) else none
 |_,_=>none
instance :SemRO (XH K) Qk where
 h:=λ{x y z} e {Hs H v w} s a b {Q} q=>by
  unfold Qk at e;split at e
  ·split at e
   ·rename_i hl;cases e;obtain ⟨p,vs,rfl,e1,r1⟩:=o4 s a;obtain ⟨p',ws,rfl,e2,r2⟩:=o4 s b;refine ⟨p,p',vs,ws,rfl,rfl,SqL.of e1,SqL.of e2,xg (by rw [r1.length,r2.length];exact hl),λl hl=>?_⟩;exact q l _ _ (.newO s hl) hl (s.free hl) ⟨_,v3,r1.append r2⟩
   ·cases e
  ·cases e
def u9:PV->PV->Option PV
 | .lst xs,.at (.int i)=>atI xs i
 | .tup xs,.at (.int i)=>atI xs i
 | .at (.str z),.at (.int i)=>if z.length<=lim then (L2.atI z.cps.toList i).map λc=> .at (.str ⟨#[c]⟩) else none
 |_,_=>none
theorem Reps.atI {i:Int}(r:Reps H xs vs)(h:atI xs i=some x):∃ v,L2.atI vs i=some v/\Rep H x v:=by unfold L2.atI at h ⊢;rw [r.length];obtain ⟨j,ej,e⟩:=bind_some h;rw [ej];exact r.get e
instance :SemR (rIx K) u9 where
 h:=λ{x y z} e {Hs H v w} s a b {Q} q=>by
  unfold u9 at e;split at e
  ·obtain ⟨p,vs,rfl,e1,r1⟩:=o4 s a;obtain ⟨u,hu,r⟩:=r1.atI e;exact .inl ⟨p,vs,_,u,rfl,u5 b,SqL.of e1,hu,q _ _ _ (.refl s) r⟩
  ·obtain ⟨p,vs,rfl,e1,r1⟩:=xk s a;obtain ⟨u,hu,r⟩:=r1.atI e;exact .inr (.inl ⟨p,vs,_,u,rfl,u5 b,SqT.of e1,hu,q _ _ _ (.refl s) r⟩)
  ·split at e
   ·rename_i hz;obtain ⟨c,hc,rfl⟩:=yI.mp e;exact .inr (.inr ⟨_,_,c,u5 a,u5 b,xg hz,hc,q _ _ _ (.refl s) (rep_at.mpr rfl)⟩)
   ·cases e
  ·cases e
def ats:List PV->Option (List V)
 |[]=>some []
 | .at u::xs=>(ats xs).map (u::·)
 |_::_=>none
theorem QR:∀{xs:List PV}{us:List V},ats xs=some us->xs=us.map .at
 |[],_,h=>by cases h;rfl
 | .at u::xs,us,h=>by
  unfold ats at h;obtain ⟨r,e,rfl⟩:=yI.mp h;rw [yF,QR e]
 | .tup _::_,_,h=>by cases h
 | .lst _::_,_,h=>by cases h
 | .dk _ _::_,_,h=>by cases h
 | .dn _ _ _::_,_,h=>by cases h
 | .fn _ _ _::_,_,h=>by cases h
 | .fk _ _::_,_,h=>by cases h
 | .ob _ _ _::_,_,h=>by cases h
 | .op _::_,_,h=>by cases h
class SemU (r:V->Hp->VK->Prop)(g:PV->Option PV):Prop where
 h:∀{x z},g x=some z->∀{Hs H:Hp}{v:V},Same Hs H->RepB Hs H x v->∀{Q:VK},(∀ u Hs' H',Ext Hs H Hs' H'->Rep Hs' z u->Q u H')->r v H Q
def dUn (g:PV->Option PV)(a:M):M:=λε=>(a ε).bind g
instance {r:V->Hp->VK->Prop}{g:PV->Option PV}{ta:TE}[sr:SemU r g][sa:i7 ta a]:SemE (tUn r ta) (dUn g a) where
 h:=λe _ _ _ _ _ rs _ q=>by
  obtain ⟨x,ex,e⟩:=bind_some e;exact sa.h ex rs λv Hs1 H1 x1 r1=>sr.h e x1.s3 r1 λu Hs3 H3 x3 r3=>q u _ _ (x1.trans x3) r3
def pU (g:Int->V):PV->Option PV
 | .at (.int i)=>some (.at (g i))
 |_=>none
instance {g:Int->V}:SemU (rU g) (pU g) where
 h:=λ{x z} e {_ _ _} s a {_} q=>by
  unfold pU at e;split at e
  ·cases e;exact ⟨_,u5 a,q _ _ _ (.refl s) (rep_at.mpr rfl)⟩
  ·cases e
def pB:PV->Option Bool
 | .at (.bl b)=>some b
 |_=>none
theorem ww {b:Bool}(h:pB x=some b):x = .at (.bl b):=by
 unfold pB at h;split at h
 ·cases h;rfl
 ·cases h
def dT (a:M):MB:=λε=>(a ε).bind pB
instance [sa:i7 te a]:qk (XO te) (dT a) where
 h:=λe _ _ _ _ _ rs _ q=>by
  obtain ⟨x,ex,e⟩:=bind_some e;cases ww e;exact sa.h ex rs λv Hs1 H1 x1 r1=>⟨_,u5 r1,q _ _ x1⟩
instance [sa:i7 te a]:qk (tB te) (dT a) where
 h:=λe _ _ _ _ _ rs _ q=>by
  obtain ⟨x,ex,e⟩:=bind_some e;cases ww e;exact sa.h ex rs λv Hs1 H1 x1 r1=>⟨_,u5 r1,q _ _ x1⟩
def tTru (K:Fg)(ta:TE):TT:=λσ H Q=>ta σ H λx H'=>∃ k,TruV K x H' k/\Q k H'
def pTru:PV->Option Bool
 | .at .non=>some false
 | .at (.bl b)=>some b
 | .at (.int i)=>some (i != 0)
 | .at (.str y)=>if y.length<=lim then some ((y.length:Int) != 0) else none
 | .lst xs=>some (!xs.isEmpty)
 | .tup xs=>some (!xs.isEmpty)
 | .dk ks _=>some (!ks.isEmpty)
 |_=>none
def i9 (a:M):MB:=λε=>(a ε).bind pTru
theorem Reps.isEmpty (r:Reps H xs vs):vs.isEmpty=xs.isEmpty:=by have:=r.length;cases xs<;>cases vs<;>first|rfl|(simp at this)
instance [sa:i7 te a]:qk (tTru K te) (i9 a) where
 h:=λe _ _ _ _ _ rs _ q=>by
  obtain ⟨x,ex,e⟩:=bind_some e;refine sa.h ex rs λv Hs1 H1 x1 r1=>?_;unfold pTru at e;split at e
  ·cases e;cases u5 r1;exact ⟨_,rfl,q _ _ x1⟩
  ·cases e;cases u5 r1;exact ⟨_,rfl,q _ _ x1⟩
  ·cases e;cases u5 r1;exact ⟨_,rfl,q _ _ x1⟩
  ·split at e
   ·rename_i hl;cases e;cases u5 r1;exact ⟨_,⟨xg hl,rfl⟩,q _ _ x1⟩
   ·cases e
  ·cases e;obtain ⟨p,vs,rfl,e1,r2⟩:=o4 x1.s3 r1;exact ⟨_,.inl ⟨vs,SqL.of e1,by rw [r2.isEmpty]⟩,q _ _ x1⟩
  ·cases e;obtain ⟨p,vs,rfl,e1,r2⟩:=xk x1.s3 r1;exact ⟨_,.inr (.inl ⟨vs,SqT.of e1,by rw [r2.isEmpty]⟩),q _ _ x1⟩
  ·cases e;obtain ⟨p,kvs,rfl,e1,k,r2⟩:=wD x1.s3 r1;refine ⟨_,.inr (.inr ⟨kvs,e1,?_⟩),q _ _ x1⟩;rw [<- k];cases kvs<;>rfl
  ·cases e
def zi (a b:MB):MB:=λε=>(a ε).bind λc=>if c=true then b ε else some false
def dOr (a b:MB):MB:=λε=>(a ε).bind λc=>if c=true then some true else b ε
def c6 (a:MB):MB:=λε=>(a ε).bind λc=>some (!c)
instance {u:TT}{a b:MB}[sa:qk t a][sb:qk u b]:qk (tAnd t u) (zi a b) where
 h:=λe _ _ _ _ _ rs _ q=>by
  obtain ⟨c,ex,e⟩:=bind_some e;refine sa.h ex rs λHs1 H1 x1=>?_;cases c with
  |true=>exact xc (sb.h e (rs.go x1) λHs2 H2 x2=>q _ _ (x1.trans x2))
  |false=>cases e;exact qI (q _ _ x1)
instance {u:TT}{a b:MB}[sa:qk t a][sb:qk u b]:qk (tOr t u) (dOr a b) where
 h:=λe _ _ _ _ _ rs _ q=>by
  obtain ⟨c,ex,e⟩:=bind_some e;refine sa.h ex rs λHs1 H1 x1=>?_;cases c with
  |true=>cases e;exact xc (q _ _ x1)
  |false=>exact qI (sb.h e (rs.go x1) λHs2 H2 x2=>q _ _ (x1.trans x2))
instance {a:MB}[sa:qk t a]:qk (tNot t) (c6 a) where
 h:=λe _ _ _ _ _ rs _ q=>by
  obtain ⟨c,ex,e⟩:=bind_some e;cases e;exact sa.h ex rs λHs1 H1 x1=>q _ _ x1
def zz (a b:M):M:=λε=>(a ε).bind λx=>(pB x).bind λc=>if c=true then b ε else some (.at (.bl false))
def QX (a:M):M:=λε=>(a ε).bind λx=>(pB x).bind λc=>some (.at (.bl (!c)))
instance {t u:TE}[sa:SemE t a][sb:SemE u b]:SemE (UO t u) (zz a b) where
 h:=λe _ _ _ _ _ rs _ q=>by
  obtain ⟨x,ex,e⟩:=bind_some e;obtain ⟨c,ec,e⟩:=bind_some e;cases ww ec;refine sa.h ex rs λv Hs1 H1 x1 r1=>⟨c,rep_at.mp r1,?_⟩;cases c with
  |true=>exact xc (sb.h e (rs.go x1) λw Hs2 H2 x2 r2=>q _ _ _ (x1.trans x2) r2)
  |false=>cases e;exact qI (q _ _ _ x1 (rep_at.mpr rfl))
instance {t:TE}[sa:i7 t a]:SemE (UR t) (QX a) where
 h:=λe _ _ _ _ _ rs _ q=>by
  obtain ⟨x,ex,e⟩:=bind_some e;obtain ⟨c,ec,e⟩:=bind_some e;cases ww ec;cases e;exact sa.h ex rs λv Hs1 H1 x1 r1=>⟨c,u5 r1,q _ _ _ x1 (rep_at.mpr rfl)⟩
def dIf (c:MB)(a b:M):M:=λε=>(c ε).bind λk=>if k=true then a ε else b ε
instance {ta:TE}[sc:qk t c][sa:SemE ta a][sb:SemE tb b]:SemE (tIf t ta tb) (dIf c a b) where
 h:=λe _ _ _ _ _ rs _ q=>by
  obtain ⟨k,ex,e⟩:=bind_some e;refine sc.h ex rs λHs1 H1 x1=>?_;cases k with
  |true=>exact xc (sa.h e (rs.go x1) λw Hs2 H2 x2 r2=>q _ _ _ (x1.trans x2) r2)
  |false=>exact qI (sb.h e (rs.go x1) λw Hs2 H2 x2 r2=>q _ _ _ (x1.trans x2) r2)
def zj (g g':PV->PV->Option PV)(a b c:M):M:=λε=>(a ε).bind λx=>(b ε).bind λy=>(g x y).bind λz=>(pB z).bind λk=>if k=true then (c ε).bind λw=>g' y w else some (.at (.bl false))
instance {r':R2}{g':PV->PV->Option PV}{ta tc:TE}{c:M}[sr:SemR r g][sr':SemR r' g'][sa:i7 ta a][sb:i7 tb b][sc:i7 tc c]:SemE (Vj r r' ta tb tc) (zj g g' a b c) where
 h:=λe _ _ _ _ _ rs _ q=>by
  obtain ⟨x,ex,e1⟩:=bind_some e;obtain ⟨y,ey,e2⟩:=bind_some e1;obtain ⟨z,ez,e3⟩:=bind_some e2;obtain ⟨k,ek,e4⟩:=bind_some e3;have ez':=ww ek;subst ez';refine sa.h ex rs λv Hs1 H1 x1 r1=>sb.h ey (rs.go x1) λw Hs2 H2 x2 r2=>sr.h ez x2.s3 (r1.ext x2) r2 λu Hs3 H3 x3 r3=>⟨k,rep_at.mp r3,?_⟩;cases k with
  |true=>obtain ⟨w',ew,e5⟩:=bind_some e4;exact xc (sc.h ew (((rs.go x1).go x2).go x3) λu' Hs4 H4 x4 r4=>sr'.h e5 x4.s3 ((r2.ext x3).ext x4) r4 λu'' Hs5 H5 x5 r5=>q _ _ _ (x1.trans (x2.trans (x3.trans (x4.trans x5)))) r5)
  |false=>cases e4;exact qI (q _ _ _ (x1.trans (x2.trans x3)) (rep_at.mpr rfl))
def y8 (m:List PV->Option PV):Sp:=λvs H Q _=>∃ Hs xs y,Same Hs H/\Reps Hs xs vs/\m xs=some y/\∀ v Hs' H',Ext Hs H Hs' H'->Rep Hs' y v->Q v H'
def qz (m:List PV->Option PV):Sp:=λvs H Q _=>∃ Hs xs y,Same Hs H/\Reps Hs xs vs/\m xs=some y/\∀ a Hs' H',Ext Hs H Hs' H'->H a=none->Hs' a=none->Top Hs' H' a y->Q (.ref a) H'
def z9 (m:List PV->Option PV)(as:MA):M:=λε=>(as ε).bind m
instance [sa:o5 ta as]:SemE (qO (y8 m) [] E ta) (z9 m as) where
 h:=λe _ _ _ _ _ rs _ q=>by
  obtain ⟨xs,ex,e1⟩:=bind_some e;refine sa.h ex rs λvs Hs1 H1 x1 r1=>⟨Hs1,xs,_,x1.s3,by rw [yC];exact r1,e1,λv Hs' H' x r=>q v _ _ (x1.trans x) r⟩
instance [sa:o5 ta as]:xp (qO (qz m) [] E ta) (z9 m as) where
 h:=λe _ _ _ _ _ rs _ q=>by
  obtain ⟨xs,ex,e1⟩:=bind_some e;refine sa.h ex rs λvs Hs1 H1 x1 r1=>⟨Hs1,xs,_,x1.s3,by rw [yC];exact r1,e1,λa Hs' H' x n n' r=>q a _ _ (x1.trans x) (x1.s2.free n) n' r⟩
def vZ (m:List PV->Option PV)(ds:List V)(as:MA):M:=λε=>(as ε).bind λxs=>m (xs++ds.map .at)
def qw (C:Addr)(nm:Str)(m:List PV->Option PV)(a:M)(as:MA):M:=λε=>(a ε).bind λx=>match x with
 | .ob C' ns fs=>if C'=C/\nm∉ns then (as ε).bind λxs=>m (x::xs) else none
 |_=>none
theorem ZJ {fs:List (Str×V)}{f:Str}(h:f∉fs.map (·.1)):fs.lookup f=none:=by
 induction fs with
 |nil=>rfl
 |cons p r ih =>
  rw [yF] at h;rw [yc];have h1:(f==p.1)=false:=by rw [beq_eq_false_iff_ne];exact λe=>h (e▸yR)
  rw [h1];exact ih λz=>h (yT _ z)
theorem WN (h:qw C nm m a as ε=some y):∃ ns fs xs,a ε=some (.ob C ns fs)/\nm∉ns/\as ε=some xs/\m (.ob C ns fs::xs)=some y:=by
 unfold qw at h;obtain ⟨x,ex,h1⟩:=bind_some h;split at h1
 ·rename_i C' ns fs;split at h1
  ·rename_i hc;obtain ⟨xs,e2,h2⟩:=bind_some h1;obtain ⟨rfl,hn⟩:=hc;exact ⟨ns,fs,xs,ex,hn,e2,h2⟩
  ·cases h1
 ·cases h1
instance [so:SemE te a][sa:o5 ta as]:SemE (Qy C nm (y8 m) [] E te ta) (qw C nm m a as) where
 h:=λe _ _ _ _ _ rs _ q=>by
  obtain ⟨ns,fs,xs,ea,hn,e1,e2⟩:=WN e;refine so.h ea rs λv Hs1 H1 x1 r1=>?_;obtain ⟨p,dx,gs,rfl,hp,hk,hr⟩:=rep_ob.mp r1;refine ⟨p,dx,gs,rfl,x1.s3 _ _ hp,ZJ (by rw [hk];exact hn),sa.h e1 (rs.go x1) λvs Hs2 H2 x2 r2=>?_⟩;exact ⟨Hs2,_,_,x2.s3,by rw [yC];exact .cons (r1.mono x2.s1) r2,e2,λv Hs' H' x r=>q v _ _ (x1.trans (x2.trans x)) r⟩
instance [so:SemE te a][sa:o5 ta as]:xp (Qy C nm (qz m) [] E te ta) (qw C nm m a as) where
 h:=λe _ _ _ _ _ rs _ q=>by
  obtain ⟨ns,fs,xs,ea,hn,e1,e2⟩:=WN e;refine so.h ea rs λv Hs1 H1 x1 r1=>?_;obtain ⟨p,dx,gs,rfl,hp,hk,hr⟩:=rep_ob.mp r1;refine ⟨p,dx,gs,rfl,x1.s3 _ _ hp,ZJ (by rw [hk];exact hn),sa.h e1 (rs.go x1) λvs Hs2 H2 x2 r2=>?_⟩;exact ⟨Hs2,_,_,x2.s3,by rw [yC];exact .cons (r1.mono x2.s1) r2,e2,λv Hs' H' x n n' r=>q v _ _ (x1.trans (x2.trans x)) (x1.s2.free (x2.s2.free n)) n' r⟩
class jW (r:List V->Hp->VK->Prop)(g:List PV->Option PV):Prop where
 h:∀{xs z},g xs=some z->∀{Hs H:Hp}{vs:List V},Same Hs H->vQ Hs H xs vs->∀{Q:VK},(∀ u Hs' H',Ext Hs H Hs' H'->Rep Hs' z u->Q u H')->r vs H Q
class XY (r:List V->Hp->VK->Prop)(g:List PV->Option PV):Prop where
 h:∀{xs z},g xs=some z->∀{Hs H:Hp}{vs:List V},Same Hs H->vQ Hs H xs vs->∀{Q:VK},(∀ a Hs' H',Ext Hs H Hs' H'->H a=none->Hs' a=none->Top Hs' H' a z->Q (.ref a) H')->r vs H Q
instance {r:List V->Hp->VK->Prop}{g:List PV->Option PV}[sr:jW r g][sa:wQ ta as]:SemE (tCB r ta) (z9 g as) where
 h:=λe _ _ _ _ _ rs _ q=>by
  obtain ⟨xs,ex,e1⟩:=bind_some e;exact sa.h ex rs λvs Hs1 H1 x1 r1=>sr.h e1 x1.s3 r1 λv Hs' H' x r=>q v _ _ (x1.trans x) r
instance {r:List V->Hp->VK->Prop}{g:List PV->Option PV}[sr:XY r g][sa:wQ ta as]:xp (tCB r ta) (z9 g as) where
 h:=λe _ _ _ _ _ rs _ q=>by
  obtain ⟨xs,ex,e1⟩:=bind_some e;exact sa.h ex rs λvs Hs1 H1 x1 r1=>sr.h e1 x1.s3 r1 λv Hs' H' x n n' r=>q v _ _ (x1.trans x) (x1.s2.free n) n' r
theorem za (h:vQ Hs H [x] vs):∃ v,vs=[v]/\RepB Hs H x v:=by obtain ⟨v,r,rfl,a,b⟩:=h;cases (show r=[] from b);exact ⟨v,rfl,a⟩
theorem Jq (h:vQ Hs H [x,y] vs):∃ v w,vs=[v,w]/\RepB Hs H x v/\RepB Hs H y w:=by obtain ⟨v,r,rfl,a,b⟩:=h;obtain ⟨w,rfl,c⟩:=za b;exact ⟨v,w,rfl,a,c⟩
inductive Out where
 |nx (ε:ME)|rt (y:PV)|bk (ε:ME)|ct (ε:ME)
abbrev MS:=ME->Option Out
def OutK (fr:Bool)(Hs0 H0:Hp)(D:qu):Out->Prop
 | .nx ε=>∀ Hs H σ,RS Hs0 H0 Hs H σ ε->D.nx σ H
 | .bk ε=>∀ Hs H σ,RS Hs0 H0 Hs H σ ε->D.bk σ H
 | .ct ε=>∀ Hs H σ,RS Hs0 H0 Hs H σ ε->D.ct σ H
 | .rt y=>match fr with
  |true=>∀ a Hs H,Ext Hs0 H0 Hs H->H0 a=none->Hs a=none->Top Hs H a y->D.rt (.ref a) H
  |false=>∀ v Hs H,Ext Hs0 H0 Hs H->Rep Hs y v->D.rt v H
class c9 (fr:Bool)(ts:TS)(f:MS):Prop where
 h:∀{ε o},f ε=some o->∀{Hs0 H0 Hs H σ},RS Hs0 H0 Hs H σ ε->∀{D:qu},OutK fr Hs0 H0 D o->ts D σ H
variable {fr:Bool}
def n9:MS:=λε=>some (.nx ε)
instance:c9 fr XN n9 where
 h:=λe _ _ _ _ _ rs _ q=>by cases e;exact q _ _ _ rs
def u6 (a b:MS):MS:=λε=>(a ε).bind λo=>match o with
 | .nx ε'=>b ε'
 |o=>some o
instance {t u:TS}{a b:MS}[sa:c9 fr t a][sb:c9 fr u b]:c9 fr (tSeq t u) (u6 a b) where
 h:=λe _ _ _ _ _ rs D q=>by
  obtain ⟨o,eo,e1⟩:=bind_some e;refine sa.h eo rs ?_;cases o with
  |nx ε'=>exact λHs H σ r=>sb.h e1 r q
  |rt y=>cases e1;exact q
  |bk ε'=>cases e1;exact q
  |ct ε'=>cases e1;exact q
def dFz (i:Nat)(a:MS):MS:=λε=>a (fz i ε)
instance {i:Nat}{t:TS}{a:MS}[sa:c9 fr t a]:c9 fr t (dFz i a) where
 h:=λe _ _ _ _ _ rs _ q=>by
  obtain ⟨Hs',g,r⟩:=rs.freeze i;exact sa.h e r q
def xS (a:M):MS:=λε=>(a ε).bind λ_=>some (.nx ε)
instance (priority:=100)[sa:i7 te a]:c9 fr (xQ te) (xS a) where
 h:=λe _ _ _ _ _ rs _ q=>by
  obtain ⟨x,ex,e1⟩:=bind_some e;cases e1;exact sa.h ex rs λv Hs1 H1 x1 r1=>q _ _ _ (rs.go x1)
def b8 (a:M):MS:=λε=>(a ε).bind λx=>some (.rt x)
instance [sa:SemE te a]:c9 false (Qz te) (b8 a) where
 h:=λe _ _ _ _ _ rs _ q=>by
  obtain ⟨x,ex,e1⟩:=bind_some e;cases e1;exact sa.h ex rs λv Hs1 H1 x1 r1=>q _ _ _ (rs.ext.trans x1) r1
instance [sa:xp te a]:c9 true (Qz te) (b8 a) where
 h:=λe _ _ _ _ _ rs _ q=>by
  obtain ⟨x,ex,e1⟩:=bind_some e;cases e1;exact sa.h ex rs λv Hs1 H1 x1 n n' r1=>q _ _ _ (rs.ext.trans x1) (rs.ext.s2.free n) n' r1
def oVar (i:Nat):M:=λε=>match ε[i]? with
 |some (.ow x)=>some x
 |_=>none
def m5 (c:MB)(a b:MS):MS:=λε=>(c ε).bind λk=>if k=true then a ε else b ε
instance {ta tb:TS}{a b:MS}[sc:qk t c][sa:c9 fr ta a][sb:c9 fr tb b]:c9 fr (Qx t ta tb) (m5 c a b) where
 h:=λe _ _ _ _ _ rs _ q=>by
  obtain ⟨k,ex,e1⟩:=bind_some e;refine sc.h ex rs λHs1 H1 x1=>?_;cases k with
  |true=>exact xc (sa.h e1 (rs.go x1) q)
  |false=>exact qI (sb.h e1 (rs.go x1) q)
def qx:MS:=λ_=>none
abbrev MG:=PV->ME->Option ME
def But (ts:List Nat)(σ σ':St):Prop:=σ'.length=σ.length/\∀ j,j∉ts->σ'[j]?=σ[j]?
theorem But.refl (σ:St):But [] σ σ:=⟨rfl,λ_ _=>rfl⟩
theorem But.trans {a b:List Nat}{σ1 σ2:St}(x:But a σ σ1)(y:But b σ1 σ2):But (a++b) σ σ2 :=
 ⟨y.1.trans x.1,λj hj=>(y.2 j λz=>hj (yB.mpr (.inr z))).trans (x.2 j λz=>hj (yB.mpr (.inl z)))⟩
theorem But.wk (b:But ts σ σ')(h:∀ i∈ts,σ[i]?=some none):Wk σ σ':=by refine ⟨b.1.symm,λi v e=>?_⟩;rw [b.2 i λz=>by rw [h i z] at e;cases e];exact e
class zN (tg:TG)(ts:outParam (List Nat))(g:MG):Prop where
 h:∀{x ε ε'},g x ε=some ε'->∀{Hs0 H0 Hs H σ v},RS Hs0 H0 Hs H σ ε->Rep Hs x v->∀{Q:St->Hp->Prop},(∀ σ',RS Hs0 H0 Hs H σ' ε'->But ts σ σ'->Q σ' H)->tg v σ H Q
class vR (tg:TGs)(ts:outParam (List Nat))(g:List PV->ME->Option ME):Prop where
 h:∀{xs ε ε'},g xs ε=some ε'->∀{Hs0 H0 Hs H σ vs},RS Hs0 H0 Hs H σ ε->Reps Hs xs vs->∀{Q:St->Hp->Prop},(∀ σ',RS Hs0 H0 Hs H σ' ε'->But ts σ σ'->Q σ' H)->tg vs σ H Q
def v9 (i:Nat):MG:=λx ε=>some (ε.set i (.sh x))
instance {i:Nat}:zN (qC i) [i] (v9 i) where
 h:=λe _ _ _ _ _ _ rs r _ q=>by
  cases e;exact q _ (rs.put r) ⟨yw,λj hj=>yr λz=>hj (by rw [<- z];exact yO.mpr rfl)⟩
def zY:List PV->ME->Option ME:=λxs ε=>match xs with
 |[]=>some ε
 |_=>none
def qJ (g:MG)(r:List PV->ME->Option ME):List PV->ME->Option ME:=λxs ε=>match xs with
 |x::xs=>(g x ε).bind (r xs)
 |_=>none
instance:vR gNil [] zY where
 h:=λ{xs ε ε'} e {_ _ _ _ _ _} rs r {_} q=>by
  unfold zY at e;split at e
  ·cases e;exact ⟨reps_nil.mp r,q _ rs (.refl _)⟩
  ·cases e
instance ML {t:TG}{u:TGs}{a b:List Nat}{g:MG}{r:List PV->ME->Option ME}[sg:zN t a g][sr:vR u b r]:vR (Xf t u) (a++b) (qJ g r) where
 h:=λ{xs ε ε'} e {_ _ _ _ _ _} rs rr {_} q=>by
  unfold qJ at e;split at e
  ·obtain ⟨ε1,e1,e2⟩:=bind_some e;obtain ⟨v,w,rfl,r1,r2⟩:=reps_cons.mp rr;exact ⟨v,w,rfl,sg.h e1 rs r1 λσ1 rs1 b1=>sr.h e2 rs1 r2 λσ2 rs2 b2=>q _ rs2 (b1.trans b2)⟩
  ·cases e
instance (priority:=2000){i:Nat}{u:TGs}{b:List Nat}{r:List PV->ME->Option ME}[sr:vR u b r]:vR (Xf (qC i) u) (i::b) (qJ (v9 i) r) where
 h:=λe _ _ _ _ _ _ rs rr _ q=>(ML (t:=qC i) (a:=[i]) (g:=v9 i)).h e rs rr q
def zZ (n:Nat)(g:List PV->ME->Option ME):MG:=λx ε=>match x with
 | .tup xs=>if xs.length=n then g xs ε else none
 |_=>none
instance {t:TGs}{g:List PV->ME->Option ME}[sg:vR t ts g]:zN (gTup K n t) ts (zZ n g) where
 h:=λ{x ε ε'} e {_ _ _ _ _ _} rs rr {_} q=>by
  unfold zZ at e;split at e
  ·split at e
   ·rename_i hl;obtain ⟨a,vs,rfl,h,r⟩:=rep_tup.mp rr;exact ⟨a,vs,rfl,SqT.of (rs.sub _ _ h),by rw [r.length];exact hl,sg.h e rs r λσ' rs' b=>q _ rs' b⟩
   ·cases e
  ·cases e
def xJ (i:Nat)(a:M):MS:=λε=>(a ε).bind λx=>some (.nx (ε.set i (.sh x)))
def wd (i:Nat)(a:M):MS:=λε=>(a ε).bind λx=>some (.nx (ε.set i (.ow x)))
instance {i:Nat}[sa:SemE te a]:c9 fr (xl te (qC i)) (xJ i a) where
 h:=λe _ _ _ _ _ rs _ q=>by
  obtain ⟨x,ex,e1⟩:=bind_some e;cases e1;exact sa.h ex rs λv Hs1 H1 x1 r1=>q _ _ _ ((rs.go x1).put r1)
instance {i:Nat}[sa:xp te a]:c9 fr (xl te (qC i)) (wd i a) where
 h:=λe _ _ _ _ _ rs _ q=>by
  obtain ⟨x,ex,e1⟩:=bind_some e;cases e1;refine sa.h ex rs λp Hs1 H1 x1 n n' t=>q _ _ _ ((rs.go x1).putO ⟨rs.ext.s2.free n,n',t⟩ λj y hj z=>?_);obtain ⟨b,hb,_,_,tb⟩:=rs.ow j y hj;rw [z] at hb;injection hb with hb;injection hb with hb;injection hb with hb;subst hb;exact tb.there n
def pIp (g:Int->Int->Int):PV->PV->Option PV
 | .at (.int i),.at (.int j)=>some (.at (.int (g i j)))
 |_,_=>none
def wU (i:Nat)(a:M):MS:=λε=>(a ε).bind λx=>match ε[i]? with
 |some (.ow (.lst xs))=>if xs.length<=lim then some (.nx (ε.set i (.ow (.lst (xs++[x]))))) else none
 |_=>none
instance {i:Nat}[sa:SemE te a]:c9 fr (xQ (tBM K "list" Ug (qh i) (qR te xD))) (wU i a) where
 h:=λe _ _ _ _ _ rs _ q=>by
  obtain ⟨x,ex,e1⟩:=bind_some e;split at e1
  ·rename_i xs hi;split at e1
   ·rename_i hl;cases e1;obtain ⟨p,hp,n0,n,vs,hv,rv⟩:=rs.ow i _ hi;refine ⟨_,hp,.inl ⟨rfl,vs,SqL.of hv⟩,sa.h ex rs λv Hs1 H1 x1 r1=>?_⟩;have hv1:=x1.s2 _ _ hv;refine ⟨p,vs,v,rfl,rfl,hv1,Yy (by rw [rv.length];exact hl),q _ _ _ ((rs.go x1).change hi hp ⟨_,v3,(rv.mono x1.s1).append (.one r1)⟩)⟩
   ·cases e1
  ·cases e1
def dExtend (i:Nat)(a:M):MS:=λε=>(a ε).bind λx=>match x with
 | .lst ys=>(match ε[i]? with
  |some (.ow (.lst xs))=>if xs.length+ys.length<=lim then some (.nx (ε.set i (.ow (.lst (xs++ys))))) else none
  |_=>none)
 |_=>none
structure jV (J:It)(xs:List PV)(Hs:Hp):Prop where
 go:∀(i:Nat)(x:PV)(Hs1 H1:Hp),xs[i]?=some x->Same Hs Hs1->Same Hs1 H1->J.go i H1/\∀ v H2,J.yld i H1 v H2->∃ Hs2,Ext Hs1 H1 Hs2 H2/\Rep Hs2 x v
 stop:∀(Hs1 H1:Hp),Same Hs Hs1->Same Hs1 H1->J.stop xs.length H1
class zh (ti:TI)(f:MA):Prop where
 h:∀{ε xs},f ε=some xs->∀{Hs0 H0 Hs H σ},RS Hs0 H0 Hs H σ ε->∀{R:It->Hp->Prop},(∀ J Hs' H',Ext Hs H Hs' H'->jV J xs Hs'->R J H')->ti σ H R
def k6 (a:M):MA:=λε=>(a ε).bind λx=>match x with
 | .lst xs=>some xs
 |_=>none
theorem BG {a:Addr}(h:Hs a=some (.lst vs))(r:Reps Hs xs vs):jV (Itl K a) xs Hs where
 go:=λi x Hs1 H1 e g1 g2=>by
  obtain ⟨v,ev,rv⟩:=r.get e;refine ⟨⟨vs,v,SqL.of (g2 _ _ (g1 _ _ h)),ev⟩,λw H2 y=>?_⟩;obtain ⟨rfl,y⟩:=y;have z:=y vs (SqL.of (g2 _ _ (g1 _ _ h)));rw [ev] at z;cases z;exact ⟨Hs1,.refl g2,rv.mono g1⟩
 stop:=λHs1 H1 g1 g2=>⟨vs,SqL.of (g2 _ _ (g1 _ _ h)),by rw [r.length];exact yS _⟩
instance [sa:SemE te a]:zh (Xg K te) (k6 a) where
 h:=λe _ _ _ _ _ rs _ q=>by
  obtain ⟨x,ex,e1⟩:=bind_some e;split at e1
  ·cases e1;refine sa.h ex rs λv Hs1 H1 x1 r1=>?_;obtain ⟨p,vs,rfl,hp,r⟩:=rep_lst.mp r1;exact ⟨p,rfl,⟨vs,SqL.of (x1.s3 _ _ hp)⟩,q _ _ _ x1 (BG hp r)⟩
  ·cases e1
def zE (lo:Int)(n:Nat):List PV:=(List.range n).map λ(i:Nat)=> .at (.int (lo+i))
theorem wE :(zE lo n).length=n:=by unfold zE;rw [yZ,List.length_range]
theorem DX {i:Nat}(h:(zE lo n)[i]?=some x):i<n/\x = .at (.int (lo+i)):=by
 have hl:i<n:=by have:=(yv.mp h).1;rw [wE] at this;exact this
 refine ⟨hl,?_⟩;unfold zE at h;rw [yN,List.getElem?_range hl] at h;cases h;rfl
theorem BH :jV (Itr lo n) (zE lo n) Hs where
 go:=λi x Hs1 H1 e g1 g2=>by
  obtain ⟨hl,rfl⟩:=DX e;refine ⟨hl,λv H2 y=>?_⟩;obtain ⟨rfl,rfl⟩:=y;exact ⟨Hs1,.refl g2,rep_at.mpr rfl⟩
 stop:=λHs1 H1 g1 g2=>by show n<=_;rw [wE];exact yS _
def zT (a:MA):MA:=λε=>(a ε).bind λxs=>match xs with
 |[.at (.int j)]=>if -(lim:Int)<=j/\j<=lim then some (zE 0 j.toNat) else none
 |_=>none
instance {a:MA}[sa:o5 ta a]:zh (Ym ta) (zT a) where
 h:=λe _ _ _ _ _ rs _ q=>by
  obtain ⟨xs,ex,e1⟩:=bind_some e;split at e1
  ·rename_i j;split at e1
   ·rename_i hl;cases e1;refine sa.h ex rs λvs Hs1 H1 x1 r1=>?_;obtain ⟨v,r,rfl,p1,p2⟩:=reps_cons.mp r1;cases reps_nil.mp p2;cases rep_at.mp p1;have hlim:(lim:Int)=1000000:=rfl;exact ⟨j,rfl,by omega,by omega,q _ _ _ x1 BH⟩
   ·cases e1
  ·cases e1
def xI (g:MG)(f:MS):List PV->ME->Option Out
 |[],ε=>some (.nx ε)
 |x::xs,ε=>(g x ε).bind λε1=>(f ε1).bind λo=>match o with
  | .nx ε2=>xI g f xs ε2
  | .ct ε2=>xI g f xs ε2
  | .bk ε2=>some (.nx ε2)
  | .rt y=>some (.rt y)
def wc (i:MA)(g:MG)(f:MS):MS:=λε=>(i ε).bind λxs=>xI g f xs ε
theorem OutK.unbase {D:qu}(x:Ext Hs0 H0 Hb H):∀{o:Out},OutK fr Hs0 H0 D o->OutK fr Hb H0 D o
 | .nx _,h=>λHs H σ r=>h _ _ _ (RS.unbase x r)
 | .bk _,h=>λHs H σ r=>h _ _ _ (RS.unbase x r)
 | .ct _,h=>λHs H σ r=>h _ _ _ (RS.unbase x r)
 | .rt _,h=>by
  cases fr with
  |true=>exact λa Hs H e n n' t=>h a Hs H (x.unbase e) n n' t
  |false=>exact λa Hs H e r=>h a Hs H (x.unbase e) r
instance {tb:TS}{i:MA}{g:MG}{f:MS}[si:zh wi i][sg:zN tg ts g][sf:c9 fr tb f]:c9 fr (tFor wi tg tb) (wc i g f) where
 h:=λe Hs0 H0 _ _ _ rs D q=>by
  obtain ⟨xs,ex,e1⟩:=bind_some e;refine si.h ex rs λJ Hs1 H1 x1 ok=>?_;have rs1:=rs.go x1;have q1:=OutK.unbase rs1.ext q;refine ⟨λk m σ H=>m=xs.length-k/\k<=xs.length/\∃ Hs ε,RS Hs1 H0 Hs H σ ε/\xI g f (xs.drop k) ε=some _,⟨xs.length,by simp,uZ _,Hs1,_,rs1.rebase,e1⟩,?_⟩;rintro k m σ H ⟨rfl,hk,Hs,ε,r,el⟩;by_cases hlt:k<xs.length
  ·have hd:xs.drop k=xs[k]::xs.drop (k+1):=yf hlt;rw [hd] at el;unfold xI at el;obtain ⟨ε1,eg,el1⟩:=bind_some el;obtain ⟨o,eo,el2⟩:=bind_some el1;obtain ⟨go,yl⟩:=ok.go k xs[k] Hs H (by simp [hlt]) r.ext.s1 r.ext.s3;refine .inr ⟨go,λσ' H'=>k+1<=xs.length/\∃ Hs ε,RS Hs1 H0 Hs H' σ' ε/\xI g f (xs.drop (k+1)) ε=some _,λσ' H' p=>⟨xs.length-(k+1),by omega,rfl,p.1,p.2⟩,λv H2 y=>?_⟩;obtain ⟨Hs2,x2,r2⟩:=yl v H2 y;refine sg.h eg (r.go x2) r2 λσ2 rs2 _=>sf.h eo rs2 ?_;cases o with
   |nx ε2=>exact λHs3 H3 σ3 r3=>⟨hlt,Hs3,ε2,r3,el2⟩
   |ct ε2=>exact λHs3 H3 σ3 r3=>⟨hlt,Hs3,ε2,r3,el2⟩
   |bk ε2=>cases el2;exact q1
   |rt y=>cases el2;exact q1
  ·have ek:k=xs.length:=by omega
   subst ek;rw [uO] at el;unfold xI at el;cases el;exact .inl ⟨ok.stop Hs H r.ext.s1 r.ext.s3,q1 _ _ _ r⟩
def p6 (cap:List (Option Nat))(ε:ME):ME:=cap.map λo=>match o with
 |none=> .no
 |some i=>(ε[i]?).getD .no
def i8 (g:MG)(c:MB)(f:M)(ε0:ME):List PV->Option (List PV)
 |[]=>some []
 |x::xs=>(g x ε0).bind λε1=>(c ε1).bind λb=>if b=true then (f ε1).bind λy=>(i8 g c f ε0 xs).bind λys=>some (y::ys) else i8 g c f ε0 xs
def k8:MB:=λ_=>some true
instance:qk tYes k8 where
 h:=λe _ _ _ _ _ rs _ q=>by cases e;exact q _ _ (.refl rs.sub)
def xt (cap:List (Option Nat))(ts:List Nat):Bool:=decide (cap.filterMap id).Nodup&&ts.all λi=>decide (cap[i]?=some none)
def c5 (cap:List (Option Nat))(ts:List Nat)(i:MA)(g:MG)(c:MB)(f:M):M:=λε=>(i ε).bind λxs=>if xt cap ts=true/\xs.length<=lim then (i8 g c f (p6 cap ε) xs).bind λys=>some (.lst ys) else none
theorem RS.cap {cap:List (Option Nat)}(hc:(cap.filterMap id).Nodup)(r:RS Hs0 H0 Hs H σ ε):RS Hs0 H0 Hs H (u8 cap σ) (p6 cap ε):=by
 have inj:∀(i j k:Nat),cap[i]?=some (some k)->cap[j]?=some (some k)->i=j:=by
  clear r
  induction cap with
  |nil=>intro i j k h;simp at h
  |cons o cap ih =>
   intro i j k hi hj;have no:∀(l:Nat),o=some k->cap[l]?=some (some k)->False:=λl ho hl=>by
    subst ho;rw [List.filterMap_cons_some (by rfl)] at hc;exact (yk.mp hc).1 (ya.mpr ⟨some k,uT hl,rfl⟩)
   have hc':(cap.filterMap id).Nodup:=by
    cases o with
    |none=>rwa [List.filterMap_cons_none (by rfl)] at hc
    |some m=>rw [List.filterMap_cons_some (by rfl)] at hc;exact (yk.mp hc).2
   cases i with
   |zero =>
    cases j with
    |zero=>rfl
    |succ j=>exact (no j (by simpa using hi) (by simpa using hj)).elim
   |succ i =>
    cases j with
    |zero=>exact (no i (by simpa using hj) (by simpa using hi)).elim
    |succ j=>rw [ih hc' i j k (by simpa using hi) (by simpa using hj)]
 have at1:∀(i:Nat)(sl:MSlot),(p6 cap ε)[i]?=some sl->sl = .no∨∃ k,cap[i]?=some (some k)/\ε[k]?=some sl:=by
  intro i sl h;unfold p6 at h;rw [yN] at h;cases ho:cap[i]? with
  |none=>rw [ho] at h;cases h
  |some o =>
   rw [ho] at h;cases o with
   |none=>cases h;exact .inl rfl
   |some k =>
    cases hk:ε[k]? with
    |none=>simp only [uL,hk,uu] at h;cases h;exact .inl rfl
    |some s=>simp only [uL,hk,Option.getD_some] at h;cases h;exact .inr ⟨k,rfl,hk⟩
 have at2:∀(i k:Nat),cap[i]?=some (some k)->∀ v,σ[k]?=some (some v)->(u8 cap σ)[i]?=some (some v):=by intro i k h v e;unfold u8;rw [yN,h];simp [e]
 have at3:∀(i k:Nat)(v:V),cap[i]?=some (some k)->(u8 cap σ)[i]?=some (some v)->σ[k]?=some (some v):=by
  intro i k v h e;unfold u8 at e;rw [yN,h] at e;simp only [uL,yM,Option.some.injEq] at e;cases hs:σ[k]? with
  |none=>rw [hs] at e;cases e
  |some o=>rw [hs] at e;simp at e;rw [e]
 refine ⟨r.ext,λi x h=>?_,λi x h=>?_,λi j x y a h1 h2 h3 h4=>?_,by unfold u8 p6;rw [yZ,yZ],λi x h=>?_⟩
 ·rcases at1 i _ h with z|⟨k,hk,e⟩
  ·cases z
  ·obtain ⟨v,hv,rv⟩:=r.sh k x e;exact ⟨v,at2 i k hk v hv,rv⟩
 ·rcases at1 i _ h with z|⟨k,hk,e⟩
  ·cases z
  ·obtain ⟨v,hv,rv⟩:=r.ow k x e;exact ⟨v,at2 i k hk _ hv,rv⟩
 ·rcases at1 i _ h1 with z|⟨k,hk,e⟩
  ·cases z
  ·rcases at1 j _ h2 with z|⟨l,hl,e'⟩
   ·cases z
   ·have kl:=r.nd k l x y a e e' (at3 i k _ hk h3) (at3 j l _ hl h4);subst kl;exact inj i j k hk hl
 ·rcases at1 i _ h with z|⟨k,hk,e⟩
  ·cases z
  ·obtain ⟨v,hv,rv⟩:=r.bo k x e;exact ⟨v,at2 i k hk _ hv,rv⟩
theorem Reps.snoc (r:Reps H xs vs)(p:Rep H x v):Reps H (xs++[x]) (vs++[v]):=r.append (.one p)
instance {tt:TT}{cap:List (Option Nat)}{i:MA}{g:MG}{f:M}[si:zh wi i][sg:zN tg ts g][sc:qk tt c][sf:SemE te f]:xp (vH wi tg tt te cap) (c5 cap ts i g c f) where
 h:=λe Hs0 H0 Hs H σ rs Q q=>by
  obtain ⟨xs,ex,e1⟩:=bind_some e;split at e1
  ·rename_i hcl;obtain ⟨hcap,hl⟩:=hcl;unfold xt at hcap;rw [yt] at hcap;obtain ⟨ys,ey,e2⟩:=bind_some e1;cases e2;refine si.h ex rs λJ Hs1 H1 x1 ok=>?_;have rc:=((rs.go x1).cap (yi hcap.1)).rebase;have wk:∀ i∈ts,(u8 cap σ)[i]?=some none:=λi hi=>by
    unfold u8;rw [yN,yi (uY.mp hcap.2 i hi)];rfl
   refine ⟨λk m zs H=>m=xs.length-k/\k<=xs.length/\∃ Hs2 ws,Ext Hs1 H1 Hs2 H/\RS Hs1 H0 Hs2 H (u8 cap σ) (p6 cap _)/\Reps Hs2 ws zs/\ws.length<=k/\∃ rest,i8 g c f (p6 cap _) (xs.drop k)=some rest/\ys=ws++rest,
    ⟨xs.length,by simp,uZ _,Hs1,[],.refl x1.s3,rc,.nil,yS _,ys,ey,rfl⟩,?_⟩
   rintro k m zs H2 ⟨rfl,hk,Hs2,ws,x2,r2,rz,hw,rest,er,eys⟩;refine ⟨xg (by rw [rz.length];omega),?_⟩;by_cases hlt:k<xs.length
   ·have hd:xs.drop k=xs[k]::xs.drop (k+1):=yf hlt;rw [hd] at er;unfold i8 at er;obtain ⟨ε1,eg,er1⟩:=bind_some er;obtain ⟨b,eb,er2⟩:=bind_some er1;obtain ⟨go,yl⟩:=ok.go k xs[k] Hs2 H2 (by simp [hlt]) x2.s1 x2.s3;refine .inr ⟨go,λv H3 y=>?_⟩;obtain ⟨Hs3,x3,r3⟩:=yl v H3 y;refine sg.h eg (r2.go x3) r3 λσ2 rs2 bt=>⟨bt.wk wk,sc.h eb rs2 λHs4 H4 x4=>?_⟩;cases b with
    |true =>
     rw [if_pos rfl] at er2;obtain ⟨z,ez,er3⟩:=bind_some er2;obtain ⟨rest',er4,er5⟩:=bind_some er3;cases er5;refine xc (sf.h ez (rs2.go x4) λu Hs5 H5 x5 r5=>⟨xs.length-(k+1),by omega,rfl,hlt,Hs5,ws++[z],x2.trans (x3.trans (x4.trans x5)),((r2.go x3).go x4).go x5,?_,?_,rest',er4,?_⟩)
     ·exact (rz.mono (x3.s1.trans (x4.s1.trans x5.s1))).snoc r5
     ·rw [yD];simp;omega
     ·rw [uS];exact eys
    |false=>rw [if_neg yV] at er2;exact qI ⟨xs.length-(k+1),by omega,rfl,hlt,Hs4,ws,x2.trans (x3.trans x4),(r2.go x3).go x4,rz.mono (x3.s1.trans x4.s1),by omega,rest,er2,eys⟩
   ·have ek:k=xs.length:=by omega
    subst ek;rw [uO] at er;unfold i8 at er;cases er;refine .inl ⟨ok.stop Hs2 H2 x2.s1 x2.s3,λD hD=>?_⟩;rw [yC] at eys;subst eys;have x12:=x1.trans x2;exact q D Hs2 _ (x12.trans (.newO x2.s3 hD)) (x12.s2.free hD) (x2.s3.free hD) ⟨zs,v3,rz⟩
  ·cases e1
def p9 (n k:Nat)(f:MS):List PV->Option PV:=λxs=>if xs.length=k then (f (xs.map .sh++List.replicate (n-k) .no)).bind λo=>match o with
 | .rt y=>some y
 | .nx _=>some (.at .non)
 |_=>none else none
def xT (n k:Nat)(f:MS):List PV->Option PV:=λxs=>if xs.length=k then (f (xs.map .sh++List.replicate (n-k) .no)).bind λo=>match o with
 | .rt y=>some y
 |_=>none else none
end Mi
namespace Mi
open PySem PySem.Spec PyProof.Rows L2
variable{N ps:List Str}{qual x:Str}{st:Stmt}{f:Addr}{fd:FuncData}{b:MS}{m:List PV->Option PV}
theorem zF {Hs H:Hp}{xs:List PV}{vs:List V}(s:Same Hs H)(r:Reps Hs xs vs):RS Hs H Hs H (L2.start N vs) (xs.map .sh++List.replicate (N.length-xs.length) .no):=by
 have el:=r.length;have at1:∀(i:Nat)(sl:MSlot),(xs.map MSlot.sh++List.replicate (N.length-xs.length) .no)[i]?=some sl->sl = .no∨∃ x,xs[i]?=some x/\sl = .sh x:=by
  intro i sl h;by_cases hi:i<xs.length
  ·rw [uN (by rw [yZ];exact hi),yN] at h;obtain ⟨x,hx,rfl⟩:=yI.mp h;exact .inr ⟨x,hx,rfl⟩
  ·rw [uJ (by rw [yZ];omega),uG] at h;split at h
   ·cases h;exact .inl rfl
   ·cases h
 refine ⟨.refl s,λi x h=>?_,λi x h=>?_,λi j x y a h1 _ _ _=>?_,?_,λi x h=>?_⟩
 ·rcases at1 i _ h with z|⟨y,hy,z⟩
  ·cases z
  ·cases z;obtain ⟨v,hv,rv⟩:=r.get hy;refine ⟨v,?_,rv⟩;unfold L2.start;rw [uN (by rw [yZ];exact (yv.mp hv).1),yN,hv];rfl
 ·rcases at1 i _ h with z|⟨y,hy,z⟩<;>cases z
 ·rcases at1 i _ h1 with z|⟨y,hy,z⟩<;>cases z
 ·unfold L2.start;rw [yD,yD,yZ,yZ,List.length_replicate,List.length_replicate,el]
 ·rcases at1 i _ h with z|⟨y,hy,z⟩<;>cases z
section
variable {P:Program}{w:World}{K:Fg}{mg:Str->Option Value}{base:Heap}
theorem okP {k:Nat}(F:Fun K x qual st f fd)(S:y6 N ps (j6 st))(hm:m=p9 N.length ps.length b)(hb:∀(cdv:Value)(A:Around)(outer:List Env)(s:Shared)(H:Hp)(E:XK),Room k (A.deeper (envOfC qual (j6 st) s.heap.objs.size f cdv)) -> ∃ t,PSs (qc v8 P w K mg base N qual (j6 st) f cdv A outer s H E).nox (c7 st) t/\c9 false t b):FnOk P w K mg base v8 (k+1) f fd ps (y8 m):=by
 subst hm;refine F.ok S (λvs H Q E h=>?_) (λcdv A outer s H vs Q E hr h=>?_)
 ·obtain ⟨Hs,xs,y,_,r,e,_⟩:=h;unfold p9 at e;split at e
  ·rename_i hl;rw [r.length];exact hl
  ·cases e
 ·obtain ⟨Hs,xs,y,sm,r,e,q⟩:=h;obtain ⟨t,ht,sem⟩:=hb cdv A outer s H E hr;refine ⟨t,ht,?_⟩;unfold p9 at e;split at e
  ·rename_i hl;obtain ⟨o,eo,e1⟩:=bind_some e;refine sem.h eo (by rw [<- hl];exact zF sm r) ?_;cases o with
   |rt z=>cases e1;exact λv Hs' H' x rv=>q v Hs' H' x rv
   |nx ε=>cases e1;exact λHs' H' σ rs=>q _ Hs' H' rs.ext (rep_at.mpr rfl)
   |bk ε=>cases e1
   |ct ε=>cases e1
  ·cases e
theorem okO {k:Nat}(F:Fun K x qual st f fd)(S:y6 N ps (j6 st))(hm:m=xT N.length ps.length b)(hb:∀(cdv:Value)(A:Around)(outer:List Env)(s:Shared)(H:Hp)(E:XK),Room k (A.deeper (envOfC qual (j6 st) s.heap.objs.size f cdv)) -> ∃ t,PSs (qc v8 P w K mg base N qual (j6 st) f cdv A outer s H E).nox (c7 st) t/\c9 true t b):FnOk P w K mg base v8 (k+1) f fd ps (qz m):=by
 subst hm;refine F.ok S (λvs H Q E h=>?_) (λcdv A outer s H vs Q E hr h=>?_)
 ·obtain ⟨Hs,xs,y,_,r,e,_⟩:=h;unfold xT at e;split at e
  ·rename_i hl;rw [r.length];exact hl
  ·cases e
 ·obtain ⟨Hs,xs,y,sm,r,e,q⟩:=h;obtain ⟨t,ht,sem⟩:=hb cdv A outer s H E hr;refine ⟨t,ht,?_⟩;unfold xT at e;split at e
  ·rename_i hl;obtain ⟨o,eo,e1⟩:=bind_some e;refine sem.h eo (by rw [<- hl];exact zF sm r) ?_;cases o with
   |rt z=>cases e1;exact λa Hs' H' x n n' t=>q a Hs' H' x n n' t
   |nx ε=>cases e1
   |bk ε=>cases e1
   |ct ε=>cases e1
  ·cases e
end
end Mi
namespace Mi
open PySem L2
variable{X:Cx}{K:Fg}{ta:TA}{j:Int}{H H0 Hs Hs0:Hp}{xs ys:List PV}{x y:PV}{v:V}{te tv:TE}{vs ws:List V}{l u:ME->Option (Option Int)}{o:HO}{f nm qual:Str}{tt:TT}{r:Option PV}{G g:MG}{t tb:TS}{S:List Addr}{σ σ':St}{ε ε':ME}{n:Nat}{E:XK}{pre:List PV->Prop}{R:List PV->PV->Prop}{as:MA}{c:MB}{wi:TI}{tg:TG}{ts:List Nat}{N ns ps:List Str}{st:Stmt}{fd:FuncData}{m:List PV->Option PV}{C:Addr}{pos:Pos}{α:Type}
theorem zr {a:Expr}{ta:TE}(h:X.K=K)(ha:PE X a ta)(he:∀ whole,isTrue a X.env whole=(do let v <- whole;standAt a.pos;holding [v] (truthy v))):PT X a (tTru K ta):=DD h ha he
abbrev xN:PV->PV->Option PV:=pI λi j=>some (.int (i-j))
abbrev pLt:PV->PV->Option PV:=pI λi j=>some (.bl (decide (i<j)))
abbrev pLe:PV->PV->Option PV:=pI λi j=>some (.bl (decide (i<=j)))
abbrev pGt:PV->PV->Option PV:=pI λi j=>some (.bl (decide (j<i)))
abbrev pGe:PV->PV->Option PV:=pI λi j=>some (.bl (decide (j<=i)))
instance {i:Int}:Decidable (zI i j):=by unfold zI;infer_instance
instance {i:Int}:Decidable (jA i j):=by unfold jA;infer_instance
abbrev pDiv:PV->PV->Option PV:=pI λi j=>if zI i j then some (.int (i / j)) else none
abbrev jM:PV->PV->Option PV:=pI λi j=>if 0<j then some (.int (i % j)) else none
abbrev pPow:PV->PV->Option PV:=pI λi j=>if jA i j then some (.int (i ^ j.toNat)) else none
abbrev xz:PV->Option PV:=pU λi=> .int (-i)
theorem Reps.nil_of (r:Reps H xs []):xs=[]:=uF.mp r.length.symm
def qG:PV->PV->Option PV
 | .at (.int i),.at (.int j)=>some (.at (.int (i+j)))
 | .at (.str x),.at (.str y)=>if x.length+y.length<=lim then some (.at (.str (x++y))) else none
 | .lst xs,.lst ys=>if xs.length+ys.length<=lim then some (.lst (xs++ys)) else none
 | .tup xs,.tup ys=>if xs≠[]/\xs.length+ys.length<=lim then some (.tup (xs++ys)) else none
 |_,_=>none
instance :SemR (Jj K) qG where
 h:=λ{x y z} e {Hs H v w} s a b {Q} q=>by
  unfold qG at e;split at e
  ·cases e;exact .inl ⟨_,_,u5 a,u5 b,q _ _ _ (.refl s) (rep_at.mpr rfl)⟩
  ·split at e
   ·rename_i hl;cases e;exact .inr (.inl ⟨_,_,u5 a,u5 b,xg hl,q _ _ _ (.refl s) (rep_at.mpr rfl)⟩)
   ·cases e
  ·split at e
   ·rename_i hl;cases e;obtain ⟨p,vs,rfl,e1,r1⟩:=o4 s a;obtain ⟨p',ws,rfl,e2,r2⟩:=o4 s b;refine .inr (.inr (.inl ⟨p,p',vs,ws,rfl,rfl,SqL.of e1,SqL.of e2,xg (by rw [r1.length,r2.length];exact hl),λl hl=>?_⟩));exact q _ _ _ (.new s hl) (rep_lst.mpr ⟨l,_,rfl,v3,(r1.append r2).mono (Ext.new s hl).s1⟩)
   ·cases e
  ·split at e
   ·rename_i hl;cases e;obtain ⟨p,vs,rfl,e1,r1⟩:=xk s a;obtain ⟨p',ws,rfl,e2,r2⟩:=xk s b;have hn:vs≠[]:=λz=>by
     have h1:=r1.length;rw [z] at h1;exact hl.1 (uF.mp h1.symm)
    refine .inr (.inr (.inr ⟨p,p',vs,ws,rfl,rfl,SqT.of e1,SqT.of e2,hn,xg (by rw [r1.length,r2.length];exact hl.2),λz=>?_,λz l hl=>?_⟩))
    ·subst z;cases r2.nil_of;rw [yC] at q;rcases a with a|⟨_,_,_,t⟩
     ·exact q _ _ _ (.refl s) a
     ·exact t.elim
    ·exact q _ _ _ (.new s hl) (rep_tup.mpr ⟨l,_,rfl,v3,(r1.append r2).mono (Ext.new s hl).s1⟩)
   ·cases e
  ·cases e
instance :SemRO (Jj K) Qk where
 h:=λ{x y z} e {Hs H v w} s a b {Q} q=> .inr (.inr (.inl (SemRO.h (r:=XH K) e s a b q)))
def qK:List PV->Option PV
 |[.at (.str x)]=>if x.length<=lim then some (.at (.int x.length)) else none
 |[.lst xs]=>some (.at (.int xs.length))
 |[.tup xs]=>some (.at (.int xs.length))
 |[.dk ks _]=>some (.at (.int ks.length))
 |_=>none
instance :jW (rLen K) qK where
 h:=λ{xs z} e {Hs H vs} s r {Q} q=>by
  unfold qK at e;split at e
  ·split at e
   ·rename_i hl;cases e;obtain ⟨v,rfl,a⟩:=za r;cases u5 a;exact .inl ⟨_,_,rfl,⟨xg hl,rfl⟩,q _ _ _ (.refl s) (rep_at.mpr rfl)⟩
   ·cases e
  ·cases e;obtain ⟨v,rfl,a⟩:=za r;obtain ⟨p,ws,rfl,e1,r1⟩:=o4 s a;exact .inl ⟨_,_,rfl,.inl ⟨ws,SqL.of e1,rfl⟩,q _ _ _ (.refl s) (rep_at.mpr (by rw [r1.length]))⟩
  ·cases e;obtain ⟨v,rfl,a⟩:=za r;obtain ⟨p,ws,rfl,e1,r1⟩:=xk s a;exact .inl ⟨_,_,rfl,.inr ⟨ws,SqT.of e1,rfl⟩,q _ _ _ (.refl s) (rep_at.mpr (by rw [r1.length]))⟩
  ·cases e;obtain ⟨v,rfl,a⟩:=za r;obtain ⟨p,kvs,rfl,e1,k,r1⟩:=wD s a;exact .inr ⟨p,kvs,rfl,e1,q _ _ _ (.refl s) (rep_at.mpr (by rw [<- k,yZ]))⟩
  ·cases e
def xi:List PV->Option PV
 |[.lst xs]=>some (.lst xs)
 |[.tup xs]=>some (.lst xs)
 |_=>none
instance :XY (Um K) xi where
 h:=λ{xs z} e {Hs H vs} s r {Q} q=>by
  unfold xi at e;split at e
  ·cases e;obtain ⟨v,rfl,a⟩:=za r;obtain ⟨p,ws,rfl,e1,r1⟩:=o4 s a;exact ⟨p,ws,rfl,.inl (SqL.of e1),λl hl=>q l _ _ (.newO s hl) hl (s.free hl) ⟨ws,v3,r1⟩⟩
  ·cases e;obtain ⟨v,rfl,a⟩:=za r;obtain ⟨p,ws,rfl,e1,r1⟩:=xk s a;exact ⟨p,ws,rfl,.inr (SqT.of e1),λl hl=>q l _ _ (.newO s hl) hl (s.free hl) ⟨ws,v3,r1⟩⟩
  ·cases e
def tyP:PV->Option String
 | .at .non=>some "NoneType"
 | .at (.bl _)=>some "bool"
 | .at (.int _)=>some "int"
 | .at (.str _)=>some "str"
 | .lst _=>some "list"
 | .tup _=>some "tuple"
 | .dk _ _=>some "dict"
 |_=>none
theorem Lj {T:String}(s:Same Hs H)(r:RepB Hs H x v)(e:tyP x=some T):qZ K H v (.type T):=by
 unfold tyP at e;split at e
 ·cases e;cases u5 r;exact .non
 ·cases e;cases u5 r;exact .bl _
 ·cases e;cases u5 r;exact .int _
 ·cases e;cases u5 r;exact .str _
 ·cases e;obtain ⟨p,ws,rfl,e1,r1⟩:=o4 s r;exact .lst e1
 ·cases e;obtain ⟨p,ws,rfl,e1,r1⟩:=xk s r;exact .tup e1
 ·cases e;obtain ⟨p,ws,rfl,e1,_⟩:=wD s r;exact .dK e1
 ·cases e
def i4:List PV->Option PV
 |[x,.at (.ty n)]=>(tyP x).bind λT=>(tyB T n).bind λb=>some (.at (.bl b))
 |_=>none
instance :jW (rIsi K) i4 where
 h:=λ{xs z} e {Hs H vs} s r {Q} q=>by
  unfold i4 at e;split at e
  ·obtain ⟨T,eT,e1⟩:=bind_some e;obtain ⟨b,eb,e2⟩:=bind_some e1;cases e2;obtain ⟨v,w,rfl,a,c⟩:=Jq r;cases u5 c;exact ⟨v,_,T,b,rfl,Lj s a eT,eb,q _ _ _ (.refl s) (rep_at.mpr rfl)⟩
  ·cases e
def bls:List PV->Option (List Bool)
 |[]=>some []
 | .at (.bl b)::xs=>(bls xs).map (b::·)
 |_::_=>none
theorem Ww:∀{xs:List PV}{bs:List Bool},bls xs=some bs->xs=bs.map λb=> .at (.bl b)
 |[],_,h=>by cases h;rfl
 |x::xs,bs,h=>by
  unfold bls at h;split at h
  ·rename_i heq;cases heq
  ·rename_i b ys heq;injection heq with h1 h2;obtain ⟨r,e,rfl⟩:=yI.mp h;subst h2;rw [h1,yF,Ww e]
  ·cases h
def jf:List PV->Option PV
 |[.lst xs]=>(bls xs).bind λbs=>some (.at (.bl (bs.all id)))
 |_=>none
instance :jW (Uf K) jf where
 h:=λ{xs z} e {Hs H vs} s r {Q} q=>by
  unfold jf at e;split at e
  ·obtain ⟨bs,eb,e1⟩:=bind_some e;cases e1;obtain ⟨v,rfl,a⟩:=za r;obtain ⟨p,ws,rfl,e1,r1⟩:=o4 s a;rw [Ww eb,show (bs.map λb=>PV.at (.bl b))=(bs.map V.bl).map .at by rw [yq];rfl] at r1;cases r1.ats;exact ⟨p,bs,rfl,SqL.of e1,q _ _ _ (.refl s) (rep_at.mpr rfl)⟩
  ·cases e
def vf:PV->Bool
 | .at .non=>true
 |_=>false
def Qb:PV->Bool
 | .op _=>true
 |_=>false
def wx:PV->PV->Option PV:=λx y=>if vf y=true/\Qb x=false then some (.at (.bl (vf x))) else none
def wz:PV->PV->Option PV:=λx y=>if vf y=true/\Qb x=false then some (.at (.bl (!vf x))) else none
theorem Xi (s:Same Hs H)(r:RepB Hs H x v)(ho:Qb x=false):decide (v = .non)=vf x:=by
 cases x with
 |«at» u=>cases u5 r;cases v<;>first|rfl|(exact yL (λz=>nomatch z))
 |tup xs=>obtain ⟨p,ws,rfl,_⟩:=xk s r;exact yL (λz=>nomatch z)
 |lst xs=>obtain ⟨p,ws,rfl,_⟩:=o4 s r;exact yL (λz=>nomatch z)
 |dk ks xs=>obtain ⟨p,ws,rfl,_⟩:=wD s r;exact yL (λz=>nomatch z)
 |dn fl ks xs=>obtain ⟨p,as,ws,rfl,_⟩:=DS s r;exact yL (λz=>nomatch z)
 |fn fl ks xs=>obtain ⟨p,o,as,ws,rfl,_⟩:=DT s r;exact yL (λz=>nomatch z)
 |fk ks xs=>obtain ⟨p,o,ws,rfl,_⟩:=Jn s r;exact yL (λz=>nomatch z)
 |ob C ns xs=>obtain ⟨p,dx,ws,rfl,_⟩:=Uz s r;exact yL (λz=>nomatch z)
 |op φ=>cases ho
instance:SemR rIsN wx where
 h:=λ{x y z} e {Hs H v w} s a b {Q} q=>by
  unfold wx at e;split at e
  ·rename_i hy;cases e;have hb:Qb y=false:=by cases y<;>first|rfl|(exact absurd hy.1 (by simp [vf]))
   refine ⟨yi ((Xi s b hb).trans hy.1),?_⟩;rw [Xi s a hy.2];exact q _ _ _ (.refl s) (rep_at.mpr rfl)
  ·cases e
instance:SemR Up wz where
 h:=λ{x y z} e {Hs H v w} s a b {Q} q=>by
  unfold wz at e;split at e
  ·rename_i hy;cases e;have hb:Qb y=false:=by cases y<;>first|rfl|(exact absurd hy.1 (by simp [vf]))
   refine ⟨yi ((Xi s b hb).trans hy.1),?_⟩;rw [Xi s a hy.2];exact q _ _ _ (.refl s) (rep_at.mpr rfl)
  ·cases e
def zp (f:PV->PV->Option Bool):List PV->List PV->Option Bool
 |x::xs,y::ys=>(f x y).bind λa=>(zp f xs ys).bind λb=>some (a&&b)
 |_,_=>some true
def peq0:PV->PV->Option Bool
 | .at u,.at v=>if y9 u=true/\y9 v=true then some (t9 u v) else none
 |_,_=>none
def peq1 (f:PV->PV->Option Bool):PV->PV->Option Bool
 | .at u,.at v=>if y9 u=true/\y9 v=true then some (t9 u v) else none
 | .lst xs,.lst ys=>if xs.length=ys.length then zp f xs ys else some false
 | .tup xs,.tup ys=>(zp f xs ys).bind λb=>some (b&&xs.length==ys.length)
 | .lst _,.tup _=>some false
 | .tup _,.lst _=>some false
 | .at u,.lst _=>if y9 u=true then some false else none
 | .at u,.tup _=>if y9 u=true then some false else none
 | .lst _,.at u=>if y9 u=true then some false else none
 | .tup _,.at u=>if y9 u=true then some false else none
 |_,_=>none
def peq:Nat->PV->PV->Option Bool
 |0=>peq0
 |n+1=>peq1 (peq n)
theorem Je {K:Fg}{Hs H:Hp}{n:Nat}(s:Same Hs H)(ih:∀{x y:PV}{v w:V}{b:Bool},peq n x y=some b->Rep Hs x v->Rep Hs y w->EqP K H n v w b):∀{xs ys:List PV}{vs ws:List V}{b:Bool},zp (peq n) xs ys=some b->Reps Hs xs vs->Reps Hs ys ws->∃ e:Nat->Bool,(∀ j (h1:j<vs.length) (h2:j<ws.length),EqP K H n vs[j] ws[j] (e j))/\b=(List.range (min vs.length ws.length)).all e
 |[],ys,vs,ws,b,h,r1,r2=>by
  cases reps_nil.mp r1;unfold zp at h;cases h;exact ⟨λ_=>true,λj h1=>absurd h1 (Nat.not_lt_zero _),by simp⟩
 |x::xs,[],vs,ws,b,h,r1,r2=>by
  cases reps_nil.mp r2;unfold zp at h;cases h;exact ⟨λ_=>true,λj h1 h2=>absurd h2 (Nat.not_lt_zero _),by simp⟩
 |x::xs,y::ys,vs,ws,b,h,r1,r2=>by
  obtain ⟨v,vr,rfl,p1,q1⟩:=reps_cons.mp r1;obtain ⟨w,wr,rfl,p2,q2⟩:=reps_cons.mp r2;unfold zp at h;obtain ⟨a,ea,h1⟩:=bind_some h;obtain ⟨c,ec,h2⟩:=bind_some h1;cases h2;obtain ⟨e,he,hb⟩:=Je s ih ec q1 q2;refine ⟨λj=>match j with|0=>a|j+1=>e j,λj h1 h2=>?_,?_⟩
  ·cases j with
   |zero=>exact ih ea p1 p2
   |succ j=>exact he j (by simpa using h1) (by simpa using h2)
  ·rw [yz,yz,Nat.succ_min_succ,List.range_succ_eq_map,List.all_cons,List.all_map,hb];rfl
theorem Jd {K:Fg}{Hs H:Hp}(s:Same Hs H):∀(n:Nat){x y:PV}{v w:V}{b:Bool},peq n x y=some b->RepB Hs H x v->RepB Hs H y w->EqP K H n v w b
 |0,x,y,v,w,b,h,r1,r2=>by
  unfold peq peq0 at h;split at h
  ·split at h
   ·rename_i hf;cases h;cases u5 r1;cases u5 r2;exact ⟨hf.1,hf.2,rfl⟩
   ·cases h
  ·cases h
 |n+1,x,y,v,w,b,h,r1,r2=>by
  have ih:∀{x y:PV}{v w:V}{b:Bool},peq n x y=some b->Rep Hs x v->Rep Hs y w->EqP K H n v w b:=λh r1 r2=>Jd s n h (.inl r1) (.inl r2);unfold peq peq1 at h;split at h
  ·split at h
   ·rename_i hf;cases h;cases u5 r1;cases u5 r2;exact .inl ⟨hf.1,hf.2,rfl⟩
   ·cases h
  ·obtain ⟨a,vs,rfl,e1,q1⟩:=o4 s r1;obtain ⟨c,ws,rfl,e2,q2⟩:=o4 s r2;refine .inr (.inl ⟨a,c,vs,ws,rfl,rfl,SqL.of e1,SqL.of e2,?_⟩);split at h
   ·rename_i hl;obtain ⟨e,he,hb⟩:=Je s ih h q1 q2;have hl':vs.length=ws.length:=by rw [q1.length,q2.length,hl]
    exact .inr ⟨hl',e,he,by rw [hb,<- hl',Nat.min_self]⟩
   ·rename_i hl;cases h;exact .inl ⟨by rw [q1.length,q2.length];exact hl,rfl⟩
  ·obtain ⟨a,vs,rfl,e1,q1⟩:=xk s r1;obtain ⟨c,ws,rfl,e2,q2⟩:=xk s r2;obtain ⟨d,ed,h1⟩:=bind_some h;cases h1;obtain ⟨e,he,hb⟩:=Je s ih ed q1 q2;exact .inr (.inr (.inl ⟨a,c,vs,ws,rfl,rfl,SqT.of e1,SqT.of e2,e,he,by rw [hb,q1.length,q2.length]⟩))
  ·cases h;obtain ⟨a,vs,rfl,e1,q1⟩:=o4 s r1;obtain ⟨c,ws,rfl,e2,q2⟩:=xk s r2;exact .inr (.inr (.inr (.inl ⟨a,c,vs,ws,rfl,rfl,SqL.of e1,SqT.of e2,rfl⟩)))
  ·cases h;obtain ⟨a,vs,rfl,e1,q1⟩:=xk s r1;obtain ⟨c,ws,rfl,e2,q2⟩:=o4 s r2;exact .inr (.inr (.inr (.inr (.inl ⟨a,c,vs,ws,rfl,rfl,SqT.of e1,SqL.of e2,rfl⟩))))
  ·split at h
   ·rename_i hf;cases h;cases u5 r1;obtain ⟨c,ws,rfl,e2,q2⟩:=o4 s r2;exact .inr (.inr (.inr (.inr (.inr (.inl ⟨c,ws,hf,rfl,.inl (SqL.of e2),rfl⟩)))))
   ·cases h
  ·split at h
   ·rename_i hf;cases h;cases u5 r1;obtain ⟨c,ws,rfl,e2,q2⟩:=xk s r2;exact .inr (.inr (.inr (.inr (.inr (.inl ⟨c,ws,hf,rfl,.inr (SqT.of e2),rfl⟩)))))
   ·cases h
  ·split at h
   ·rename_i hf;cases h;cases u5 r2;obtain ⟨c,ws,rfl,e2,q2⟩:=o4 s r1;exact .inr (.inr (.inr (.inr (.inr (.inr ⟨c,ws,hf,rfl,.inl (SqL.of e2),rfl⟩)))))
   ·cases h
  ·split at h
   ·rename_i hf;cases h;cases u5 r2;obtain ⟨c,ws,rfl,e2,q2⟩:=xk s r1;exact .inr (.inr (.inr (.inr (.inr (.inr ⟨c,ws,hf,rfl,.inr (SqT.of e2),rfl⟩)))))
   ·cases h
  ·cases h
def pEq:PV->PV->Option PV:=λx y=>(peq 6 x y).bind λb=>some (.at (.bl b))
def pNe:PV->PV->Option PV:=λx y=>(peq 6 x y).bind λb=>some (.at (.bl (!b)))
instance :SemR (rEqD K 6 false) pEq where
 h:=λ{x y z} e {Hs H v w} s a b {Q} q=>by
  obtain ⟨c,ec,e1⟩:=bind_some e;cases e1;exact ⟨c,Jd s 6 ec a b,q _ _ _ (.refl s) (rep_at.mpr rfl)⟩
instance :SemR (rEqD K 6 true) pNe where
 h:=λ{x y z} e {Hs H v w} s a b {Q} q=>by
  obtain ⟨c,ec,e1⟩:=bind_some e;cases e1;exact ⟨c,Jd s 6 ec a b,q _ _ _ (.refl s) (rep_at.mpr rfl)⟩
class SemP (to:TO)(f:ME->Option (Option Int)):Prop where
 h:∀{ε y},f ε=some y->∀{Hs0 H0 Hs H σ},RS Hs0 H0 Hs H σ ε->∀{Q:Option Int->Hp->Prop},(∀ Hs' H',Ext Hs H Hs' H'->Q y H')->to σ H Q
def pNo:ME->Option (Option Int):=λ_=>some none
def pInt:PV->Option Int
 | .at (.int i)=>some i
 |_=>none
def pSo (a:M):ME->Option (Option Int):=λε=>(a ε).bind λx=>(pInt x).bind λi=>some (some i)
instance:SemP UQ pNo where
 h:=λe _ _ _ _ _ rs _ q=>by cases e;exact q _ _ (.refl rs.sub)
instance {a:M}[sa:i7 te a]:SemP (US te) (pSo a) where
 h:=λe _ _ _ _ _ rs _ q=>by
  obtain ⟨x,ex,e1⟩:=bind_some e;obtain ⟨i,ei,e2⟩:=bind_some e1;cases e2;unfold pInt at ei;split at ei
  ·cases ei;exact sa.h ex rs λv Hs1 H1 x1 r1=>⟨_,u5 r1,q _ _ x1⟩
  ·cases ei
def wS (xs:List PV)(lo hi:Option Int):List PV:=(xs.drop (HT.sIx xs.length 0 lo)).take (HT.sIx xs.length xs.length hi-HT.sIx xs.length 0 lo)
theorem Reps.cut (r:Reps H xs vs)(lo hi:Option Int):Reps H (wS xs lo hi) (vX vs lo hi):=by unfold wS vX;rw [r.length];exact (r.drop _).take _
def wW (a:M)(l u:ME->Option (Option Int)):M:=λε=>(a ε).bind λx=>(l ε).bind λlo=>(u ε).bind λhi=>match x with
 | .lst xs=>some (.lst (wS xs lo hi))
 |_=>none
instance {tl th:TO}{a:M}[sa:i7 te a][sl:SemP tl l][su:SemP th u]:xp (tSl (rSlL K) te tl th) (wW a l u) where
 h:=λe _ _ _ _ _ rs _ q=>by
  obtain ⟨x,ex,e1⟩:=bind_some e;obtain ⟨lo,el,e2⟩:=bind_some e1;obtain ⟨hi,eu,e3⟩:=bind_some e2;split at e3
  ·cases e3;refine sa.h ex rs λv Hs1 H1 x1 r1=>sl.h el (rs.go x1) λHs2 H2 x2=>su.h eu ((rs.go x1).go x2) λHs3 H3 x3=>?_;obtain ⟨p,vs,rfl,e1,r⟩:=o4 x3.s3 ((r1.ext x2).ext x3);have x13:=x1.trans (x2.trans x3);exact ⟨p,vs,rfl,SqL.of e1,λd hd=>q d _ _ (x13.trans (.newO x3.s3 hd)) (x13.s2.free hd) (x3.s3.free hd) ⟨_,v3,r.cut lo hi⟩⟩
  ·cases e3
def xV (n:Nat):List PV->List PV
 |[]=>[]
 |x::xs=> .tup [.at (.int n),x]::xV (n+1) xs
theorem WX:∀{xs:List PV}{n i:Nat}{z:PV},(xV n xs)[i]?=some z->∃ x,xs[i]?=some x/\z = .tup [.at (.int ((n+i:Nat):Int)),x]
 |[],n,i,z,h=>by simp [xV] at h
 |x::xs,n,0,z,h=>by simp [xV] at h;exact ⟨x,rfl,h.symm⟩
 |x::xs,n,i+1,z,h=>by
  obtain ⟨y,h1,h2⟩:=WX (xs:=xs) (n:=n+1) (i:=i) (z:=z) (by simpa [xV] using h);exact ⟨y,by simpa using h1,by rw [h2,show n+1+i=n+(i+1) by omega]⟩
theorem WY:∀{xs:List PV}{n:Nat},(xV n xs).length=xs.length
 |[],_=>rfl
 |x::xs,n=>by simp [xV,WY]
theorem BE {a:Addr}(h:Hs a=some (.lst vs))(r:Reps Hs xs vs):jV (Ite K a) (xV 0 xs) Hs where
 go:=λi x Hs1 H1 e g1 g2=>by
  obtain ⟨y,ey,rfl⟩:=WX e;obtain ⟨v,ev,rv⟩:=r.get ey;refine ⟨⟨vs,v,SqL.of (g2 _ _ (g1 _ _ h)),ev⟩,λw H2 z=>?_⟩;obtain ⟨p,u,hp,rfl,rfl,hu⟩:=z;have e1:=hu vs (SqL.of (g2 _ _ (g1 _ _ h)));rw [ev] at e1;cases e1;refine ⟨_,.new g2 hp,rep_tup.mpr ⟨p,_,rfl,v3,.cons (rep_at.mpr (by rw [Nat.zero_add])) (.one (rv.mono (g1.trans (Ext.new g2 hp).s1)))⟩⟩
 stop:=λHs1 H1 g1 g2=>⟨vs,SqL.of (g2 _ _ (g1 _ _ h)),by rw [r.length,WY];exact yS _⟩
def Zm (a:MA):MA:=λε=>(a ε).bind λxs=>match xs with
 |[.lst ys]=>some (xV 0 ys)
 |_=>none
instance {a:MA}[sa:o5 ta a]:zh (Zz K ta) (Zm a) where
 h:=λe _ _ _ _ _ rs _ q=>by
  obtain ⟨xs,ex,e1⟩:=bind_some e;split at e1
  ·cases e1;refine sa.h ex rs λvs Hs1 H1 x1 r1=>?_;obtain ⟨v,r,rfl,p1,p2⟩:=reps_cons.mp r1;cases reps_nil.mp p2;obtain ⟨p,ws,rfl,hp,rw⟩:=rep_lst.mp p1;exact ⟨p,rfl,⟨ws,SqL.of (x1.s3 _ _ hp)⟩,q _ _ _ x1 (BE hp rw)⟩
  ·cases e1
def qX:List PV->List PV->List PV
 |x::xs,y::ys=> .tup [x,y]::qX xs ys
 |_,_=>[]
theorem GA:∀{xs ys:List PV}{i:Nat}{z:PV},(qX xs ys)[i]?=some z->∃ x y,xs[i]?=some x/\ys[i]?=some y/\z = .tup [x,y]
 |[],_,i,z,h=>by simp [qX] at h
 |_::_,[],i,z,h=>by simp [qX] at h
 |x::xs,y::ys,0,z,h=>by simp [qX] at h;exact ⟨x,y,rfl,rfl,h.symm⟩
 |x::xs,y::ys,i+1,z,h=>by
  obtain ⟨u,v,h1,h2,h3⟩:=GA (xs:=xs) (ys:=ys) (i:=i) (z:=z) (by simpa [qX] using h);exact ⟨u,v,by simpa using h1,by simpa using h2,h3⟩
theorem GB:∀{xs ys:List PV},(qX xs ys).length=min xs.length ys.length
 |[],_=>by simp [qX]
 |_::_,[]=>by simp [qX]
 |x::xs,y::ys=>by simp [qX,GB,Nat.succ_min_succ]
theorem BJ {a b:Addr}(h:Hs a=some (.lst vs))(r:Reps Hs xs vs)(h':Hs b=some (.lst ws))(r':Reps Hs ys ws):jV (Itz K a b) (qX xs ys) Hs where
 go:=λi x Hs1 H1 e g1 g2=>by
  obtain ⟨y,z,ey,ez,rfl⟩:=GA e;obtain ⟨v,ev,rv⟩:=r.get ey;obtain ⟨w,ew,rw⟩:=r'.get ez;have q1:SqL K H1 a vs:=SqL.of (g2 _ _ (g1 _ _ h));have q2:SqL K H1 b ws:=SqL.of (g2 _ _ (g1 _ _ h'));refine ⟨⟨vs,ws,v,w,q1,q2,ev,ew⟩,λu H2 z=>?_⟩;obtain ⟨p,v',w',hp,rfl,rfl,hv,hw⟩:=z;have e1:=hv vs q1;have e2:=hw ws q2;rw [ev] at e1;rw [ew] at e2;cases e1;cases e2;have g3:=g1.trans (Ext.new (o:= .tup [v,w]) g2 hp).s1;exact ⟨_,.new g2 hp,rep_tup.mpr ⟨p,_,rfl,v3,.cons (rv.mono g3) (.one (rw.mono g3))⟩⟩
 stop:=λHs1 H1 g1 g2=>⟨vs,ws,SqL.of (g2 _ _ (g1 _ _ h)),SqL.of (g2 _ _ (g1 _ _ h')),by rw [r.length,r'.length,GB];omega⟩
def dZip (a:MA):MA:=λε=>(a ε).bind λxs=>match xs with
 |[.lst ys,.lst zs]=>some (qX ys zs)
 |_=>none
instance {a:MA}[sa:o5 ta a]:zh (iZip K ta) (dZip a) where
 h:=λe _ _ _ _ _ rs _ q=>by
  obtain ⟨xs,ex,e1⟩:=bind_some e;split at e1
  ·cases e1;refine sa.h ex rs λvs Hs1 H1 x1 r1=>?_;obtain ⟨v,r,rfl,p1,p2⟩:=reps_cons.mp r1;obtain ⟨v',r',rfl,p3,p4⟩:=reps_cons.mp p2;cases reps_nil.mp p4;obtain ⟨p,ws,rfl,hp,rw1⟩:=rep_lst.mp p1;obtain ⟨p',ws',rfl,hp',rw2⟩:=rep_lst.mp p3;exact ⟨p,p',rfl,⟨ws,SqL.of (x1.s3 _ _ hp)⟩,⟨ws',SqL.of (x1.s3 _ _ hp')⟩,q _ _ _ x1 (BJ hp rw1 hp' rw2)⟩
  ·cases e1
structure RD (S:List Addr)(Hs0 H0 Hs H:Hp)(σ:St)(ε:ME):Prop where
 s1:Same Hs0 Hs
 s2:∀ b o,H0 b=some o->b∉S->H b=some o
 s3:Same Hs H
 s4:∀ b,H0 b≠none->Hs0 b=none->Hs b=none
 sh:∀(i:Nat)(x:PV),ε[i]?=some (.sh x)->∃ v,σ[i]?=some (some v)/\Rep Hs x v
 ow:∀(i:Nat)(x:PV),ε[i]?=some (.ow x)->∃ a,σ[i]?=some (some (.ref a))/\(H0 a=none∨a∈S)/\Hs a=none/\Top Hs H a x
 nd:∀(i j:Nat)(x y:PV)(a:Addr),ε[i]?=some (.ow x)->ε[j]?=some (.ow y)->σ[i]?=some (some (.ref a))->σ[j]?=some (some (.ref a))->i=j
 len:σ.length=ε.length
 pin:∀ a∈S,σ[0]?=some (some (.ref a))
 live:∀ a∈S,H a≠none
 str:∀ a∈S,∃ y,ε[0]?=some (.ow y)
 nb:∀(i:Nat)(x:PV),ε[i]?≠some (.bo x)
section
variable {S:List Addr}{Hs0 H0 Hs H Hs' H':Hp}{σ:St}{ε:ME}
theorem RD.rs (r:RD S Hs0 H0 Hs H σ ε):RS Hs Hs Hs H σ ε where
 ext:=⟨.refl _,r.s3,r.s3,λ_ h z=>absurd z h⟩
 sh:=r.sh
 ow:=λi x h=>by obtain ⟨a,h1,_,h3,h4⟩:=r.ow i x h;exact ⟨a,h1,h3,h3,h4⟩
 nd:=r.nd
 len:=r.len
 bo:=λi x h=>absurd h (r.nb i x)
theorem RD.there (r:RD S Hs0 H0 Hs H σ ε){b:Addr}(h:H0 b≠none):H b≠none:=by
 by_cases hS:b∈S
 ·exact r.live b hS
 ·cases q:H0 b with
  |none=>exact absurd q h
  |some o=>rw [r.s2 b o q hS];exact λz=>nomatch z
theorem RD.go (r:RD S Hs0 H0 Hs H σ ε)(e:Ext Hs H Hs' H'):RD S Hs0 H0 Hs' H' σ ε where
 s1:=r.s1.trans e.s1
 s2:=λb o h n=>e.s2 _ _ (r.s2 b o h n)
 s3:=e.s3
 s4:=λb h z=>e.s4 b (r.there h) (r.s4 b h z)
 sh:=λi x q=>by obtain ⟨v,a,b⟩:=r.sh i x q;exact ⟨v,a,b.mono e.s1⟩
 ow:=λi x q=>by
  obtain ⟨a,b,n0,n,t⟩:=r.ow i x q;exact ⟨a,b,n0,e.s4 a t.there n,t.mono e.s1 λo z=>e.s2 _ _ z⟩
 nd:=r.nd
 len:=r.len
 pin:=r.pin
 live:=λa h=>wF e.s2 (r.live a h)
 str:=r.str
 nb:=r.nb
theorem RD.change (r:RD S Hs0 H0 Hs H σ ε){i:Nat}{a:Addr}(hi:ε[i]?=some (.ow x))(ha:σ[i]?=some (some (.ref a)))(t:Top Hs (z6 H a o) a y):RD S Hs0 H0 Hs (z6 H a o) σ (ε.set i (.ow y)):=by
 obtain ⟨b,hb,n0,n,tx⟩:=r.ow i x hi;rw [ha] at hb;injection hb with hb;injection hb with hb;injection hb with hb;subst hb;have q:=(r.rs).change hi ha t;refine ⟨r.s1,λb u e hS=>?_,λb u e=>?_,r.s4,q.sh,λj z hz=>?_,q.nd,q.len,r.pin,λb hS=>?_,λb hS=>?_,Qj r.nb λ_ z=>nomatch z⟩
 ·have hne:b≠a:=λz=>by
   rcases n0 with n0|n0
   ·rw [z,n0] at e;cases e
   ·exact hS (z▸n0)
  rw [z7 hne];exact r.s2 b u e hS
 ·rw [z7 (w6 e n)];exact r.s3 _ _ e
 ·obtain ⟨c,hc,m1,m2,tc⟩:=q.ow j z hz;refine ⟨c,hc,?_,m2,tc⟩;rw [yK] at hz;split at hz
  ·rename_i hij;rw [<- hij,ha] at hc;injection hc with hc;injection hc with hc;injection hc with hc;rw [<- hc];exact n0
  ·obtain ⟨d,hd,m0,_⟩:=r.ow j z hz;rw [hd] at hc;injection hc with hc;injection hc with hc;injection hc with hc;rw [<- hc];exact m0
 ·by_cases hba:b=a
  ·rw [hba,v3];exact λz=>nomatch z
  ·rw [z7 hba];exact r.live b hS
 ·obtain ⟨y',hy⟩:=r.str b hS;rw [yK];split
  ·rename_i h0;rw [if_pos (by rw [h0];exact (yv.mp hy).1)];exact ⟨y,rfl⟩
  ·exact ⟨y',hy⟩
theorem RD.put (r:RD S Hs0 H0 Hs H σ ε){i:Nat}(h:Rep Hs x v):RD S Hs0 H0 Hs H (σ.set (i+1) (some v)) (ε.set (i+1) (.sh x)):=by
 have q:=(r.rs).put (i:=i+1) h;refine ⟨r.s1,r.s2,r.s3,r.s4,q.sh,λj z hz=>?_,q.nd,q.len,λa hS=>by rw [yr (by omega)];exact r.pin a hS,r.live,λa hS=>by rw [yr (by omega)];exact r.str a hS,Qj r.nb λ_ z=>nomatch z⟩;obtain ⟨c,hc,m1,m2,tc⟩:=q.ow j z hz;refine ⟨c,hc,?_,m2,tc⟩;rw [yK] at hz hc;split at hz
 ·split at hz<;>cases hz
 ·rename_i hij;rw [if_neg hij] at hc;obtain ⟨d,hd,m0,_⟩:=r.ow j z hz;rw [hd] at hc;injection hc with hc;injection hc with hc;injection hc with hc;rw [<- hc];exact m0
theorem RD.putO (r:RD S Hs0 H0 Hs H σ ε){i:Nat}{a:Addr}(h0:H0 a=none∨a∈S)(h1:Hs a=none)(h2:Top Hs H a x)(ne:∀(j:Nat)(y:PV),ε[j]?=some (.ow y)->σ[j]?≠some (some (.ref a))):RD S Hs0 H0 Hs H (σ.set (i+1) (some (.ref a))) (ε.set (i+1) (.ow x)):=by
 have q:=(r.rs).putO (i:=i+1) ⟨h1,h1,h2⟩ ne;refine ⟨r.s1,r.s2,r.s3,r.s4,q.sh,λj z hz=>?_,q.nd,q.len,λa hS=>by rw [yr (by omega)];exact r.pin a hS,r.live,λa hS=>by rw [yr (by omega)];exact r.str a hS,Qj r.nb λ_ z=>nomatch z⟩;obtain ⟨c,hc,m1,m2,tc⟩:=q.ow j z hz;refine ⟨c,hc,?_,m2,tc⟩;rw [yK] at hz hc;split at hz
 ·rename_i hij;rw [if_pos hij] at hc;split at hc
  ·injection hc with hc;injection hc with hc;injection hc with hc;rw [<- hc];exact h0
  ·cases hc
 ·rename_i hij;rw [if_neg hij] at hc;obtain ⟨d,hd,m0,_⟩:=r.ow j z hz;rw [hd] at hc;injection hc with hc;injection hc with hc;injection hc with hc;rw [<- hc];exact m0
theorem RD.free0 (r:RD S Hs0 H0 Hs H σ ε){a:Addr}(h:H a=none):H0 a=none:=by
 cases q:H0 a with
 |none=>rfl
 |some o=>exact absurd h (r.there (by rw [q];exact λz=>nomatch z))
end
abbrev W:=ME->(PV->ME->Prop)->Prop
variable{a:W}
abbrev WA:=ME->(List PV->ME->Prop)->Prop
variable{it:WA}
abbrev WT:=ME->(Bool->ME->Prop)->Prop
abbrev WS:=ME->(ME->Prop)->(PV->ME->Prop)->Prop
variable{b:WS}
class SemW (te:TE)(w:W):Prop where
 h:∀{ε Q'},w ε Q'->∀{S Hs0 H0 Hs H σ},RD S Hs0 H0 Hs H σ ε->∀{Q:VK},(∀ y ε' v Hs' H',Q' y ε'->RD S Hs0 H0 Hs' H' σ ε'->Same Hs Hs'->Rep Hs' y v->Q v H')->te σ H Q
class jY (ta:TA)(w:WA):Prop where
 h:∀{ε Q'},w ε Q'->∀{S Hs0 H0 Hs H σ},RD S Hs0 H0 Hs H σ ε->∀{Q:List V->Hp->Prop},(∀ ys ε' vs Hs' H',Q' ys ε'->RD S Hs0 H0 Hs' H' σ ε'->Same Hs Hs'->Reps Hs' ys vs->Q vs H')->ta σ H Q
class vS (tt:TT)(w:WT):Prop where
 h:∀{ε Q'},w ε Q'->∀{S Hs0 H0 Hs H σ},RD S Hs0 H0 Hs H σ ε->∀{Q:Bool->Hp->Prop},(∀ b ε' Hs' H',Q' b ε'->RD S Hs0 H0 Hs' H' σ ε'->Same Hs Hs'->Q b H')->tt σ H Q
class SemWS (ts:TS)(w:WS):Prop where
 h:∀{ε N R},w ε N R->∀{S Hs0 H0 Hs H σ},RD S Hs0 H0 Hs H σ ε->∀{D:qu},(∀ ε' σ' Hs' H',N ε'->RD S Hs0 H0 Hs' H' σ' ε'->Same Hs Hs'->D.nx σ' H') ->
  (∀ y ε' σ' v Hs' H',R y ε'->RD S Hs0 H0 Hs' H' σ' ε'->Same Hs Hs'->Rep Hs' y v->D.rt v H')->ts D σ H
def wP (f:M):W:=λε Q=>∃ y,f ε=some y/\Q y ε
def wPT (f:MB):WT:=λε Q=>∃ y,f ε=some y/\Q y ε
instance (priority:=50){f:M}[s:SemE te f]:SemW te (wP f) where
 h:=λ⟨y,e,q⟩ _ _ _ _ _ _ r _ k=>s.h e r.rs λv Hs' H' x rv=>k y _ v Hs' H' q (r.go x) x.s1 rv
instance (priority:=50){f:MB}[s:qk tt f]:vS tt (wPT f) where
 h:=λ⟨y,e,q⟩ _ _ _ _ _ _ r _ k=>s.h e r.rs λHs' H' x=>k y _ Hs' H' q (r.go x) x.s1
def zd (g:PV->PV->Option PV)(a b:W):W:=λε Q=>a ε λx ε1=>b ε1 λy ε2=>∃ z,g x y=some z/\Q z ε2
instance {r:R2}{g:PV->PV->Option PV}{ta tb:TE}{b:W}[sr:SemR r g][sa:SemW ta a][sb:SemW tb b]:SemW (tOp r ta tb) (zd g a b) where
 h:=λh _ _ _ _ _ _ rd _ k=>sa.h h rd λx ε1 v Hs1 H1 h1 rd1 g1 r1=>sb.h h1 rd1 λy ε2 w Hs2 H2 h2 rd2 g2 r2=>by
  obtain ⟨z,ez,h2⟩:=h2;exact sr.h ez rd2.s3 (.inl (r1.mono g2)) (.inl r2) λu Hs3 H3 x3 r3=>k z ε2 u Hs3 H3 h2 (rd2.go x3) (g1.trans (g2.trans x3.s1)) r3
def wT (a:W):WT:=λε Q=>a ε λx ε1=>∃ b,pB x=some b/\Q b ε1
instance [sa:SemW te a]:vS (XO te) (wT a) where
 h:=λh _ _ _ _ _ _ rd _ k=>sa.h h rd λx ε1 v Hs1 H1 h1 rd1 g1 r1=>by
  obtain ⟨b,eb,h2⟩:=h1;cases ww eb;exact ⟨b,rep_at.mp r1,k b ε1 Hs1 H1 h2 rd1 g1⟩
def zv:WA:=λε Q=>Q [] ε
def qj (a:W)(r:WA):WA:=λε Q=>a ε λx ε1=>r ε1 λxs ε2=>Q (x::xs) ε2
instance:jY xD zv where
 h:=λh _ _ _ _ _ _ rd _ k=>k [] _ [] _ _ h rd (.refl _) .nil
instance {r:WA}[sa:SemW te a][sr:jY ta r]:jY (qR te ta) (qj a r) where
 h:=λh _ _ _ _ _ _ rd _ k=>sa.h h rd λx ε1 v Hs1 H1 h1 rd1 g1 r1=>sr.h h1 rd1 λxs ε2 vs Hs2 H2 h2 rd2 g2 r2=>k _ ε2 _ Hs2 H2 h2 rd2 (g1.trans g2) (.cons (r1.mono g2) r2)
def wG:Sp:=λvs H Q _=>∃(a:Addr)(n m:Int),vs=[.ref a,.int m]/\H a=some (.lst [.int n])/\zI n m/\Q (.int (n % m)) (z6 H a (.lst [.int (n / m)]))
def i5 (n:Int):MSlot:= .ow (.lst [.at (.int n)])
def wTake (i:Nat)(a:W):W:=λε Q=>a ε λx ε1=>∃ n k,x = .at (.int k)/\ε1[i]?=some (i5 n)/\zI n k/\Q (.at (.int (n % k))) (ε1.set i (i5 (n / k)))
theorem RD.strm_at {i:Nat}{n:Int}(r:RD S Hs0 H0 Hs H σ ε)(h:ε[i]?=some (i5 n)):∃ a,σ[i]?=some (some (.ref a))/\H a=some (.lst [.int n])/\Hs a=none/\(H0 a=none∨a∈S):=by obtain ⟨a,ha,n0,n1,vs,hv,rv⟩:=r.ow i _ h;obtain ⟨v,w,rfl,p1,p2⟩:=reps_cons.mp rv;cases reps_nil.mp p2;cases rep_at.mp p1;exact ⟨a,ha,hv,n1,n0⟩
def QD (i:Nat):ME->Prop:=λε=>∃ n,ε[i]?=some (i5 n)
def wTk (i:Nat)(a:W):W:=λε Q=>QD i ε/\wTake i a ε Q
instance {i:Nat}[sa:SemW te a]:SemW (qO wG [] E (qR (qh i) (qR te xD))) (wTk i a) where
 h:=λh _ _ _ _ _ _ rd _ k=>by
  obtain ⟨⟨n0,hn0⟩,h⟩:=h;obtain ⟨p,hp,_⟩:=rd.strm_at hn0;refine ⟨_,hp,sa.h h rd λx ε1 v Hs1 H1 h1 rd1 g1 r1=>?_⟩;obtain ⟨n,m,rfl,hn,hc,h2⟩:=h1;obtain ⟨p',hp',hH,hs,_⟩:=rd1.strm_at hn;rw [hp] at hp';injection hp' with hp';injection hp' with hp';injection hp' with hp';subst hp';cases rep_at.mp r1;exact ⟨p,n,m,rfl,hH,hc,k _ _ _ _ _ h2 (rd1.change hn hp ⟨_,v3,.one (rep_at.mpr rfl)⟩) g1 (rep_at.mpr rfl)⟩
structure ExtD (p:Addr)(Hs H Hs' H':Hp):Prop where
 s1:Same Hs Hs'
 s2:∀ b o,H b=some o->b≠p->H' b=some o
 s3:Same Hs' H'
 s4:∀ b,H b≠none->Hs b=none->Hs' b=none
def spD (pre:List PV->Prop)(R:List PV->PV->Prop):Sp:=λvs H Q _=>∃ Hs a n xs ws,vs = .ref a::ws/\Same Hs H/\Hs a=none/\H a=some (.lst [.int n])/\Reps Hs xs ws/\pre xs /\
 ∀ y v n' Hs' H',R xs y->ExtD a Hs H Hs' H'->Hs' a=none->H' a=some (.lst [.int n'])->Rep Hs' y v->Q v H'
section
variable {S:List Addr}{Hs0 H0 Hs H Hs' H':Hp}{σ:St}{ε:ME}
theorem RD.drawn (r:RD S Hs0 H0 Hs H σ ε){i:Nat}{n n':Int}{p:Addr}(hi:ε[i]?=some (i5 n))(hp:σ[i]?=some (some (.ref p)))(x:ExtD p Hs H Hs' H')(np:Hs' p=none)(ep:H' p=some (.lst [.int n'])):RD S Hs0 H0 Hs' H' σ (ε.set i (i5 n')):=by
 obtain ⟨p',hp',hH,hs,h0⟩:=r.strm_at hi;rw [hp] at hp';injection hp' with hp';injection hp' with hp';injection hp' with hp';subst hp';have up:∀(j:Nat)(z:PV),(ε.set i (i5 n'))[j]?=some (.ow z)->(j=i/\z = .lst [.at (.int n')])∨(j≠i/\ε[j]?=some (.ow z)):=λj z q=>by
  rw [yK] at q;split at q
  ·rename_i hij;split at q
   ·injection q with q;unfold i5 at q;injection q with q;exact .inl ⟨hij.symm,q.symm⟩
   ·cases q
  ·rename_i hij;exact .inr ⟨Ne.symm hij,q⟩
 have wasOw:∀(j:Nat)(z:PV),(ε.set i (i5 n'))[j]?=some (.ow z)->∃ z',ε[j]?=some (.ow z'):=λj z q=>by
  rcases up j z q with ⟨rfl,_⟩|⟨_,q⟩
  ·exact ⟨_,hi⟩
  ·exact ⟨z,q⟩
 refine ⟨r.s1.trans x.s1,λb o e hS=>x.s2 b o (r.s2 b o e hS) λz=>?_,x.s3,λb h z=>x.s4 b (r.there h) (r.s4 b h z),λj z q=>?_,λj z q=>?_,λj k z z' c h1 h2 h3 h4=>?_,by rw [yw,r.len],r.pin,λb hS=>?_,λb hS=>?_,Qj r.nb λ_ z=>by unfold i5 at z;cases z⟩
 ·rcases h0 with h0|h0
  ·rw [z,h0] at e;cases e
  ·exact hS (z▸h0)
 ·rw [yK] at q;split at q
  ·split at q
   ·unfold i5 at q;cases q
   ·cases q
  ·obtain ⟨v,h1,h2⟩:=r.sh j z q;exact ⟨v,h1,h2.mono x.s1⟩
 ·rcases up j z q with ⟨rfl,rfl⟩|⟨hij,q⟩
  ·exact ⟨p,hp,h0,np,_,ep,.one (rep_at.mpr rfl)⟩
  ·obtain ⟨c,hc,m0,m1,tc⟩:=r.ow j z q;have hne:c≠p:=λe=>hij (r.nd j i z _ p q hi (e▸hc) hp);exact ⟨c,hc,m0,x.s4 c tc.there m1,tc.mono x.s1 λo e=>x.s2 c o e hne⟩
 ·obtain ⟨w1,q1⟩:=wasOw j z h1;obtain ⟨w2,q2⟩:=wasOw k z' h2;exact r.nd j k w1 w2 c q1 q2 h3 h4
 ·by_cases hb:b=p
  ·rw [hb,ep];exact λz=>nomatch z
  ·have:=r.live b hS;cases q:H b with
   |none=>exact absurd q this
   |some o=>rw [x.s2 b o q hb];exact λz=>nomatch z
 ·obtain ⟨y',hy⟩:=r.str b hS;rw [yK];split
  ·rename_i h0;rw [if_pos (by rw [h0];exact (yv.mp hy).1)];exact ⟨_,rfl⟩
  ·exact ⟨y',hy⟩
end
def Vv (i:Nat)(pre:List PV->Prop)(R:List PV->PV->Prop)(as:WA):W:=λε Q=>QD i ε/\as ε λxs ε1=>QD i ε1/\pre xs/\∀ y n',R xs y->Q y (ε1.set i (i5 n'))
instance {i:Nat}{as:WA}[sa:jY ta as]:SemW (qO (spD pre R) [] E (qR (qh i) ta)) (Vv i pre R as) where
 h:=λh _ _ _ _ _ _ rd _ k=>by
  obtain ⟨⟨n0,hn0⟩,h⟩:=h;obtain ⟨p,hp,_⟩:=rd.strm_at hn0;refine ⟨_,hp,sa.h h rd λxs ε1 vs Hs1 H1 h1 rd1 g1 r1=>?_⟩;obtain ⟨⟨n,hn⟩,hpre,h2⟩:=h1;obtain ⟨p',hp',hH,hs,_⟩:=rd1.strm_at hn;rw [hp] at hp';injection hp' with hp';injection hp' with hp';injection hp' with hp';subst hp';refine ⟨Hs1,p,n,xs,vs,by rw [yC],rd1.s3,hs,hH,r1,hpre,λy v n' Hs' H' hR x np ep rv=>?_⟩;exact k y _ v Hs' H' (h2 y n' hR) (rd1.drawn hn hp x np ep) (g1.trans x.s1) rv
def jx:WS:=λε N _=>N ε
def wSeq (a b:WS):WS:=λε N R=>a ε (λε1=>b ε1 N R) R
def xE (i:Nat)(a:W):WS:=λε N _=>a ε λx ε1=>N (ε1.set i (.sh x))
def ze (a:W):WS:=λε _ R=>a ε R
def Vw (a:W):WS:=λε N _=>a ε λ_ ε1=>N ε1
def xR (c:WT)(a b:WS):WS:=λε N R=>c ε λk ε1=>if k=true then a ε1 N R else b ε1 N R
instance:SemWS XN jx where
 h:=λh _ _ _ _ _ _ rd _ k _=>k _ _ _ _ h rd (.refl _)
instance {u:TS}{a:WS}[sa:SemWS t a][sb:SemWS u b]:SemWS (tSeq t u) (wSeq a b) where
 h:=λh _ _ _ _ _ _ rd _ k r=>sa.h h rd (λε1 σ1 Hs1 H1 h1 rd1 g1=>sb.h h1 rd1 (λε2 σ2 Hs2 H2 h2 rd2 g2=>k ε2 σ2 Hs2 H2 h2 rd2 (g1.trans g2)) λy ε2 σ2 v Hs2 H2 h2 rd2 g2 rv=>r y ε2 σ2 v Hs2 H2 h2 rd2 (g1.trans g2) rv) r
instance {i:Nat}[sa:SemW te a]:SemWS (xl te (qC (i+1))) (xE (i+1) a) where
 h:=λh _ _ _ _ _ _ rd _ k _=>sa.h h rd λx ε1 v Hs1 H1 h1 rd1 g1 r1=>k _ _ _ _ h1 (rd1.put r1) g1
instance [sa:SemW te a]:SemWS (Qz te) (ze a) where
 h:=λh _ _ _ _ _ _ rd _ _ r=>sa.h h rd λx ε1 v Hs1 H1 h1 rd1 g1 r1=>r x ε1 _ v Hs1 H1 h1 rd1 g1 r1
instance [sa:SemW te a]:SemWS (xQ te) (Vw a) where
 h:=λh _ _ _ _ _ _ rd _ k _=>sa.h h rd λx ε1 v Hs1 H1 h1 rd1 g1 r1=>k ε1 _ Hs1 H1 h1 rd1 g1
instance {t:TT}{ta:TS}{c:WT}{a:WS}[sc:vS t c][sa:SemWS ta a][sb:SemWS tb b]:SemWS (Qx t ta tb) (xR c a b) where
 h:=λh _ _ _ _ _ _ rd _ k r=>sc.h h rd λc ε1 Hs1 H1 h1 rd1 g1=>by
  cases c with
  |true=>exact xc (sa.h (by simpa using h1) rd1 (λε2 σ2 Hs2 H2 h2 rd2 g2=>k ε2 σ2 Hs2 H2 h2 rd2 (g1.trans g2)) λy ε2 σ2 v Hs2 H2 h2 rd2 g2 rv=>r y ε2 σ2 v Hs2 H2 h2 rd2 (g1.trans g2) rv)
  |false=>exact qI (sb.h (by simpa using h1) rd1 (λε2 σ2 Hs2 H2 h2 rd2 g2=>k ε2 σ2 Hs2 H2 h2 rd2 (g1.trans g2)) λy ε2 σ2 v Hs2 H2 h2 rd2 g2 rv=>r y ε2 σ2 v Hs2 H2 h2 rd2 (g1.trans g2) rv)
class SemWI (ti:TI)(w:WA):Prop where
 h:∀{ε Q'},w ε Q'->∀{S Hs0 H0 Hs H σ},RD S Hs0 H0 Hs H σ ε->∀{R:It->Hp->Prop},(∀ xs ε' J Hs' H',Q' xs ε'->RD S Hs0 H0 Hs' H' σ ε'->Same Hs Hs'->jV J xs Hs'->R J H')->ti σ H R
def wIp (f:MA):WA:=λε Q=>∃ xs,f ε=some xs/\Q xs ε
instance (priority:=50){ti:TI}{f:MA}[s:zh ti f]:SemWI ti (wIp f) where
 h:=λ⟨xs,e,q⟩ _ _ _ _ _ _ r _ k=>s.h e r.rs λJ Hs' H' x ok=>k xs _ J Hs' H' q (r.go x) x.s1 ok
class SemWG (tg:TG)(g:MG):Prop where
 h:∀{x ε ε'},g x ε=some ε'->∀{S Hs0 H0 Hs H σ v},RD S Hs0 H0 Hs H σ ε->Rep Hs x v->∀{Q:St->Hp->Prop},(∀ σ',RD S Hs0 H0 Hs H σ' ε'->Q σ' H)->tg v σ H Q
instance {i:Nat}:SemWG (qC (i+1)) (v9 (i+1)) where
 h:=λe _ _ _ _ _ _ _ rd r _ q=>by cases e;exact q _ (rd.put r)
def vJ (g:MG)(f:WS):List PV->WS
 |[]=>λε N _=>N ε
 |x::xs=>λε N R=>∃ ε1,g x ε=some ε1/\f ε1 (λε2=>vJ g f xs ε2 N R) R
def wFor (it:WA)(g:MG)(f:WS):WS:=λε N R=>it ε λxs ε1=>vJ g f xs ε1 N R
theorem RD.rebase (r:RD S Hs0 H0 Hs H σ ε):RD S Hs H0 Hs H σ ε :=
 ⟨.refl _,r.s2,r.s3,λ_ _ z=>z,r.sh,r.ow,r.nd,r.len,r.pin,r.live,r.str,r.nb⟩
theorem RD.unbase {Hb Hx:Hp}(b:RD S Hs0 H0 Hb Hx σ ε)(r:RD S Hb H0 Hs H σ' ε'):RD S Hs0 H0 Hs H σ' ε' :=
 ⟨b.s1.trans r.s1,r.s2,r.s3,λc h z=>r.s4 c h (b.s4 c h z),r.sh,r.ow,r.nd,r.len,r.pin,r.live,r.str,r.nb⟩
instance {f:WS}[si:SemWI wi it][sg:SemWG tg g][sf:SemWS tb f]:SemWS (tFor wi tg tb) (wFor it g f) where
 h:=λ{ε N R} h S Hs0 H0 _ _ _ rd D k rt=>si.h h rd λxs ε1 J Hs1 H1 h1 rd1 g1 ok=>by
  refine ⟨λn m σ H=>m=xs.length-n/\n<=xs.length/\∃ Hs ε,RD S Hs1 H0 Hs H σ ε/\vJ g f (xs.drop n) ε N R,⟨xs.length,by simp,uZ _,Hs1,ε1,rd1.rebase,h1⟩,?_⟩;rintro n m σ H ⟨rfl,hn,Hs,ε2,r2,h2⟩;by_cases hlt:n<xs.length
  ·have hd:xs.drop n=xs[n]::xs.drop (n+1):=yf hlt;rw [hd] at h2;obtain ⟨ε3,e3,h3⟩:=h2;obtain ⟨go,yl⟩:=ok.go n xs[n] Hs H (by simp [hlt]) r2.s1 r2.s3;refine .inr ⟨go,λσ' H'=>n+1<=xs.length/\∃ Hs ε,RD S Hs1 H0 Hs H' σ' ε/\vJ g f (xs.drop (n+1)) ε N R,λσ' H' p=>⟨xs.length-(n+1),by omega,rfl,p.1,p.2⟩,λv H3 y=>?_⟩;obtain ⟨Hs3,x3,r3⟩:=yl v H3 y;refine sg.h e3 (r2.go x3) r3 λσ4 rd4=>sf.h h3 rd4 (λε5 σ5 Hs5 H5 h5 rd5 g5=>⟨hlt,Hs5,ε5,rd5,h5⟩) λy ε5 σ5 v Hs5 H5 h5 rd5 g5 rv=>rt y ε5 σ5 v Hs5 H5 h5 (rd1.unbase rd5) (g1.trans rd5.s1) rv
  ·have en:n=xs.length:=by omega
   subst en;rw [uO] at h2;exact .inl ⟨ok.stop Hs H r2.s1 r2.s3,k _ _ _ _ h2 (rd1.unbase r2) (g1.trans r2.s1)⟩
def qt:List (Option Nat)->ME->ME->ME
 |some i::cap,s::ε2,ε1=>(qt cap ε2 ε1).set i s
 |none::cap,_::ε2,ε1=>qt cap ε2 ε1
 |_,_,ε1=>ε1
theorem QB:∀(cap:List (Option Nat))(ε2 ε1:ME),(qt cap ε2 ε1).length=ε1.length
 |some i::cap,s::ε2,ε1=>by unfold qt;rw [yw,QB]
 |none::cap,_::ε2,ε1=>by unfold qt;exact QB cap ε2 ε1
 |[],_,_=>rfl
 |some _::_,[],_=>rfl
 |none::_,[],_=>rfl
theorem Vn:∀(cap:List (Option Nat))(ε2 ε1:ME)(i:Nat),some i∉cap->(qt cap ε2 ε1)[i]?=ε1[i]?
 |some k::cap,s::ε2,ε1,i,h=>by
  unfold qt;rw [yr (λz=>h (by rw [z];exact yR))];exact Vn cap ε2 ε1 i λz=>h (yT _ z)
 |none::cap,_::ε2,ε1,i,h=>by unfold qt;exact Vn cap ε2 ε1 i λz=>h (yT _ z)
 |[],_,_,_,_=>rfl
 |some _::_,[],_,_,_=>rfl
 |none::_,[],_,_,_=>rfl
theorem Vm:∀(cap:List (Option Nat))(ε2 ε1:ME)(i:Nat),cap.length=ε2.length->some i∈cap->i<ε1.length->(cap.filterMap id).Nodup->∃ j:Nat,cap[j]?=some (some i)/\(qt cap ε2 ε1)[i]?=ε2[j]?
 |some k::cap,s::ε2,ε1,i,hl,h,hi,nd=>by
  rw [List.filterMap_cons_some (by rfl)] at nd;by_cases e:k=i
  ·subst e;refine ⟨0,rfl,?_⟩;unfold qt;rw [uX (by rw [QB];exact hi)];rfl
  ·obtain ⟨j,h1,h2⟩:=Vm cap ε2 ε1 i (by simpa using hl) (by rcases yJ.mp h with z|z;exact absurd (Option.some.inj z).symm e;exact z) hi (yk.mp nd).2;refine ⟨j+1,by simpa using h1,?_⟩;unfold qt;rw [yr e];simpa using h2
 |none::cap,s::ε2,ε1,i,hl,h,hi,nd=>by
  rw [List.filterMap_cons_none (by rfl)] at nd;obtain ⟨j,h1,h2⟩:=Vm cap ε2 ε1 i (by simpa using hl) (by rcases yJ.mp h with z|z;exact nomatch z;exact z) hi nd;exact ⟨j+1,by simpa using h1,by unfold qt;simpa using h2⟩
 |[],_,_,_,_,h,_,_=>nomatch h
 |some _::_,[],_,_,hl,_,_,_=>by simp at hl
 |none::_,[],_,_,hl,_,_,_=>by simp at hl
def rst:List Nat->ME->ME
 |[],ε=>ε
 |t::ts,ε=>(rst ts ε).set t .no
theorem UB:∀(ts:List Nat)(ε:ME),(rst ts ε).length=ε.length
 |[],_=>rfl
 |t::ts,ε=>by unfold rst;rw [yw,UB]
theorem UA:∀(ts:List Nat)(ε:ME)(i:Nat)(s:MSlot),(rst ts ε)[i]?=some s->s = .no∨(i∉ts/\ε[i]?=some s)
 |[],_,_,_,h=> .inr ⟨yG,h⟩
 |t::ts,ε,i,s,h=>by
  unfold rst at h;rw [yK] at h;split at h
  ·split at h
   ·cases h;exact .inl rfl
   ·cases h
  ·rename_i hne;rcases UA ts ε i s h with z|⟨z1,z2⟩
   ·exact .inl z
   ·exact .inr ⟨λm=>by rcases yJ.mp m with m|m;exact hne m.symm;exact z1 m,z2⟩
theorem RD.reset (r:RD [] Hs0 H0 Hs H σ' ε)(b:But ts σ σ'):RD [] Hs0 H0 Hs H σ (rst ts ε):=by
 have at1:∀(i:Nat)(s:MSlot),(rst ts ε)[i]?=some s->s = .no∨(σ'[i]?=σ[i]?/\ε[i]?=some s):=λi s h=>by
  rcases UA ts ε i s h with z|⟨z1,z2⟩
  ·exact .inl z
  ·exact .inr ⟨b.2 i z1,z2⟩
 refine ⟨r.s1,r.s2,r.s3,r.s4,λi x h=>?_,λi x h=>?_,λi j x y a h1 h2 h3 h4=>?_,by rw [UB,<- r.len,b.1],(λ_ z=>nomatch z),(λ_ z=>nomatch z),(λ_ z=>nomatch z),λi x h=>by
  rcases at1 i _ h with z|⟨_,z2⟩
  ·cases z
  ·exact r.nb i x z2⟩
 ·rcases at1 i _ h with z|⟨z1,z2⟩
  ·cases z
  ·rw [<- z1];exact r.sh i x z2
 ·rcases at1 i _ h with z|⟨z1,z2⟩
  ·cases z
  ·rw [<- z1];exact r.ow i x z2
 ·rcases at1 i _ h1 with z|⟨z1,z2⟩
  ·cases z
  ·rcases at1 j _ h2 with w|⟨w1,w2⟩
   ·cases w
   ·exact r.nd i j x y a z2 w2 (z1.trans h3) (w1.trans h4)
class VG (tg:TG)(ts:outParam (List Nat))(g:MG):Prop where
 h:∀{x ε ε'},g x ε=some ε'->∀{Hs0 H0 Hs H σ v},RD [] Hs0 H0 Hs H σ ε->Rep Hs x v->∀{Q:St->Hp->Prop},(∀ σ',RD [] Hs0 H0 Hs H σ' ε'->But ts σ σ'->Q σ' H)->tg v σ H Q
theorem RD.put0 (r:RD [] Hs0 H0 Hs H σ ε){i:Nat}(h:Rep Hs x v):RD [] Hs0 H0 Hs H (σ.set i (some v)) (ε.set i (.sh x)):=by
 have q:=(r.rs).put (i:=i) h;refine ⟨r.s1,r.s2,r.s3,r.s4,q.sh,λj z hz=>?_,q.nd,q.len,(λ_ z=>nomatch z),(λ_ z=>nomatch z),(λ_ z=>nomatch z),Qj r.nb λ_ z=>nomatch z⟩;obtain ⟨c,hc,m1,m2,tc⟩:=q.ow j z hz;refine ⟨c,hc,?_,m2,tc⟩;rw [yK] at hz hc;split at hz
 ·split at hz<;>cases hz
 ·rename_i hij;rw [if_neg hij] at hc;obtain ⟨d,hd,m0,_⟩:=r.ow j z hz;rw [hd] at hc;injection hc with hc;injection hc with hc;injection hc with hc;rw [<- hc];exact m0
instance {i:Nat}:VG (qC i) [i] (v9 i) where
 h:=λe _ _ _ _ _ _ rd r _ q=>by
  cases e;exact q _ (rd.put0 r) ⟨yw,λj hj=>yr λz=>hj (by rw [<- z];exact yO.mpr rfl)⟩
def jT (g:MG)(c:WT)(f:W)(ts:List Nat):List PV->List PV->ME->(List PV->ME->Prop)->Prop
 |[],ys,ε,Q=>Q ys ε
 |x::xs,ys,ε,Q=>∃ ε1,g x ε=some ε1/\c ε1 λb ε2=>if b=true then f ε2 λy ε3=>jT g c f ts xs (ys++[y]) (rst ts ε3) Q else jT g c f ts xs ys (rst ts ε2) Q
def QF:WT:=λε Q=>Q true ε
instance:vS tYes QF where
 h:=λh _ _ _ _ _ _ rd _ k=>k true _ _ _ h rd (.refl _)
def XU (cap:List (Option Nat))(ts:List Nat)(it:WA)(g:MG)(c:WT)(f:W):W:=λε Q=>it ε λxs ε1=>xt cap ts=true/\xs.length<=lim /\
 jT g c f ts xs [] (p6 cap ε1) λys ε2=>((∃ y:PV,ε1[0]?=some (MSlot.ow y))->∃ y:PV,(qt cap ε2 ε1)[0]?=some (MSlot.ow y))/\Q (.lst ys) (qt cap ε2 ε1)
noncomputable def xL (σ:St)(ε:ME)(H:Hp):Hp:=λb=>open Classical in if ∃(i:Nat)(x:PV),ε[i]?=some (MSlot.ow x)/\σ[i]?=some (some (V.ref b)) then none else H b
theorem ZH {b:Addr}(h:xL σ ε H b=some o):H b=some o/\∀(i:Nat)(x:PV),ε[i]?=some (MSlot.ow x)->σ[i]?≠some (some (V.ref b)):=by
 unfold xL at h;split at h
 ·cases h
 ·rename_i hn;exact ⟨h,λi x h1 h2=>hn ⟨i,x,h1,h2⟩⟩
theorem Yx {b:Addr}(h:xL σ ε H b=none):H b=none∨∃(i:Nat)(x:PV),ε[i]?=some (MSlot.ow x)/\σ[i]?=some (some (V.ref b)):=by
 unfold xL at h;split at h
 ·rename_i hn;exact .inr hn
 ·exact .inl h
theorem Kp {cap:List (Option Nat)}(nb:∀(i:Nat)(x:PV),ε[i]?≠some (.bo x)):∀(i:Nat)(x:PV),(p6 cap ε)[i]?≠some (.bo x):=λi x h=>by
 unfold p6 at h;rw [yN] at h;cases ho:cap[i]? with
 |none=>rw [ho] at h;cases h
 |some o =>
  rw [ho] at h;cases o with
  |none=>cases h
  |some k =>
   cases hk:ε[k]? with
   |none=>simp only [uL,hk,uu] at h;cases h
   |some s=>simp only [uL,hk,Option.getD_some] at h;cases h;exact nb k x hk
theorem RD.block {cap:List (Option Nat)}(hc:(cap.filterMap id).Nodup)(r:RD S Hs0 H0 Hs H σ ε):RD [] Hs (xL (u8 cap σ) (p6 cap ε) H) Hs H (u8 cap σ) (p6 cap ε):=by have q:=(r.rs).cap hc;refine ⟨.refl _,λb o e _=>(ZH e).1,r.s3,λ_ _ z=>z,q.sh,λi x h=>?_,q.nd,q.len,(λ_ z=>nomatch z),(λ_ z=>nomatch z),(λ_ z=>nomatch z),Kp r.nb⟩;obtain ⟨a,h1,h2,h3,h4⟩:=q.ow i x h;refine ⟨a,h1,.inl ?_,h3,h4⟩;unfold xL;rw [if_pos ⟨i,x,h,h1⟩]
theorem jE {cap:List (Option Nat)}{i k:Nat}(h:cap[i]?=some (some k))(e:(u8 cap σ)[i]?=some (some v)):σ[k]?=some (some v):=by
 unfold u8 at e;rw [yN,h] at e;simp only [uL,yM,Option.some.injEq] at e;cases hs:σ[k]? with
 |none=>rw [hs] at e;cases e
 |some o=>rw [hs] at e;simp at e;rw [e]
theorem WD {cap:List (Option Nat)}{i:Nat}(h:(p6 cap ε)[i]?=some (.ow x)):∃ k:Nat,cap[i]?=some (some k)/\ε[k]?=some (.ow x):=by
 unfold p6 at h;rw [yN] at h;cases ho:cap[i]? with
 |none=>rw [ho] at h;cases h
 |some o =>
  rw [ho] at h;cases o with
  |none=>cases h
  |some k =>
   cases hk:ε[k]? with
   |none=>simp only [uL,hk,uu] at h;cases h
   |some s=>simp only [uL,hk,Option.getD_some] at h;cases h;exact ⟨k,rfl,hk⟩
theorem RD.unblock {Hs1 H1 Hs2 H2:Hp}{ε1 ε2:ME}{cap:List (Option Nat)}(hc:(cap.filterMap id).Nodup)(r:RD S Hs0 H0 Hs1 H1 σ ε1)(q:RD [] Hs1 (xL (u8 cap σ) (p6 cap ε1) H1) Hs2 H2 (u8 cap σ) ε2)(st:(∃ y,ε1[0]?=some (.ow y))->∃ y,(qt cap ε2 ε1)[0]?=some (.ow y)):RD S Hs0 H0 Hs2 H2 σ (qt cap ε2 ε1):=by
 have hl:cap.length=ε2.length:=by rw [<- q.len];unfold u8;rw [yZ]
 have at1:∀(i:Nat)(s:MSlot),(qt cap ε2 ε1)[i]?=some s->(some i∉cap/\ε1[i]?=some s)∨∃ j:Nat,cap[j]?=some (some i)/\ε2[j]?=some s:=λi s h=>by
  by_cases hi:some i∈cap
  ·have hlt:i<ε1.length:=by have:=(yv.mp h).1;rwa [QB] at this
   obtain ⟨j,h1,h2⟩:=Vm cap ε2 ε1 i hl hi hlt hc;exact .inr ⟨j,h1,h2▸h⟩
  ·exact .inl ⟨hi,Vn cap ε2 ε1 i hi▸h⟩
 have own0:∀ a,xL (u8 cap σ) (p6 cap ε1) H1 a=none->H0 a=none∨a∈S:=λa h=>by
  rcases Yx h with h|⟨i,x,h1,h2⟩
  ·exact .inl (r.free0 h)
  ·obtain ⟨k,hk,hx⟩:=WD h1;obtain ⟨c,hc',m0,_⟩:=r.ow k x hx;rw [jE hk h2] at hc';injection hc' with hc';injection hc' with hc';injection hc' with hc';rw [hc'];exact m0
 have keep:∀(k:Nat)(x:PV)(a:Addr),some k∉cap->ε1[k]?=some (.ow x)->σ[k]?=some (some (.ref a))->∀ o,H1 a=some o->xL (u8 cap σ) (p6 cap ε1) H1 a=some o:=λk x a hk hx ha o ho=>by
  cases z:xL (u8 cap σ) (p6 cap ε1) H1 a with
  |some u=>rw [<- ho,(ZH z).1]
  |none =>
   rcases Yx z with z|⟨i,y,h1,h2⟩
   ·rw [z] at ho;cases ho
   ·obtain ⟨m,hm,hy⟩:=WD h1;have:=r.nd k m x y a hx hy ha (jE hm h2);subst this;exact absurd (uT hm) hk
 have ow':∀(i:Nat)(x:PV),(qt cap ε2 ε1)[i]?=some (.ow x)->∃ a,σ[i]?=some (some (.ref a))/\(H0 a=none∨a∈S)/\Hs2 a=none/\Top Hs2 H2 a x:=λi x h=>by
  rcases at1 i _ h with ⟨hi,e⟩|⟨j,hj,e⟩
  ·obtain ⟨a,ha,m0,m1,t⟩:=r.ow i x e;refine ⟨a,ha,m0,?_,t.mono q.s1 λo ho=>q.s2 a o (keep i x a hi e ha o ho) yG⟩;cases z:H1 a with
   |none=>exact absurd z t.there
   |some o=>exact q.s4 a (by rw [keep i x a hi e ha o z];exact λw=>nomatch w) m1
  ·obtain ⟨a,ha,m0,m1,t⟩:=q.ow j x e;exact ⟨a,jE hj ha,own0 a (m0.resolve_right yG),m1,t⟩
 have str':∀ a∈S,∃ y,(qt cap ε2 ε1)[0]?=some (.ow y):=λa hS=>st (r.str a hS);refine ⟨r.s1.trans q.s1,λb o e hS=>?_,q.s3,λb h z=>?_,λi x h=>?_,ow',λi j x y a h1 h2 h3 h4=>?_,by rw [QB];exact r.len,r.pin,λb hS=>?_,str',λi x h=>by
  rcases at1 i _ h with ⟨_,e⟩|⟨j,_,e⟩
  ·exact r.nb i x e
  ·exact q.nb j x e⟩
 ·have e1:=r.s2 b o e hS;refine q.s2 b o ?_ yG;cases z:xL (u8 cap σ) (p6 cap ε1) H1 b with
  |some u=>rw [<- e1,(ZH z).1]
  |none =>
   rcases own0 b z with w|w
   ·rw [w] at e;cases e
   ·exact absurd w hS
 ·have z1:=r.s4 b h z;by_cases hL:xL (u8 cap σ) (p6 cap ε1) H1 b=none
  ·rcases own0 b hL with w|w
   ·exact absurd w h
   ·obtain ⟨y,hy⟩:=str' b w;obtain ⟨a,ha,_,m1,_⟩:=ow' 0 y hy;rw [r.pin b w] at ha;injection ha with ha;injection ha with ha;injection ha with ha;rw [ha];exact m1
  ·exact q.s4 b hL z1
 ·rcases at1 i _ h with ⟨hi,e⟩|⟨j,hj,e⟩
  ·obtain ⟨v,hv,rv⟩:=r.sh i x e;exact ⟨v,hv,rv.mono q.s1⟩
  ·obtain ⟨v,hv,rv⟩:=q.sh j x e;exact ⟨v,jE hj hv,rv⟩
 ·rcases at1 i _ h1 with ⟨hi,e⟩|⟨k,hk,e⟩
  ·rcases at1 j _ h2 with ⟨hj,e'⟩|⟨l,hl',e'⟩
   ·exact r.nd i j x y a e e' h3 h4
   ·-- one of the block's own,one that it does not see
    obtain ⟨a',ha',m0,_,_⟩:=q.ow l y e';have ea:=jE hl' ha';rw [h4] at ea;injection ea with ea;injection ea with ea;injection ea with ea;subst ea;obtain ⟨c,hc1,_,_,t⟩:=r.ow i x e;rw [h3] at hc1;injection hc1 with hc1;injection hc1 with hc1;injection hc1 with hc1;subst hc1;cases z:H1 a with
    |none=>exact absurd z t.there
    |some o=>have w:=keep i x a hi e h3 o z;rw [m0.resolve_right yG] at w;cases w
  ·rcases at1 j _ h2 with ⟨hj,e'⟩|⟨l,hl',e'⟩
   ·obtain ⟨a',ha',m0,_,_⟩:=q.ow k x e;have ea:=jE hk ha';rw [h3] at ea;injection ea with ea;injection ea with ea;injection ea with ea;subst ea;obtain ⟨c,hc1,_,_,t⟩:=r.ow j y e';rw [h4] at hc1;injection hc1 with hc1;injection hc1 with hc1;injection hc1 with hc1;subst hc1;cases z:H1 a with
    |none=>exact absurd z t.there
    |some o=>have w:=keep j y a hj e' h4 o z;rw [m0.resolve_right yG] at w;cases w
   ·obtain ⟨a1,ha1,_⟩:=q.ow k x e;obtain ⟨a2,ha2,_⟩:=q.ow l y e';have e1:=jE hk ha1;have e2:=jE hl' ha2;rw [h3] at e1;rw [h4] at e2;injection e1 with e1;injection e1 with e1;injection e1 with e1;injection e2 with e2;injection e2 with e2;injection e2 with e2;subst e1;subst e2;have kl:=q.nd k l x y a e e' ha1 ha2;subst kl;rw [hk] at hl';injection hl' with hl';injection hl' with hl'
 ·obtain ⟨y,hy⟩:=str' b hS;obtain ⟨a,ha,_,_,t⟩:=ow' 0 y hy;rw [r.pin b hS] at ha;injection ha with ha;injection ha with ha;injection ha with ha;rw [ha];exact t.there
instance {cap:List (Option Nat)}{c:WT}{f:W}[si:SemWI wi it][sg:VG tg ts g][sc:vS tt c][sf:SemW te f]:SemW (vH wi tg tt te cap) (XU cap ts it g c f) where
 h:=λ{ε Q'} h S Hs0 H0 Hs H σ rd Q k=>si.h h rd λxs ε1 J Hs1 H1 h1 rd1 g1 ok=>by
  obtain ⟨hcap,hl,h1⟩:=h1;unfold xt at hcap;rw [yt] at hcap;have hnd:=yi hcap.1;have wk:∀ i∈ts,(u8 cap σ)[i]?=some none:=λi hi=>by
   unfold u8;rw [yN,yi (uY.mp hcap.2 i hi)];rfl
  refine ⟨λn m zs H=>m=xs.length-n/\n<=xs.length/\∃ Hs2 ws ε2,RD [] Hs1 (xL (u8 cap σ) (p6 cap ε1) H1) Hs2 H (u8 cap σ) ε2/\Reps Hs2 ws zs/\ws.length<=n /\
    jT g c f ts (xs.drop n) ws ε2 (λys ε3=>((∃ y:PV,ε1[0]?=some (MSlot.ow y))->∃ y:PV,(qt cap ε3 ε1)[0]?=some (MSlot.ow y))/\Q' (PV.lst ys) (qt cap ε3 ε1)),
   ⟨xs.length,by simp,uZ _,Hs1,[],_,rd1.block hnd,.nil,yS _,h1⟩,?_⟩
  rintro n m zs H2 ⟨rfl,hn,Hs2,ws,ε2,r2,rz,hw,h2⟩;refine ⟨xg (by rw [rz.length];omega),?_⟩;by_cases hlt:n<xs.length
  ·have hd:xs.drop n=xs[n]::xs.drop (n+1):=yf hlt;rw [hd] at h2;obtain ⟨ε3,e3,h3⟩:=h2;obtain ⟨go,yl⟩:=ok.go n xs[n] Hs2 H2 (by simp [hlt]) r2.s1 r2.s3;refine .inr ⟨go,λv H3 y=>?_⟩;obtain ⟨Hs3,x3,r3⟩:=yl v H3 y;refine sg.h e3 (r2.go x3) r3 λσ4 rd4 bt=>⟨bt.wk wk,sc.h h3 rd4 λb ε5 Hs5 H5 h5 rd5 g5=>?_⟩;cases b with
   |true=>refine xc (sf.h (by simpa using h5) rd5 λy ε6 u Hs6 H6 h6 rd6 g6 ru=>⟨xs.length-(n+1),by omega,rfl,hlt,Hs6,ws++[y],_,rd6.reset bt,?_,by rw [yD];simp;omega,h6⟩);exact (rz.mono (x3.s1.trans (g5.trans g6))).snoc ru
   |false=>exact qI ⟨xs.length-(n+1),by omega,rfl,hlt,Hs5,ws,_,rd5.reset bt,rz.mono (x3.s1.trans g5),by omega,by simpa using h5⟩
  ·have en:n=xs.length:=by omega
   subst en;rw [uO] at h2;refine .inl ⟨ok.stop Hs2 H2 r2.s1 r2.s3,λD hD=>?_⟩;have rd2:=rd1.unblock hnd r2 h2.1;exact k _ _ _ _ _ h2.2 (rd2.go (.new rd2.s3 hD)) (g1.trans (r2.s1.trans (Ext.new rd2.s3 hD).s1)) (rep_lst.mpr ⟨D,zs,rfl,v3,rz.mono (Ext.new rd2.s3 hD).s1⟩)
section
variable {P:Program}{w:World}{K:Fg}{mg:Str->Option Value}{base:Heap}
theorem vE {i:Nat}:(xs.map MSlot.sh++List.replicate n .no)[i]?≠some (.ow x):=λh=>by
 by_cases hi:i<xs.length
 ·rw [uN (by rw [yZ];exact hi),yN] at h;obtain ⟨y,_,z⟩:=yI.mp h;cases z
 ·rw [uJ (by rw [yZ];omega),uG] at h;split at h<;>cases h
theorem Ju {i:Nat}:(xs.map MSlot.sh++List.replicate n .no)[i]?≠some (.bo x):=λh=>by
 by_cases hi:i<xs.length
 ·rw [uN (by rw [yZ];exact hi),yN] at h;obtain ⟨y,_,z⟩:=yI.mp h;cases z
 ·rw [uJ (by rw [yZ];omega),uG] at h;split at h<;>cases h
theorem DR {a:Addr}{n:Int}(s:Same Hs H)(ha:Hs a=none)(hH:H a=some (.lst [.int n]))(r:Reps Hs xs ws):RD [a] Hs H Hs H (L2.start N (.ref a::ws)) (i5 n::xs.map .sh++List.replicate (N.length-(xs.length+1)) .no):=by
 have q:=zF (N:=N) (xs:= .at (.ref a)::xs) s (.cons (rep_at.mpr rfl) r);have tl:∀(i:Nat)(sl:MSlot),(i5 n::xs.map .sh++List.replicate (N.length-(xs.length+1)) .no)[i+1]?=some sl->((PV.at (.ref a)::xs).map MSlot.sh++List.replicate (N.length-(PV.at (.ref a)::xs).length) .no)[i+1]?=some sl:=λi sl h=>h;refine ⟨.refl _,λb o e _=>e,s,λ_ _ z=>z,λi x h=>?_,λi x h=>?_,λi j x y b h1 h2 _ _=>?_,?_,λb hb=>?_,λb hb=>?_,(λb hb=>⟨_,rfl⟩),λi x h=>by
  cases i with
  |zero=>unfold i5 at h;simp at h
  |succ i=>exact Ju (xs:=PV.at (.ref a)::xs) (tl i _ h)⟩
 ·cases i with
  |zero=>unfold i5 at h;simp at h
  |succ i=>exact q.sh (i+1) x (tl i _ h)
 ·cases i with
  |zero=>unfold i5 at h;simp at h;subst h;refine ⟨a,?_,.inr (yO.mpr rfl),ha,_,hH,.one (rep_at.mpr rfl)⟩;unfold L2.start;rfl
  |succ i =>
   obtain ⟨c,h1,_⟩:=q.ow (i+1) x (tl i _ h);exact absurd (tl i _ h) λz=>by
    have:=vE (i:=i+1) (x:=x) (xs:=PV.at (.ref a)::xs) (n:=N.length-(PV.at (.ref a)::xs).length);exact this z
 ·cases i with
  |zero =>
   cases j with
   |zero=>rfl
   |succ j=>exact absurd (tl j _ h2) (vE (xs:=PV.at (.ref a)::xs))
  |succ i=>exact absurd (tl i _ h1) (vE (xs:=PV.at (.ref a)::xs))
 ·exact q.len
 ·rw [yO.mp hb];unfold L2.start;rfl
 ·rw [yO.mp hb,hH];exact λz=>nomatch z
theorem okD {x:Str}{f:Addr}{k:Nat}(F:Fun K x qual st f fd)(S:y6 N ps (j6 st))(hpre:∀ xs,pre xs->xs.length+1=ps.length)(hb:∀(cdv:Value)(A:Around)(outer:List Env)(s:Shared)(H:Hp)(E:XK),Room k (A.deeper (PyProof.Rows.envOfC qual (j6 st) s.heap.objs.size f cdv)) -> ∃ t,PSs (qc v8 P w K mg base N qual (j6 st) f cdv A outer s H E).nox (c7 st) t/\SemWS t b)(hw:∀ xs n,pre xs->b (i5 n::xs.map .sh++List.replicate (N.length-(xs.length+1)) .no) (λ_=>False) λy ε=>R xs y/\QD 0 ε):FnOk P w K mg base v8 (k+1) f fd ps (spD pre R):=by
 refine F.ok S (λvs H Q E h=>?_) (λcdv A outer s H vs Q E hr h=>?_)
 ·obtain ⟨Hs,a,n,xs,ws,rfl,_,_,_,r,hp,_⟩:=h;rw [yz,r.length];exact hpre xs hp
 ·obtain ⟨Hs,a,n,xs,ws,rfl,sm,ha,hH,r,hp,q⟩:=h;obtain ⟨t,ht,sem⟩:=hb cdv A outer s H E hr;refine ⟨t,ht,sem.h (hw xs n hp) (DR sm ha hH r) (λε σ Hs' H' z _ _=>z.elim) λy ε σ v Hs' H' hR rd g rv=>?_⟩;obtain ⟨hR,n',hn'⟩:=hR;obtain ⟨a',ha',hH',hs',_⟩:=rd.strm_at hn';rw [rd.pin a (yO.mpr rfl)] at ha';injection ha' with ha';injection ha' with ha';injection ha' with ha';subst ha';refine q y v n' Hs' H' hR ⟨g,λb o e hb=>rd.s2 b o e λz=>hb (yO.mp z),rd.s3,λb h z=>rd.s4 b h z⟩ hs' hH' rv
end
def spN (pre:List PV->Prop)(R:List PV->PV->Prop):Sp:=λvs H Q _=>∃ Hs xs,Same Hs H/\Reps Hs xs vs/\pre xs/\∀ y a Hs' H',R xs y->Ext Hs H Hs' H'->H a=none->Hs' a=none->Top Hs' H' a y->Q (.ref a) H'
def spV (pre:List PV->Prop)(R:List PV->PV->Prop):Sp:=λvs H Q _=>∃ Hs xs,Same Hs H/\Reps Hs xs vs/\pre xs/\∀ y v Hs' H',R xs y->Ext Hs H Hs' H'->Rep Hs' y v->Q v H'
def Gp (i:Nat)(pre:List PV->Prop)(R:List PV->PV->Prop)(as:WA):WS:=λε N _=>as ε λxs ε1=>pre xs/\∀ y,R xs y->N (ε1.set i (.ow y))
instance {i:Nat}{as:WA}[sa:jY ta as]:SemWS (xl (qO (spN pre R) [] E ta) (qC (i+1))) (Gp (i+1) pre R as) where
 h:=λh _ _ _ _ _ _ rd _ k _=>sa.h h rd λxs ε1 vs Hs1 H1 h1 rd1 g1 r1=>by
  refine ⟨Hs1,xs,rd1.s3,by rw [yC];exact r1,h1.1,λy a Hs' H' hR x n n' t=>?_⟩;refine k _ _ _ _ (h1.2 y hR) ((rd1.go x).putO (.inl (rd1.free0 n)) n' t λj z hj e=>?_) (g1.trans x.s1);obtain ⟨b,hb,_,_,tb⟩:=rd1.ow j z hj;rw [e] at hb;injection hb with hb;injection hb with hb;injection hb with hb;subst hb;exact tb.there n
def Gm (pre:List PV->Prop)(R:List PV->PV->Prop)(as:WA):W:=λε Q=>as ε λxs ε1=>pre xs/\∀ y,R xs y->Q y ε1
instance {as:WA}[sa:jY ta as]:SemW (qO (spV pre R) [] E ta) (Gm pre R as) where
 h:=λh _ _ _ _ _ _ rd _ k=>sa.h h rd λxs ε1 vs Hs1 H1 h1 rd1 g1 r1 =>
  ⟨Hs1,xs,rd1.s3,by rw [yC];exact r1,h1.1,λy v Hs' H' hR x rv=>k y ε1 v Hs' H' (h1.2 y hR) (rd1.go x) (g1.trans x.s1) rv⟩
section
variable {P:Program}{w:World}{K:Fg}{mg:Str->Option Value}{base:Heap}
theorem Uv (s:Same Hs H)(r:Reps Hs xs vs):RD [] Hs H Hs H (L2.start N vs) (xs.map .sh++List.replicate (N.length-xs.length) .no):=by have q:=zF (N:=N) s r;exact ⟨.refl _,λb o e _=>e,s,λ_ _ z=>z,q.sh,λi x h=>absurd h vE,q.nd,q.len,(λ_ z=>nomatch z),(λ_ z=>nomatch z),(λ_ z=>nomatch z),λ_ _=>Ju⟩
theorem okV {x:Str}{f:Addr}{k:Nat}(F:Fun K x qual st f fd)(S:y6 N ps (j6 st))(hpre:∀ xs,pre xs->xs.length=ps.length)(hb:∀(cdv:Value)(A:Around)(outer:List Env)(s:Shared)(H:Hp)(E:XK),Room k (A.deeper (PyProof.Rows.envOfC qual (j6 st) s.heap.objs.size f cdv)) -> ∃ t,PSs (qc v8 P w K mg base N qual (j6 st) f cdv A outer s H E).nox (c7 st) t/\SemWS t b)(hw:∀ xs,pre xs->b (xs.map .sh++List.replicate (N.length-xs.length) .no) (λ_=>False) λy _=>R xs y):FnOk P w K mg base v8 (k+1) f fd ps (spV pre R):=by
 refine F.ok S (λvs H Q E h=>?_) (λcdv A outer s H vs Q E hr h=>?_)
 ·obtain ⟨Hs,xs,_,r,hp,_⟩:=h;rw [r.length];exact hpre xs hp
 ·obtain ⟨Hs,xs,sm,r,hp,q⟩:=h;obtain ⟨t,ht,sem⟩:=hb cdv A outer s H E hr;refine ⟨t,ht,sem.h (hw xs hp) (Uv sm r) (λε σ Hs' H' z _ _=>z.elim) λy ε σ v Hs' H' hR rd g rv=>?_⟩;exact q y v Hs' H' hR ⟨g,λb o e=>rd.s2 b o e yG,rd.s3,rd.s4⟩ rv
def scr (K:Fg)(ns:List Int):PV:= .op λH v=>∃ a,v = .ref a/\SqL K H a (ns.map V.int)
theorem MJ {K:Fg}{ns:List Int}(s:Same Hs H)(r:Rep Hs (scr K ns) v):∃ a,v = .ref a/\SqL K H a (ns.map V.int):=by obtain ⟨H1,s1,a,rfl,q⟩:=rep_op.mp r;exact ⟨a,rfl,(s1.trans s).seq q⟩
def Qw (K:Fg):Sp:=λvs H Q _=>∃(a:Addr)(ns:List Int),vs=[.ref a]/\SqL K H a (ns.map V.int)/\ns.length<=63/\∀ H',Q (.bl true) H'
theorem okL {x:Str}{f:Addr}{k:Nat}(F:Fun K x qual st f fd)(S:y6 N ["script"] (j6 st))(hb:∀ (cdv:Value) (A:Around) (outer:List Env) (s:Shared) (H:Hp) (E:XK),Room k (A.deeper (PyProof.Rows.envOfC qual (j6 st) s.heap.objs.size f cdv)) -> ∃ t,PSs (qc v8 P w K mg base N qual (j6 st) f cdv A outer s H E).nox (c7 st) t/\SemWS t b)(hw:∀ ns:List Int,ns.length<=63->b (.sh (scr K ns)::List.replicate (N.length-1) .no) (λ_=>False) λy _=>y = .at (.bl true)):FnOk P w K mg base v8 (k+1) f fd ["script"] (Qw K):=by
 refine F.ok S (λvs H Q E h=>?_) (λcdv A outer s H vs Q E hr h=>?_)
 ·obtain ⟨a,ns,rfl,_⟩:=h;rfl
 ·obtain ⟨a,ns,rfl,hS,h63,q⟩:=h;obtain ⟨t,ht,sem⟩:=hb cdv A outer s H E hr;have r:Reps H [scr K ns] [.ref a]:= .one (rep_op.mpr ⟨H,.refl _,a,rfl,hS⟩);refine ⟨t,ht,sem.h (hw ns h63) (Uv (N:=N) (.refl H) r) (λε σ Hs' H' z _ _=>z.elim) λy ε σ v Hs' H' hR rd g rv=>?_⟩;subst hR;cases rep_at.mp rv;exact q H'
end
variable {fr:Bool}
class QP (tg:TGs)(g:List PV->ME->Option ME):Prop where
 h:∀{xs ε ε'},g xs ε=some ε'->∀{S Hs0 H0 Hs H σ vs},RD S Hs0 H0 Hs H σ ε->Reps Hs xs vs->∀{Q:St->Hp->Prop},(∀ σ',RD S Hs0 H0 Hs H σ' ε'->Q σ' H)->tg vs σ H Q
instance:QP gNil zY where
 h:=λ{xs ε ε'} e {_ _ _ _ _ _ _} rs r {_} q=>by
  unfold zY at e;split at e
  ·cases e;exact ⟨reps_nil.mp r,q _ rs⟩
  ·cases e
instance {t:TG}{u:TGs}{r:List PV->ME->Option ME}[sg:SemWG t g][sr:QP u r]:QP (Xf t u) (qJ g r) where
 h:=λ{xs ε ε'} e {_ _ _ _ _ _ _} rs rr {_} q=>by
  unfold qJ at e;split at e
  ·obtain ⟨ε1,e1,e2⟩:=bind_some e;obtain ⟨v,w,rfl,r1,r2⟩:=reps_cons.mp rr;exact ⟨v,w,rfl,sg.h e1 rs r1 λσ1 rs1=>sr.h e2 rs1 r2 λσ2 rs2=>q _ rs2⟩
  ·cases e
instance {t:TGs}{g:List PV->ME->Option ME}[sg:QP t g]:SemWG (gTup K n t) (zZ n g) where
 h:=λ{x ε ε'} e {_ _ _ _ _ _ _} rs rr {_} q=>by
  unfold zZ at e;split at e
  ·split at e
   ·rename_i hl;obtain ⟨a,vs,rfl,h,r⟩:=rep_tup.mp rr;exact ⟨a,vs,rfl,SqT.of (rs.s3 _ _ h),by rw [r.length];exact hl,sg.h e rs r λσ' rs'=>q _ rs'⟩
   ·cases e
  ·cases e
class xo (w:W):Prop where
 h:∀{ε:ME}{P P':PV->ME->Prop},(∀ y e,P y e->P' y e)->w ε P->w ε P'
class jB (w:WA):Prop where
 h:∀{ε:ME}{P P':List PV->ME->Prop},(∀ y e,P y e->P' y e)->w ε P->w ε P'
class vO (w:WT):Prop where
 h:∀{ε:ME}{P P':Bool->ME->Prop},(∀ y e,P y e->P' y e)->w ε P->w ε P'
class zL (w:WS):Prop where
 h:∀{ε:ME}{N N':ME->Prop}{R R':PV->ME->Prop},(∀ e,N e->N' e)->(∀ y e,R y e->R' y e)->w ε N R->w ε N' R'
instance {f:M}:xo (wP f) where h:=λk ⟨y,e,q⟩=>⟨y,e,k _ _ q⟩
instance {g:PV->PV->Option PV}{b:W}[A:xo a][B:xo b]:xo (zd g a b) where h:=λk h=>A.h (λ_ _ h1=>B.h (λ_ _ ⟨z,e,q⟩=>⟨z,e,k _ _ q⟩) h1) h
instance [A:xo a]:vO (wT a) where h:=λk h=>A.h (λ_ _ ⟨z,e,q⟩=>⟨z,e,k _ _ q⟩) h
instance:vO QF where h:=λk h=>k _ _ h
theorem ZB {c:Bool}{A B A' B':Prop}(h1:A->A')(h2:B->B')(h:if c=true then A else B):if c=true then A' else B':=by
 cases c with
 |true=>exact xc (h1 (by simpa using h))
 |false=>exact qI (h2 (by simpa using h))
instance:jB zv where h:=λk h=>k _ _ h
instance {r:WA}[A:xo a][B:jB r]:jB (qj a r) where h:=λk h=>A.h (λ_ _ h1=>B.h (λ_ _ h2=>k _ _ h2) h1) h
instance {i:Nat}{a:WA}[A:jB a]:xo (Vv i pre R a) where h:=λk h=>⟨h.1,A.h (λ_ _ ⟨h1,h2,h3⟩=>⟨h1,h2,λy n r=>k _ _ (h3 y n r)⟩) h.2⟩
instance {f:MA}:jB (wIp f) where h:=λk ⟨y,e,q⟩=>⟨y,e,k _ _ q⟩
theorem Vu {g:MG}{c:WT}{f:W}{ts:List Nat}[C:vO c][F:xo f]{Q Q':List PV->ME->Prop}(k:∀ y e,Q y e->Q' y e):∀(xs ys:List PV)(ε:ME),jT g c f ts xs ys ε Q->jT g c f ts xs ys ε Q'
 |[],ys,ε,h=>k _ _ h
 |x::xs,ys,ε,h=>by
  obtain ⟨ε1,e1,h1⟩:=h;exact ⟨ε1,e1,C.h (λb ε2 h2=>ZB (λh3=>F.h (λy ε3 h4=>Vu k xs _ _ h4) h3) (λh3=>Vu k xs _ _ h3) h2) h1⟩
instance {cap:List (Option Nat)}{c:WT}{f:W}[I:jB it][C:vO c][F:xo f]:xo (XU cap ts it g c f) where
 h:=λk h=>I.h (λ_ _ ⟨h1,h2,h3⟩=>⟨h1,h2,Vu (λ_ _ ⟨q1,q2⟩=>⟨q1,k _ _ q2⟩) _ _ _ h3⟩) h
instance:zL jx where h:=λk _ h=>k _ h
instance [A:xo a]:zL (ze a) where h:=λ_ r h=>A.h r h
instance {c:WT}{a:WS}[C:vO c][A:zL a][B:zL b]:zL (xR c a b) where h:=λk r h=>C.h (λ_ _ h1=>ZB (λh2=>A.h k r h2) (λh2=>B.h k r h2) h1) h
theorem Go {g:MG}{f:WS}[F:zL f]{N N':ME->Prop}{R R':PV->ME->Prop}(k:∀ e,N e->N' e)(r:∀ y e,R y e->R' y e):∀(xs:List PV)(ε:ME),vJ g f xs ε N R->vJ g f xs ε N' R'
 |[],ε,h=>k _ h
 |x::xs,ε,h=>by
  obtain ⟨ε1,e1,h1⟩:=h;exact ⟨ε1,e1,F.h (λε2 h2=>Go k r xs ε2 h2) r h1⟩
instance {f:WS}[I:jB it][F:zL f]:zL (wFor it g f) where h:=λk r h=>I.h (λ_ _ h1=>Go k r _ _ h1) h
theorem Zj {g:MG}{c:WT}{f:W}{ts:List Nat}{Q:List PV->ME->Prop}[C:vO c][F:xo f](I:List PV->List PV->ME->Prop)(hd:∀ ys ε,I [] ys ε->Q ys ε)(hs:∀ x xs ys ε,I (x::xs) ys ε->∃ ε1,g x ε=some ε1/\c ε1 λb ε2=>if b=true then f ε2 λy ε3=>I xs (ys++[y]) (rst ts ε3) else I xs ys (rst ts ε2)):∀(xs ys:List PV)(ε:ME),I xs ys ε->jT g c f ts xs ys ε Q
 |[],ys,ε,h=>hd ys ε h
 |x::xs,ys,ε,h=>by
  obtain ⟨ε1,e1,h1⟩:=hs x xs ys ε h;exact ⟨ε1,e1,C.h (λb ε2 h2=>ZB (λh3=>F.h (λy ε3 h4=>Zj I hd hs xs _ _ h4) h3) (λh3=>Zj I hd hs xs _ _ h3) h2) h1⟩
theorem WK {f:W}{Q:List PV->ME->Prop}[F:xo f](I:List PV->List PV->ME->Prop)(hd:∀ ys ε,I [] ys ε->Q ys ε)(hs:∀ x xs ys ε,I (x::xs) ys ε->∃ ε1,g x ε=some ε1/\f ε1 λy ε3=>I xs (ys++[y]) (rst ts ε3))(xs ys:List PV)(ε:ME)(h:I xs ys ε):jT g QF f ts xs ys ε Q :=
 Zj I hd (λx xs ys ε h=>by
  obtain ⟨ε1,e,q⟩:=hs x xs ys ε h;refine ⟨ε1,e,?_⟩;show if true=true then (f ε1 λy ε3=>I xs (ys++[y]) (rst ts ε3)) else I xs ys (rst ts ε1)
  rw [if_pos rfl];exact q) xs ys ε h
theorem Qc {g:MG}{f:WS}{N:ME->Prop}{R:PV->ME->Prop}[F:zL f](I:List PV->ME->Prop)(hd:∀ ε,I [] ε->N ε)(hs:∀ x xs ε,I (x::xs) ε->∃ ε1,g x ε=some ε1/\f ε1 (λε2=>I xs ε2) R):∀(xs:List PV)(ε:ME),I xs ε->vJ g f xs ε N R
 |[],ε,h=>hd ε h
 |x::xs,ε,h=>by
  obtain ⟨ε1,e1,h1⟩:=hs x xs ε h;exact ⟨ε1,e1,F.h (λε2 h2=>Qc I hd hs xs ε2 h2) (λ_ _ z=>z) h1⟩
section
variable {ε ε1:ME}{a b:MS}{f g:M}{x y z:PV}{i:Nat}{o:Option Out}
theorem k9 (h:a ε=some (.nx ε1))(k:b ε1=o):u6 a b ε=o:=by unfold u6;rw [h];exact k
theorem Yd (h:a ε=some (.rt y)):u6 a b ε=some (.rt y):=by unfold u6;rw [h];rfl
theorem zl (h:f ε=some x):xJ i f ε=some (.nx (ε.set i (.sh x))):=by unfold xJ;rw [h];rfl
theorem Ye (h:f ε=some x):wd i f ε=some (.nx (ε.set i (.ow x))):=by unfold wd;rw [h];rfl
theorem m6 (h:f ε=some x):b8 f ε=some (.rt x):=by unfold b8;rw [h];rfl
theorem y7 {G:PV->PV->Option PV}(h1:f ε=some x)(h2:g ε=some y)(h:G x y=r):j4 G f g ε=r:=by unfold j4;rw [h1];show Option.bind (g ε) _=_;rw [h2];exact h
theorem jI {G:PV->Option PV}(h1:f ε=some x)(h:G x=r):dUn G f ε=r:=by unfold dUn;rw [h1];exact h
theorem j7 (h1:as ε=some xs)(h:m xs=r):z9 m as ε=r:=by unfold z9;rw [h1];exact h
theorem j0 {r:MA}(h1:f ε=some x)(h2:r ε=some xs):q0 f r ε=some (x::xs):=by unfold q0;rw [h1];show Option.bind (r ε) _=_;rw [h2];rfl
theorem Ya (h:c ε=some true)(k:a ε=o):m5 c a b ε=o:=by unfold m5;rw [h];exact k
theorem o8 (h:c ε=some false)(k:b ε=o):m5 c a b ε=o:=by unfold m5;rw [h];exact k
theorem Zu {it:MA}(h:it ε=some xs)(k:xI G a xs ε=o):wc it G a ε=o:=by unfold wc;rw [h];exact k
theorem ev_sl {lo hi:Option Int}(h1:f ε=some (.lst xs))(h2:l ε=some lo)(h3:u ε=some hi):wW f l u ε=some (.lst (wS xs lo hi)):=by unfold wW;rw [h1];show Option.bind (l ε) _=_;rw [h2];show Option.bind (u ε) _=_;rw [h3];rfl
theorem r9 (h:as ε=some xs)(hl:xs.length<=lim):k7 as ε=some (.lst xs):=by unfold k7;rw [h];show (if _ then _ else _)=_;rw [if_pos hl]
theorem i0 (h:as ε=some xs)(hl:xs.length<=lim):c4 as ε=some (.tup xs):=by unfold c4;rw [h];show (if _ then _ else _)=_;rw [if_pos hl]
theorem KM {cap:List (Option Nat)}{it:MA}(h:it ε=some xs)(hc:xt cap ts=true)(hl:xs.length<=lim)(k:i8 G c f (p6 cap ε) xs=some ys):c5 cap ts it G c f ε=some (.lst ys):=by unfold c5;rw [h];show (if _ then _ else _)=_;rw [if_pos ⟨hc,hl⟩,k];rfl
end
theorem YS (h:xs.length+ys.length<=lim):qG (.lst xs) (.lst ys)=some (.lst (xs++ys)):=by show (if _ then _ else _)=_;rw [if_pos h]
theorem CQ (h:xs.length+ys.length<=lim):Qk (.lst xs) (.lst ys)=some (.lst (xs++ys)):=by show (if _ then _ else _)=_;rw [if_pos h]
theorem vd {k:Nat}{b:MS}(hl:xs.length=k)(h:b (xs.map .sh++List.replicate (n-k) .no)=some (.rt y)):xT n k b xs=some y:=by unfold xT;rw [if_pos hl,h];rfl
theorem qB {k:Nat}{b:MS}(hl:xs.length=k)(h:b (xs.map .sh++List.replicate (n-k) .no)=some (.rt y)):p9 n k b xs=some y:=by unfold p9;rw [if_pos hl,h];rfl
theorem Jf {f:PV->PV->Option Bool}:∀{xs:List PV},(∀ x∈xs,f x x=some true)->zp f xs xs=some true
 |[],_=>rfl
 |x::xs,h=>by unfold zp;rw [h x yR];show Option.bind (zp f xs xs) _=_;rw [Jf λy hy=>h y (yT _ hy)];rfl
def jk:Nat->PV->Prop
 |_,.at u=>y9 u=true
 |n+1,.lst xs=>∀ x∈xs,jk n x
 |n+1,.tup xs=>∀ x∈xs,jk n x
 |_,_=>False
theorem XA:∀(n:Nat){x:PV},jk n x->peq n x x=some true
 |0,x,h=>by
  cases x with
  |«at» u=>show (if _ then _ else _)=_;rw [if_pos ⟨h,h⟩,Xb h]
  |_=>exact h.elim
 |n+1,x,h=>by
  cases x with
  |«at» u=>show (if _ then _ else _)=_;rw [if_pos ⟨(show y9 u=true from h),h⟩,Xb h]
  |lst xs=>show (if _ then _ else _)=_;rw [if_pos rfl];exact Jf λy hy=>XA n (h y hy)
  |tup xs=>show Option.bind (zp (peq n) xs xs) _=_;rw [Jf λy hy=>XA n (h y hy)];show some (true&&(xs.length==xs.length))=_;rw [beq_self_eq_true];rfl
  |_=>exact h.elim
theorem CU (h:jk 6 x):pEq x x=some (.at (.bl true)):=by unfold pEq;rw [XA 6 h];rfl
theorem vx (h:jk 6 x):pNe x x=some (.at (.bl false)):=by unfold pNe;rw [XA 6 h];rfl
class qa (K:Fg)(C:Addr):Prop where
 c:Cls K C
class u7 (K:Fg)(C:Addr)(f:Str):Prop where
 n:NoAttr K C f
def wn (f:Str):List Str->List PV->Option PV
 |n::ns,x::xs=>if f=n then some x else wn f ns xs
 |_,_=>none
theorem YA {H:Hp}{f:Str}{y:PV}:∀{fs:List (Str×V)}{xs:List PV},Reps H xs (fs.map (·.2))->wn f (fs.map (·.1)) xs=some y->∃ v,fs.lookup f=some v/\Rep H y v
 |[],xs,r,h=>by cases xs<;>cases h
 |p::fs,xs,r,h=>by
  cases xs with
  |nil=>cases h
  |cons x xs =>
   obtain ⟨v,w,e,p1,p2⟩:=reps_cons.mp r;rw [yF] at e;injection e with e1 e2;subst e1 e2;rw [yF] at h;unfold wn at h;rw [yc];split at h
   ·rename_i hf;cases h;rw [hf,beq_self_eq_true];exact ⟨p.2,rfl,p1⟩
   ·rename_i hf;rw [beq_eq_false_iff_ne.mpr hf];exact YA p2 h
def xH (C:Addr)(f:Str)(a:M):M:=λε=>(a ε).bind λx=>match x with
 | .ob C' ns xs=>if C'=C then wn f ns xs else none
 |_=>none
theorem Kw {a:M}(h:xH C f a ε=some y):∃ ns xs,a ε=some (.ob C ns xs)/\wn f ns xs=some y:=by
 unfold xH at h;obtain ⟨x,ex,h1⟩:=bind_some h;split at h1
 ·split at h1
  ·rename_i hc;subst hc;exact ⟨_,_,ex,h1⟩
  ·cases h1
 ·cases h1
instance {a:M}[c:qa K C][n:u7 K C f][s:i7 te a]:SemE (tFld K te f) (xH C f a) where
 h:=λe _ _ _ _ _ rs _ q=>by
  obtain ⟨ns,xs,ea,el⟩:=Kw e;refine s.h ea rs λv Hs1 H1 x1 r1=>?_;obtain ⟨p,dx,fs,rfl,hp,hk,hr⟩:=Uz x1.s3 r1;rw [<- hk] at el;obtain ⟨u,hu,ru⟩:=YA hr el;exact ⟨p,C,dx,fs,u,rfl,hp,c.c,n.n,hu,q u _ _ x1 ru⟩
theorem jN {e:Expr}{ta:TE}(hK:X.K=K)(he:PE X e ta)(hb:attributeBase e f X.env (eval e X.env)=eval e X.env:=by rfl):PE X (.Attribute e f pos) (tFld K ta f):=by subst hK;exact Dc he hb
structure Mt (P:Program)(w:World)(K:Fg)(mg:Str->Option Value)(base:Heap)(k:Nat)(C:Addr)(m:Str)(ps:List Str)(sp:Sp):Prop where
 ex:∃ f fd,FnOk P w K mg base v8 k f fd ps sp/\Meth K C m f/\Cls K C/\Binds K fd ps []
section
variable {X:Cx}{k j:Nat}{C:Addr}{m:Str}{ps:List Str}{sp:Sp}{o e:Expr}{es:List Expr}{ta:TE}{t:TA}{apos pos:Pos}
theorem qL {pl:Sem Bool}(c:Mt X.prog X.w X.K X.mg X.base k C m ps sp)(hr:Room j X.A)(hj:k<=j)(ho:PE X o ta)
  (ht:eval (.Call (.Attribute o m apos) [] [] pos) X.env=(do
   let ov <- eval o X.env
   standAt apos.atName
   let (f,first) <- holding [ov] (getMethod ov m pl)
   callWith pos f first (backTo pos (starEach [] X.env)) (backToKw pos (keywordEach [] X.env))):=by rfl) :
  PE X (.Call (.Attribute o m apos) [] [] pos) (Qy C m sp [] E0 ta xD):=by
 obtain ⟨f,fd,F,hm,hc,hb⟩:=c.ex;exact Dd ho hc hm F (hr.mono hj) hb .nil YV ht
end
variable {fr:Bool}
def wj:PV->Option v7
 | .at (.int i)=>some (.inl i)
 | .at (.str x)=>some (.inr x)
 |_=>none
theorem Xl {k:v7}(r:RepB Hs H x v)(h:wj x=some k):v=kV k:=by
 unfold wj at h;split at h
 ·cases h;cases u5 r;rfl
 ·cases h;cases u5 r;rfl
 ·cases h
def xx {κ:Type}[DecidableEq κ](k:κ):List κ->List PV->Option PV
 |n::ns,x::xs=>if n=k then some x else xx k ns xs
 |_,_=>none
theorem Yz {κ:Type}[DecidableEq κ]{H:Hp}{k:κ}:∀{kvs:List (κ×V)}{xs:List PV},Reps H xs (kvs.map (·.2))->match xx k (kvs.map (·.1)) xs with
  |some y=>∃ v,i6 kvs k=some v/\Rep H y v
  |none=>i6 kvs k=none
 |[],xs,r=>by
  have hx:xs=[]:=uF.mp r.length.symm;subst hx;rfl
 |p::kvs,xs,r=>by
  cases xs with
  |nil=>have:=r.length;simp at this
  |cons x xs =>
   obtain ⟨v,w,e,p1,p2⟩:=reps_cons.mp r;rw [yF] at e;injection e with e1 e2;subst e1 e2;rw [yF];unfold xx;by_cases hk:p.1=k
   ·rw [if_pos hk];refine ⟨p.2,?_,p1⟩;unfold i6;rw [uM,yo hk];rfl
   ·rw [if_neg hk];have ih:=Yz (k:=k) p2;have ev:i6 (p::kvs) k=i6 kvs k:=by unfold i6;rw [uM,yL hk]
    rw [ev];exact ih
def dDGet (a b:M):M:=λε=>(a ε).bind λx=>(b ε).bind λy=>(wj y).bind λk=>match x with
 | .dk ks xs=>xx k ks xs
 | .fk ks xs=>xx k ks xs
 |_=>none
def wV (b a:M):M:=λε=>(b ε).bind λy=>(a ε).bind λx=>(wj y).bind λk=>match x with
 | .dk ks xs=>some (.at (.bl (xx k ks xs).isSome))
 | .fk ks xs=>some (.at (.bl (xx k ks xs).isSome))
 |_=>none
theorem ZI {κ:Type}[DecidableEq κ]{k:κ}{kvs:List (κ×V)}(r:Reps H xs (kvs.map (·.2))):(xx k (kvs.map (·.1)) xs).isSome=(i6 kvs k).isSome:=by
 have l:=Yz (k:=k) r;cases e:xx k (kvs.map (·.1)) xs with
 |none=>rw [e] at l;rw [show i6 kvs k=none from l];rfl
 |some y=>rw [e] at l;obtain ⟨v,hv,_⟩:=l;rw [hv];rfl
instance {td ty:TE}{a b:M}[sa:i7 td a][sb:i7 ty b]:SemE (tDIn ty td) (wV b a) where
 h:=λe _ _ _ _ _ rs _ q=>by
  obtain ⟨y,ey,e1⟩:=bind_some e;obtain ⟨x,ex,e2⟩:=bind_some e1;obtain ⟨k,ek,e3⟩:=bind_some e2;split at e3
  ·cases e3;refine sb.h ey rs λw Hs1 H1 x1 r1=>sa.h ex (rs.go x1) λv Hs2 H2 x2 r2=>?_;obtain ⟨p,kvs,rfl,hp,hk,hr⟩:=wD x2.s3 r2;have ew:=Xl r1 ek;subst ew;exact ⟨p,_,rfl,DGet.k hp,q _ _ _ (x1.trans x2) (rep_at.mpr (by rw [<- hk,ZI hr]))⟩
  ·cases e3;refine sb.h ey rs λw Hs1 H1 x1 r1=>sa.h ex (rs.go x1) λv Hs2 H2 x2 r2=>?_;obtain ⟨p,o,kvs,rfl,hp,hk,hr⟩:=Jn x2.s3 r2;have ew:=Xl r1 ek;subst ew;exact ⟨p,_,rfl,.inl ⟨kvs,_,.inr ⟨o,hp⟩,rfl,rfl⟩,q _ _ _ (x1.trans x2) (rep_at.mpr (by rw [<- hk,ZI hr]))⟩
  ·cases e3
def Zo:M:=λ_=>some (.dk [] [])
instance:xp UP Zo where
 h:=λe _ _ _ _ _ rs _ q=>by
  cases e;exact λp hp=>q p _ _ (.newO rs.sub hp) hp (rs.sub.free hp) ⟨[],v3,rfl,.nil⟩
def Qr {κ:Type}[DecidableEq κ](k:κ)(y:PV):List κ->List PV->List PV
 |n::ns,x::xs=>if n=k then y::Qr k y ns xs else x::Qr k y ns xs
 |_,xs=>xs
def XG (k:v7)(y:PV)(ks:List v7)(xs:List PV):PV:=if (xx k ks xs).isSome=true then .dk ks (Qr k y ks xs) else .dk (ks++[k]) (xs++[y])
theorem Uc {κ:Type}[DecidableEq κ]{H:Hp}{k:κ}{y:PV}{v:V}(ry:Rep H y v):∀{kvs:List (κ×V)}{xs:List PV},Reps H xs (kvs.map (·.2))->Reps H (Qr k y (kvs.map (·.1)) xs) ((kvs.map (λkv=>if kv.1=k then (kv.1,v) else kv)).map (·.2))/\(kvs.map (λkv=>if kv.1=k then (kv.1,v) else kv)).map (·.1)=kvs.map (·.1)
 |[],xs,r=>by
  have hx:xs=[]:=uF.mp r.length.symm;subst hx;exact ⟨.nil,rfl⟩
 |p::kvs,xs,r=>by
  cases xs with
  |nil=>have:=r.length;simp at this
  |cons x xs =>
   obtain ⟨u,w,e,p1,p2⟩:=reps_cons.mp r;rw [yF] at e;injection e with e1 e2;subst e1 e2;obtain ⟨h1,h2⟩:=Uc (k:=k) ry p2;rw [yF,yF,yF,yF];unfold Qr;by_cases hk:p.1=k
   ·rw [if_pos hk,if_pos hk];exact ⟨.cons ry h1,by rw [h2]⟩
   ·rw [if_neg hk,if_neg hk];exact ⟨.cons p1 h1,by rw [h2]⟩
def dPut (i:Nat)(kk vv:M):MS:=λε=>(vv ε).bind λy=>(kk ε).bind λx=>(wj x).bind λk=>match ε[i]? with
 |some (.ow (.dk ks xs))=>if ks.length<=lim then some (.nx (ε.set i (.ow (XG k y ks xs)))) else none
 |_=>none
instance {i:Nat}{ty:TE}{kk vv:M}[sk:SemE ty kk][sv:SemE tv vv]:c9 fr (UD (qh i) ty tv) (dPut i kk vv) where
 h:=λe _ _ _ _ _ rs _ q=>by
  obtain ⟨y,ey,e1⟩:=bind_some e;obtain ⟨x,ex,e2⟩:=bind_some e1;obtain ⟨k,ek,e3⟩:=bind_some e2;split at e3
  ·rename_i ks xs hi;split at e3
   ·rename_i hl;cases e3;refine sv.h ey rs λv Hs1 H1 x1 r1=>?_;obtain ⟨p,hp,n0,n,t⟩:=(rs.go x1).ow i _ hi;refine ⟨_,hp,sk.h ex (rs.go x1) λw Hs2 H2 x2 r2=>?_⟩;obtain ⟨p',hp',_,n2,kvs,hv,hk,hr⟩:=((rs.go x1).go x2).ow i _ hi;rw [hp] at hp';injection hp' with hp';injection hp' with hp';injection hp' with hp';subst hp';have ew:=Xl (.inl r2:RepB Hs2 H2 x w) ek;subst ew;have hlen:kvs.length<=lim:=by rw [<- hk,yZ] at hl;exact hl
    refine ⟨p,_,rfl,DPut.k hv (Yy hlen),q _ _ _ (((rs.go x1).go x2).change hi hp ?_)⟩;have hs:=ZI (k:=k) hr;unfold XG xZ;rw [XT,<- hs,hk];by_cases hc:(xx k ks xs).isSome=true
    ·rw [if_pos hc,if_pos hc];obtain ⟨q1,q2⟩:=Uc (k:=k) (r1.mono x2.s1) hr;exact ⟨_,v3,by rw [q2,hk],by rw [<- hk];exact q1⟩
    ·rw [if_neg hc,if_neg hc];exact ⟨_,v3,by rw [yx,hk];rfl,by rw [yx];exact hr.append (.one (r1.mono x2.s1))⟩
   ·cases e3
  ·cases e3
def rLeS:R2:=λx y H Q=>∃ i j,x = .str i/\y = .str j/\Q (.bl (!decide (j.cps.toList<i.cps.toList))) H
theorem YO :OpR X (compareOp .LtE) rLeS:=CJ
def pLeS:PV->PV->Option PV
 | .at (.str i),.at (.str j)=>some (.at (.bl (!decide (j.cps.toList<i.cps.toList))))
 |_,_=>none
instance:SemR rLeS pLeS where
 h:=λ{x y z} e {Hs H v w} s a b {Q} q=>by
  unfold pLeS at e;split at e
  ·cases e;cases u5 a;cases u5 b;exact ⟨_,_,rfl,rfl,q _ _ _ (.refl s) (rep_at.mpr rfl)⟩
  ·cases e
def Qu (z:Str):List PV:=z.cps.toList.map λc=> .at (.str ⟨#[c]⟩)
def dItS (a:M):MA:=λε=>(a ε).bind λx=>match x with
 | .at (.str z)=>some (Qu z)
 |_=>none
theorem BI {z:Str}:jV (ItS z) (Qu z) Hs where
 go:=λi x Hs1 H1 e g1 g2=>by
  unfold Qu at e;rw [yN] at e;obtain ⟨c,hc,rfl⟩:=yI.mp e;rw [Array.getElem?_toList] at hc;have hl:i<z.cps.size:=(uP.mp hc).1;refine ⟨hl,λv H2 y=>?_⟩;obtain ⟨rfl,c',hc',rfl⟩:=y;rw [hc] at hc';cases hc';exact ⟨Hs1,.refl g2,rep_at.mpr rfl⟩
 stop:=λHs1 H1 g1 g2=>by
  show (Qu z).length=z.cps.size;unfold Qu;rw [yZ,Array.length_toList]
instance {a:M}[sa:SemE te a]:zh (iStr te) (dItS a) where
 h:=λe _ _ _ _ _ rs _ q=>by
  obtain ⟨x,ex,e1⟩:=bind_some e;split at e1
  ·cases e1;exact sa.h ex rs λv Hs1 H1 x1 r1=>⟨_,rep_at.mp r1,q _ _ _ x1 BI⟩
  ·cases e1
theorem Qq {f:Str}{v:V}:∀{fs:List (Str×V)},f∉fs.map (·.1)->qM f v fs=fs++[(f,v)]
 |[],_=>rfl
 |(g,x)::r,h=>by
  rw [yF] at h;unfold qM;rw [if_neg (show ¬ g=f from λz=>h (by rw [<- z];exact yR)),Qq λz=>h (yT _ z)];rfl
def QE (C:Addr)(f:Str)(a:W):WS:=λε N _=>a ε λy ε1=>∃ ns xs,ε1[0]?=some (.ow (.ob C ns xs))/\f∉ns/\ns.length<1000/\N (ε1.set 0 (.ow (.ob C (ns++[f]) (xs++[y]))))
instance [c:qa K C][n:u7 K C f][sa:SemW te a]:SemWS (jq K (qh 0) te f) (QE C f a) where
 h:=λh _ _ _ _ _ _ rd _ k _=>sa.h h rd λy ε1 v Hs1 H1 h1 rd1 g1 r1=>by
  obtain ⟨ns,xs,he,hf,hl,h2⟩:=h1;obtain ⟨p,hp,h0,hs,dx,fs,hH,hk,hr⟩:=rd1.ow 0 _ he;have hf':f∉fs.map (·.1):=by rw [hk];exact hf
  have hl':fs.length<1000:=by rw [<- yZ (f:=(·.1)),hk];exact hl
  refine ⟨_,hp,p,C,dx,fs,rfl,hH,c.c,n.n,hl',?_⟩;rw [Qq hf'];exact k _ _ _ _ h2 (rd1.change he hp ⟨dx,_,v3,by rw [yx,hk];rfl,by rw [yx];exact hr.append (.one r1)⟩) g1
def xU (C:Addr)(nm:Str)(m:List PV->Option PV)(i:Nat)(as:MA):M:=λε=>match ε[i]? with
 |some (.ow (.ob C' ns fs))=>if C'=C/\nm∉ns then (as ε).bind λxs=>(m (.ob C ns fs::xs)).bind λy=>match y with
  | .at u=>some (.at u)
  |_=>none else none
 |_=>none
instance {i:Nat}[sa:o5 ta as]:SemE (Qy C nm (y8 m) [] E (qh i) ta) (xU C nm m i as) where
 h:=λ{ε y} e {Hs0 H0 Hs H σ} rs {Q} q=>by
  unfold xU at e;split at e
  ·rename_i C' ns fs hi;split at e
   ·rename_i hc;obtain ⟨rfl,hn⟩:=hc;obtain ⟨xs,ex,e1⟩:=bind_some e;obtain ⟨z,ez,e2⟩:=bind_some e1;split at e2
    ·rename_i u;cases e2;obtain ⟨p,hp,n0,n,dx,gs,hH,hk,hr⟩:=rs.ow i _ hi;refine ⟨_,hp,p,dx,gs,rfl,hH,ZJ (by rw [hk];exact hn),sa.h ex rs λvs Hs1 H1 x1 r1=>?_⟩;have hH1:=x1.s2 _ _ hH;have n1:Hs1 p=none:=x1.s4 p (by rw [hH];exact λz=>nomatch z) n;have g:Same Hs1 (z6 Hs1 p (.ins C' dx gs)):=λb w e=>by rw [z7 (w6 e n1)];exact e
     refine ⟨z6 Hs1 p (.ins C' dx gs),_,_,?_,?_,ez,λv Hs' H' x r=>?_⟩
     ·intro b w e;by_cases hb:b=p
      ·subst hb;rw [v3] at e;cases e;exact hH1
      ·rw [z7 hb] at e;exact x1.s3 _ _ e
     ·rw [yC];exact .cons (rep_ob.mpr ⟨p,dx,gs,rfl,v3,hk,(hr.mono x1.s1).mono g⟩) (r1.mono g)
     ·cases rep_at.mp r;refine q _ (λb=>if b=p then none else Hs' b) H' (x1.trans ⟨λb w e=>?_,x.s2,λb w e=>?_,λb hb w=>?_⟩) (rep_at.mpr rfl)
      ·rw [if_neg (w6 e n1)];exact x.s1 _ _ (g _ _ e)
      ·split at e
       ·cases e
       ·exact x.s3 _ _ e
      ·by_cases hbp:b=p
       ·rw [if_pos hbp]
       ·rw [if_neg hbp];exact x.s4 b hb (by rw [z7 hbp];exact w)
    ·cases e2
   ·cases e
  ·cases e
section
variable {P:Program}{w:World}{K:Fg}{mg:Str->Option Value}{base:Heap}
theorem Jm {a:Addr}(s:Same Hs H)(ha:Hs a=none)(t:Top Hs H a y)(r:Reps Hs xs ws):RD [a] Hs H Hs H (L2.start N (.ref a::ws)) (.ow y::xs.map .sh++List.replicate (N.length-(xs.length+1)) .no):=by
 have q:=zF (N:=N) (xs:= .at (.ref a)::xs) s (.cons (rep_at.mpr rfl) r);have tl:∀(i:Nat)(sl:MSlot),(MSlot.ow y::xs.map .sh++List.replicate (N.length-(xs.length+1)) .no)[i+1]?=some sl->((PV.at (.ref a)::xs).map MSlot.sh++List.replicate (N.length-(PV.at (.ref a)::xs).length) .no)[i+1]?=some sl:=λi sl h=>h;refine ⟨.refl _,λb o e _=>e,s,λ_ _ z=>z,λi x h=>?_,λi x h=>?_,λi j x y b h1 h2 _ _=>?_,?_,λb hb=>?_,λb hb=>?_,(λb hb=>⟨_,rfl⟩),λi x h=>by
  cases i with
  |zero=>simp at h
  |succ i=>exact Ju (xs:=PV.at (.ref a)::xs) (tl i _ h)⟩
 ·cases i with
  |zero=>simp at h
  |succ i=>exact q.sh (i+1) x (tl i _ h)
 ·cases i with
  |zero=>simp at h;subst h;exact ⟨a,by unfold L2.start;rfl,.inr (yO.mpr rfl),ha,t⟩
  |succ i=>exact absurd (tl i _ h) (vE (xs:=PV.at (.ref a)::xs))
 ·cases i with
  |zero =>
   cases j with
   |zero=>rfl
   |succ j=>exact absurd (tl j _ h2) (vE (xs:=PV.at (.ref a)::xs))
  |succ i=>exact absurd (tl i _ h1) (vE (xs:=PV.at (.ref a)::xs))
 ·exact q.len
 ·rw [yO.mp hb];unfold L2.start;rfl
 ·rw [yO.mp hb];exact t.there
end
variable {fr:Bool}
structure ItOkB (J:It)(xs:List PV)(Hs H:Hp):Prop where
 go:∀(i:Nat)(x:PV)(Hs1 H1:Hp),xs[i]?=some x->Same Hs Hs1->Same H H1->Same Hs1 H1->J.go i H1/\∀ v H2,J.yld i H1 v H2->∃ Hs2,Ext Hs1 H1 Hs2 H2/\Rep Hs2 x v
 stop:∀(Hs1 H1:Hp),Same Hs Hs1->Same H H1->Same Hs1 H1->J.stop xs.length H1
class VF (ti:TI)(f:MA):Prop where
 h:∀{ε xs},f ε=some xs->∀{Hs0 H0 Hs H σ},RS Hs0 H0 Hs H σ ε->∀{R:It->Hp->Prop},(∀ J Hs' H',Ext Hs H Hs' H'->ItOkB J xs Hs' H'->R J H')->ti σ H R
instance {a:M}[sa:i7 te a]:VF (Xg K te) (k6 a) where
 h:=λe _ _ _ _ _ rs _ q=>by
  obtain ⟨x,ex,e1⟩:=bind_some e;split at e1
  ·cases e1;refine sa.h ex rs λv Hs1 H1 x1 r1=>?_;obtain ⟨p,vs,rfl,hp,r⟩:=o4 x1.s3 r1;refine ⟨p,rfl,⟨vs,SqL.of hp⟩,q _ _ _ x1 ⟨λi x Hs2 H2 ei g1 g2 g3=>?_,λHs2 H2 g1 g2 g3=>⟨vs,SqL.of (g2 _ _ hp),by rw [r.length];exact yS _⟩⟩⟩;obtain ⟨v,ev,rv⟩:=r.get ei;refine ⟨⟨vs,v,SqL.of (g2 _ _ hp),ev⟩,λw H3 y=>?_⟩;obtain ⟨rfl,y⟩:=y;have z:=y vs (SqL.of (g2 _ _ hp));rw [ev] at z;cases z;exact ⟨Hs2,.refl g3,rv.mono g1⟩
  ·cases e1
def wa (cap:List (Option Nat))(ts:List Nat)(i:MA)(g:MG)(c:MB)(f:M):M:=λε=>(i ε).bind λxs=>if xt cap ts=true/\xs.length<=lim then (i8 g c f (p6 cap ε) xs).bind λys=>some (.lst ys) else none
instance {cap:List (Option Nat)}{i:MA}{f:M}[si:VF wi i][sg:zN tg ts g][sc:qk tt c][sf:SemE te f]:xp (vH wi tg tt te cap) (wa cap ts i g c f) where
 h:=λe Hs0 H0 Hs H σ rs Q q=>by
  obtain ⟨xs,ex,e1⟩:=bind_some e;split at e1
  ·rename_i hcl;obtain ⟨hcap,hl⟩:=hcl;unfold xt at hcap;rw [yt] at hcap;obtain ⟨ys,ey,e2⟩:=bind_some e1;cases e2;refine si.h ex rs λJ Hs1 H1 x1 ok=>?_;have rc:=((rs.go x1).cap (yi hcap.1)).rebase;have wk:∀ i∈ts,(u8 cap σ)[i]?=some none:=λi hi=>by
    unfold u8;rw [yN,yi (uY.mp hcap.2 i hi)];rfl
   refine ⟨λk m zs H=>m=xs.length-k/\k<=xs.length/\∃ Hs2 ws,Ext Hs1 H1 Hs2 H/\RS Hs1 H0 Hs2 H (u8 cap σ) (p6 cap _)/\Reps Hs2 ws zs/\ws.length<=k/\∃ rest,i8 g c f (p6 cap _) (xs.drop k)=some rest/\ys=ws++rest,
    ⟨xs.length,by simp,uZ _,Hs1,[],.refl x1.s3,rc,.nil,yS _,ys,ey,rfl⟩,?_⟩
   rintro k m zs H2 ⟨rfl,hk,Hs2,ws,x2,r2,rz,hw,rest,er,eys⟩;refine ⟨xg (by rw [rz.length];omega),?_⟩;by_cases hlt:k<xs.length
   ·have hd:xs.drop k=xs[k]::xs.drop (k+1):=yf hlt;rw [hd] at er;unfold i8 at er;obtain ⟨ε1,eg,er1⟩:=bind_some er;obtain ⟨b,eb,er2⟩:=bind_some er1;obtain ⟨go,yl⟩:=ok.go k xs[k] Hs2 H2 (by simp [hlt]) x2.s1 x2.s2 x2.s3;refine .inr ⟨go,λv H3 y=>?_⟩;obtain ⟨Hs3,x3,r3⟩:=yl v H3 y;refine sg.h eg (r2.go x3) r3 λσ2 rs2 bt=>⟨bt.wk wk,sc.h eb rs2 λHs4 H4 x4=>?_⟩;cases b with
    |true =>
     rw [if_pos rfl] at er2;obtain ⟨z,ez,er3⟩:=bind_some er2;obtain ⟨rest',er4,er5⟩:=bind_some er3;cases er5;refine xc (sf.h ez (rs2.go x4) λu Hs5 H5 x5 r5=>⟨xs.length-(k+1),by omega,rfl,hlt,Hs5,ws++[z],x2.trans (x3.trans (x4.trans x5)),((r2.go x3).go x4).go x5,?_,?_,rest',er4,?_⟩)
     ·exact (rz.mono (x3.s1.trans (x4.s1.trans x5.s1))).snoc r5
     ·rw [yD];simp;omega
     ·rw [uS];exact eys
    |false=>rw [if_neg yV] at er2;exact qI ⟨xs.length-(k+1),by omega,rfl,hlt,Hs4,ws,x2.trans (x3.trans x4),(r2.go x3).go x4,rz.mono (x3.s1.trans x4.s1),by omega,rest,er2,eys⟩
   ·have ek:k=xs.length:=by omega
    subst ek;rw [uO] at er;unfold i8 at er;cases er;refine .inl ⟨ok.stop Hs2 H2 x2.s1 x2.s2 x2.s3,λD hD=>?_⟩;rw [yC] at eys;subst eys;have x12:=x1.trans x2;exact q D Hs2 _ (x12.trans (.newO x2.s3 hD)) (x12.s2.free hD) (x2.s3.free hD) ⟨zs,v3,rz⟩
  ·cases e1
section
variable {ε:ME}{c d:MB}{f:M}{a b:WS}{N:ME->Prop}{R:PV->ME->Prop}
theorem QG (h:c ε=some false)(k:b ε N R):xR (wPT c) a b ε N R:=by
 refine ⟨false,h,?_⟩;show if false=true then a ε N R else b ε N R
 rw [if_neg yV];exact k
theorem LO (h:c ε=some true)(k:a ε N R):xR (wPT c) a b ε N R:=by
 refine ⟨true,h,?_⟩;show if true=true then a ε N R else b ε N R
 rw [if_pos rfl];exact k
theorem jG (h1:c ε=some false)(h2:d ε=some false):dOr c d ε=some false:=by unfold dOr;rw [h1];show (if false=true then some true else d ε)=_;rw [if_neg yV];exact h2
theorem dOr_r (h1:c ε=some false)(h2:d ε=some true):dOr c d ε=some true:=by unfold dOr;rw [h1];show (if false=true then some true else d ε)=_;rw [if_neg yV];exact h2
theorem Zk (h1:c ε=some false):zi c d ε=some false:=by unfold zi;rw [h1];rfl
theorem vY {v:Bool}(h1:c ε=some true)(h2:d ε=some v):zi c d ε=some v:=by unfold zi;rw [h1];show (if true=true then d ε else some false)=_;rw [if_pos rfl];exact h2
theorem ql (h:c ε=some true):c6 c ε=some false:=by unfold c6;rw [h];rfl
theorem vb (h:c ε=some false):c6 c ε=some true:=by unfold c6;rw [h];rfl
theorem o7 {v:Bool}(h:f ε=some (.at (.bl v))):i9 f ε=some v:=by unfold i9;rw [h];rfl
theorem p7 {v:Bool}(h:f ε=some (.at (.bl v))):dT f ε=some v:=by unfold dT;rw [h];rfl
theorem vg :i4 [.lst xs,.at (.ty "list")]=some (.at (.bl true)):=by unfold i4 tyP;simp only [yM,Lm]
end
variable {fr:Bool}
theorem QV {g:MG}{f:M}{ε0:ME}{α:Type}(F G:α->PV):∀(l:List α),(∀ a∈l,∃ ε1,g (F a) ε0=some ε1/\f ε1=some (G a))->i8 g k8 f ε0 (l.map F)=some (l.map G)
 |[],_=>rfl
 |a::l,h=>by
  obtain ⟨ε1,e1,e2⟩:=h a yR;have ih:=QV F G l λb hb=>h b (yT _ hb);show Option.bind (g (F a) ε0) (λε1=>Option.bind (k8 ε1) λb=>if b=true then (f ε1).bind λy=>(i8 g k8 f ε0 (l.map F)).bind λys=>some (y::ys) else i8 g k8 f ε0 (l.map F))=_;rw [e1,ih];show (if true=true then (f ε1).bind λy=>some (y::l.map G) else some (l.map G))=_;rw [if_pos rfl,e2];rfl
theorem qm {cap:List (Option Nat)}{it:MA}{f:M}(F G:α->PV)(l:List α)(h:it ε=some (l.map F))(hc:xt cap ts=true)(hl:l.length<=lim)(k:∀ a∈l,∃ ε1,g (F a) (p6 cap ε)=some ε1/\f ε1=some (G a)):c5 cap ts it g k8 f ε=some (.lst (l.map G)):=KM h hc (by rw [yZ];exact hl) (QV F G l k)
theorem ZK {g:MG}{f:MS}{α:Type}(F:α->PV)(I:List α->ME->Prop)(h:∀ a l ε,I (a::l) ε->∃ ε1 ε2,g (F a) ε=some ε1/\f ε1=some (.nx ε2)/\I l ε2):∀(l:List α)(ε:ME),I l ε->∃ ε',xI g f (l.map F) ε=some (.nx ε')/\I [] ε'
 |[],ε,i=>⟨ε,rfl,i⟩
 |a::l,ε,i=>by
  obtain ⟨ε1,ε2,e1,e2,i2⟩:=h a l ε i;obtain ⟨ε',e3,i3⟩:=ZK F I h l ε2 i2;refine ⟨ε',?_,i3⟩;show Option.bind (g (F a) ε) (λε1=>Option.bind (f ε1) λo=>match o with
   | .nx ε2=>xI g f (l.map F) ε2
   | .ct ε2=>xI g f (l.map F) ε2
   | .bk ε2=>some (.nx ε2)
   | .rt y=>some (.rt y))=_
  rw [e1,yM,e2];exact e3
section
variable {ε:ME}{a b:M}{v w:Bool}
theorem vc (h1:a ε=some (.at (.bl true)))(h2:b ε=some (.at (.bl w))):zz a b ε=some (.at (.bl w)):=by unfold zz;rw [h1];exact h2
theorem Zs (h1:a ε=some (.at (.bl false))):zz a b ε=some (.at (.bl false)):=by unfold zz;rw [h1];rfl
theorem Yc (h1:a ε=some (.at (.bl v))):QX a ε=some (.at (.bl (!v))):=by unfold QX;rw [h1];rfl
theorem Yb (h:c ε=some true)(k:a ε=some x):dIf c a b ε=some x:=by unfold dIf;rw [h];exact k
theorem Zv (h:c ε=some false)(k:b ε=some x):dIf c a b ε=some x:=by unfold dIf;rw [h];exact k
theorem wX {g g':PV->PV->Option PV}{c:M}{z:PV}{r:Bool}(h1:a ε=some x)(h2:b ε=some y)(h3:g x y=some (.at (.bl true)))(h4:c ε=some z)(h5:g' y z=some (.at (.bl r))):zj g g' a b c ε=some (.at (.bl r)):=by unfold zj;rw [h1,yM,h2,yM,h3];show Option.bind (c ε) _=_;rw [h4];exact h5
theorem wg (h:a ε=some x):xS a ε=some (.nx ε):=by unfold xS;rw [h];rfl
theorem o9:n9 ε=some (.nx ε):=rfl
theorem wY (h:a ε=some (.lst xs)):k6 a ε=some xs:=by unfold k6;rw [h];rfl
theorem jH (h:a ε=some (.ob C ns xs))(k:wn f ns xs=some y):xH C f a ε=some y:=by unfold xH;rw [h,yM];show (if C=C then _ else _)=_;rw [if_pos rfl];exact k
theorem xv {fs:List PV}{y:Option PV}(h:a ε=some (.ob C ns fs))(hn:nm∉ns)(k:as ε=some xs)(e:m (.ob C ns fs::xs)=y):qw C nm m a as ε=y:=by unfold qw;rw [h,yM];show (if C=C/\nm∉ns then _ else _)=_;rw [if_pos ⟨rfl,hn⟩,k];exact e
theorem Xc {k:Nat}{bd:MS}(hl:xs.length=k)(h:bd (xs.map .sh++List.replicate (n-k) .no)=some (.nx ε')):p9 n k bd xs=some (.at .non):=by unfold p9;rw [if_pos hl,h];rfl
theorem Bv {n:Int}:i4 [.at (.int n),.at (.ty "int")]=some (.at (.bl true)):=by unfold i4 tyP;simp only [yM,Ll]
theorem Bw {n:Int}:i4 [.at (.int n),.at (.ty "bool")]=some (.at (.bl false)):=by unfold i4 tyP;simp only [yM,Lk]
theorem By {n:Str}:i4 [.at (.str n),.at (.ty "str")]=some (.at (.bl true)):=by unfold i4 tyP;simp only [yM,Ln]
theorem Bz {n:List PV}:i4 [.tup n,.at (.ty "tuple")]=some (.at (.bl true)):=by unfold i4 tyP;simp only [yM,Lo]
theorem Wx:∀ bs:List Bool,bls (bs.map λb=> .at (.bl b))=some bs
 |[]=>rfl
 |b::bs=>by
  have ih:=Wx bs;rw [yF];unfold bls;rw [ih];rfl
theorem Za (bs:List Bool):jf [.lst (bs.map λb=> .at (.bl b))]=some (.at (.bl (bs.all id))):=by show (bls _).bind _=_;rw [Wx];rfl
theorem Zb (l:List α):jf [.lst (l.map λ_=> .at (.bl true))]=some (.at (.bl true)):=by
 have e:(l.map λ_=>PV.at (.bl true))=((l.map λ_=>true).map λb=>PV.at (.bl b)):=by rw [yq];rfl
 rw [e,Za];have:(l.map λ_=>true).all id=true:=by simp
 rw [this]
end
def leS (a b:Str):Bool:=!decide (b.cps.toList<a.cps.toList)
def jQ (ss:List Str):List Str:=ss.mergeSort leS
theorem UH (ss:List Str):(jQ ss).Perm ss:=List.mergeSort_perm ss leS
theorem MW (ss:List Str):QQ (jQ ss):=by
 have:=List.pairwise_mergeSort (le:=leS) (λa b c h1 h2=>by
  unfold leS at h1 h2 ⊢;simp only [Bool.not_eq_true',decide_eq_false_iff_not] at h1 h2 ⊢;exact List.not_lt.mpr (List.le_trans (List.not_lt.mp h1) (List.not_lt.mp h2))) (λa b=>by
  unfold leS;by_cases h:b.cps.toList<a.cps.toList
  ·have h2:¬ (a.cps.toList<b.cps.toList):=λk=>List.lt_irrefl _ (List.lt_trans h k);simp [h2]
  ·simp [h]) ss
 exact this.imp λh=>by unfold leS at h;simpa using h
theorem Ve {ss ss':List Str}(p:ss'.Perm ss)(u:QQ ss'):ss'=jQ ss :=
 List.Perm.eq_of_pairwise (λa b _ _ h1 h2=>by
  have e:=List.le_antisymm (List.not_lt.mp h1) (List.not_lt.mp h2);cases a;cases b;simp only [Str.mk.injEq];exact Array.toList_inj.mp e) u (MW ss) (p.trans (UH ss).symm)
def XM:List PV->Option (List Str)
 |[]=>some []
 | .at (.str s)::xs=>(XM xs).map (s::·)
 |_::_=>none
theorem UM:∀{xs:List PV}{ss:List Str},XM xs=some ss->xs=ss.map λs=> .at (.str s)
 |[],_,h=>by cases h;rfl
 |x::xs,ss,h=>by
  unfold XM at h;split at h
  ·rename_i e;cases e
  ·rename_i s' xs' e;injection e with e1 e2;subst e1 e2;obtain ⟨r,hr,rfl⟩:=yI.mp h;rw [UM hr];rfl
  ·cases h
def jK:List v7->Option (List Str)
 |[]=>some []
 | .inr s::xs=>(jK xs).map (s::·)
 |_::_=>none
theorem ZE:∀{xs:List v7}{ss:List Str},jK xs=some ss->xs=ss.map Sum.inr
 |[],_,h=>by cases h;rfl
 |x::xs,ss,h=>by
  unfold jK at h;split at h
  ·rename_i e;cases e
  ·rename_i s' xs' e;injection e with e1 e2;subst e1 e2;obtain ⟨r,hr,rfl⟩:=yI.mp h;rw [ZE hr];rfl
  ·cases h
def ZX:List PV->Option PV
 |[.lst xs]=>(XM xs).bind λss=>if ss.length<64 then some (.lst ((jQ ss).map λs=> .at (.str s))) else none
 |[.dk ks _]=>(jK ks).bind λss=>if ss.length<64 then some (.lst ((jQ ss).map λs=> .at (.str s))) else none
 |[.fk ks _]=>(jK ks).bind λss=>if ss.length<64 then some (.lst ((jQ ss).map λs=> .at (.str s))) else none
 |_=>none
theorem Jr (ss:List Str):Reps H (ss.map λs=> .at (.str s)) (ss.map V.str):=by have:=Reps.ofAts (H:=H) (ss.map V.str);rwa [yq] at this
instance :XY (Uq K) ZX where
 h:=λ{xs z} e {Hs H vs} s r {Q} q=>by
  unfold ZX at e;split at e
  ·obtain ⟨ss,eb,e1⟩:=bind_some e;split at e1
   ·rename_i hl;cases e1;obtain ⟨v,rfl,a⟩:=za r;obtain ⟨p,ws,rfl,e1,r1⟩:=o4 s a;rw [UM eb,show (ss.map λb=>PV.at (.str b))=(ss.map V.str).map .at by rw [yq];rfl] at r1;cases r1.ats;refine ⟨p,ss,rfl,.inl (SqL.of e1),hl,λl ss' hn p1 p2=>?_⟩;rw [Ve p1 p2];exact q l _ _ (.newO s hn) hn (s.free hn) ⟨_,v3,Jr _⟩
   ·cases e1
  ·obtain ⟨ss,eb,e1⟩:=bind_some e;split at e1
   ·rename_i hl;cases e1;obtain ⟨v,rfl,a⟩:=za r;obtain ⟨p,kvs,rfl,hp,hk,hr⟩:=wD s a;refine ⟨p,ss,rfl,.inr ⟨kvs,.inl hp,by rw [hk,ZE eb]⟩,hl,λl ss' hn p1 p2=>?_⟩;rw [Ve p1 p2];exact q l _ _ (.newO s hn) hn (s.free hn) ⟨_,v3,Jr _⟩
   ·cases e1
  ·obtain ⟨ss,eb,e1⟩:=bind_some e;split at e1
   ·rename_i hl;cases e1;obtain ⟨v,rfl,a⟩:=za r;obtain ⟨p,o,kvs,rfl,hp,hk,hr⟩:=Jn s a;refine ⟨p,ss,rfl,.inr ⟨kvs,.inr ⟨o,hp⟩,by rw [hk,ZE eb]⟩,hl,λl ss' hn p1 p2=>?_⟩;rw [Ve p1 p2];exact q l _ _ (.newO s hn) hn (s.free hn) ⟨_,v3,Jr _⟩
   ·cases e1
  ·cases e
structure FunD (K:Fg)(x qual:Str)(st:Stmt)(f:Addr)(fd:FuncData):Prop where
 ex:∃(oc:Value)(od:Option Addr)(dV kV doc pm:Value)(an:Option Addr)(cdv ct:Value)(osl:Array (Option Value)),
  fd=PySem.W.fnOf x qual (qP st) (c7 st) (j6 st) dV kV doc pm an cdv ct/\K.lookup f=some ⟨oc,od,.func fd,osl⟩/\PySem.W.codeIn K cdv qual=true
 kp:PySem.W.keepIn K (.ref f)=true
section
variable {P:Program}{w:World}{K:Fg}{mg:Str->Option Value}{base:Heap}
theorem Yi {x:Str}{f:Addr}{oc:Value}{od an:Option Addr}{osl:Array (Option Value)}{dV kV doc pm cdv ct:Value}(l:K.lookup f=some ⟨oc,od,.func (PySem.W.fnOf x qual (qP st) (c7 st) (j6 st) dV kV doc pm an cdv ct),osl⟩)(c:PySem.W.codeIn K cdv qual=true)(k:PySem.W.keepIn K (.ref f)=true):FunD K x qual st f (PySem.W.fnOf x qual (qP st) (c7 st) (j6 st) dV kV doc pm an cdv ct):=⟨⟨oc,od,dV,kV,doc,pm,an,cdv,ct,osl,rfl,l,c⟩,k⟩
theorem xC {o value:Expr}{ta:TE}{pos':Pos}(hK:X.K=K)(ha:PE X o ta)(hv:PE X value tv)(hs:swapsWith value (some (.Attribute o f pos')) pos.line X.env=pure false:=by rfl):PS X (.Assign [.Attribute o f pos'] value pos) (jq K ta tv f):=by subst hK;exact Dw ha hv hs
end
def xu (C:Addr)(f:Str)(a:M):MS:=λε=>(a ε).bind λy=>match (ε[0]?:Option MSlot) with
 |some (.ow (.ob C' ns xs))=>if C'=C/\f∉ns/\ns.length<1000 then some (.nx (ε.set 0 (.ow (.ob C (ns++[f]) (xs++[y]))))) else none
 |_=>none
def wPN (f:MS):WS:=λε N _=>∃ ε',f ε=some (.nx ε')/\N ε'
theorem Kx {a:M}{o:Out}(h:xu C f a ε=some o):∃ y ns xs,a ε=some y/\ε[0]?=some (.ow (.ob C ns xs))/\f∉ns/\ns.length<1000/\o = .nx (ε.set 0 (.ow (.ob C (ns++[f]) (xs++[y])))):=by
 unfold xu at h;obtain ⟨y,ey,h1⟩:=bind_some h;split at h1
 ·rename_i C' ns xs he;split at h1
  ·rename_i hc;cases h1;obtain ⟨rfl,h2,h3⟩:=hc;exact ⟨y,ns,xs,ey,he,h2,h3,rfl⟩
  ·cases h1
 ·cases h1
instance {a:M}[c:qa K C][n:u7 K C f][sa:SemE te a]:SemWS (jq K (qh 0) te f) (wPN (xu C f a)) where
 h:=λ{ε N R} h=>by
  obtain ⟨ε',e,h1⟩:=h;obtain ⟨y,ns,xs,ey,he,h2,h3,e4⟩:=Kx e;injection e4 with e4;subst e4;exact SemWS.h (ts:=jq K (qh 0) te f) (w:=QE C f (wP a)) ⟨y,ey,ns,xs,he,h2,h3,h1⟩
instance {a:M}[sa:SemE te a]:SemWS (xQ te) (wPN (xS a)) where
 h:=λ{ε N R} h=>by
  obtain ⟨ε',e,h1⟩:=h;obtain ⟨y,ey,e2⟩:=bind_some e;cases e2;exact SemWS.h (ts:=xQ te) (w:=Vw (wP a)) ⟨y,ey,h1⟩
instance XL {u:TS}{a b:MS}[sa:SemWS t (wPN a)][sb:SemWS u (wPN b)]:SemWS (tSeq t u) (wPN (u6 a b)) where
 h:=λ{ε N R} h S Hs0 H0 Hs H σ rd D k rt=>by
  obtain ⟨ε',e,h1⟩:=h;obtain ⟨o1,e1,e2⟩:=bind_some e;refine SemWS.h (ts:=tSeq t u) (w:=wSeq (wPN a) (wPN b)) (ε:=ε) (N:=N) (R:=R) ?_ rd k rt;cases o1 with
  |nx ε1=>exact ⟨ε1,e1,ε',e2,h1⟩
  |rt y=>cases e2
  |bk ε1=>cases e2
  |ct ε1=>cases e2
def jF (n k:Nat)(C:Addr)(f:MS):List PV->Option PV:=λxs=>if xs.length+1=k then (f (.ow (.ob C [] [])::xs.map .sh++List.replicate (n-k) .no)).bind λo=>match o with
 | .nx ε=>(match (ε[0]?:Option MSlot) with
  |some (.ow y)=>some y
  |_=>none)
 |_=>none else none
def jm:List PV->Option (List (v7×PV))
 |[]=>some []
 | .tup [k,v]::xs=>(wj k).bind λkk=>(jm xs).map ((kk,v)::·)
 |_::_=>none
def vt:List PV->Option PV
 |[.lst xs]=>(jm xs).bind λps=>if (ps.map (·.1)).Nodup/\ps.length<=1000 then some (.fk (ps.map (·.1)) (ps.map (·.2))) else none
 |_=>none
theorem Ua {Hs H:Hp}(s:Same Hs H):∀{xs:List PV}{ps:List (v7×PV)}{vs:List V},jm xs=some ps->Reps Hs xs vs->∃(ts:List Addr)(kvs:List (v7×V)),vs=ts.map V.ref/\Paired (λt (kv:v7×V)=>H t=some (.tup [kV kv.1,kv.2])) ts kvs/\kvs.map (·.1)=ps.map (·.1)/\Reps Hs (ps.map (·.2)) (kvs.map (·.2))
 |[],ps,vs,h,r=>by
  cases h;cases reps_nil.mp r;exact ⟨[],[],rfl,.nil,rfl,.nil⟩
 |x::xs,ps,vs,h,r=>by
  unfold jm at h;split at h
  ·rename_i e;cases e
  ·rename_i k v xs' e;injection e with e1 e2;subst e1 e2;obtain ⟨kk,ek,h1⟩:=bind_some h;obtain ⟨ps',hp,rfl⟩:=yI.mp h1;obtain ⟨w,ws,rfl,r1,r2⟩:=reps_cons.mp r;obtain ⟨t,us,rfl,ht,ru⟩:=rep_tup.mp r1;obtain ⟨u1,us1,rfl,p1,p2⟩:=reps_cons.mp ru;obtain ⟨u2,us2,rfl,p3,p4⟩:=reps_cons.mp p2;cases reps_nil.mp p4;have ew:=Xl (H:=H) (.inl p1) ek;subst ew;obtain ⟨ts,kvs,rfl,q1,q2,q3⟩:=Ua s hp r2;exact ⟨t::ts,(kk,u2)::kvs,rfl,.cons (s _ _ ht) q1,by rw [yF,yF,q2],.cons p3 q3⟩
  ·cases h
instance:jW Uj vt where
 h:=λ{xs z} e {Hs H vs} s r {Q} q=>by
  unfold vt at e;split at e
  ·obtain ⟨ps,eb,e1⟩:=bind_some e;split at e1
   ·rename_i hl;cases e1;obtain ⟨v,rfl,a⟩:=za r;obtain ⟨p,ws,rfl,ep,r1⟩:=o4 s a;obtain ⟨ts,kvs,rfl,q1,q2,q3⟩:=Ua s eb r1;have hk:kvs.length=ps.length:=by have:=congrArg List.length q2;rwa [yZ,yZ] at this
    refine ⟨p,ts,kvs,rfl,ep,q1,by rw [q2];exact hl.1,by omega,λl o hn=>?_⟩;exact q _ _ _ (.new s hn) (rep_fk.mpr ⟨l,o,kvs,rfl,v3,q2,q3.mono (Ext.new s hn).s1⟩)
   ·cases e1
  ·cases e
def wAsg (g:MG)(a:W):WS:=λε N _=>a ε λx ε1=>∃ ε2,g x ε1=some ε2/\N ε2
instance (priority:=500)[sa:SemW te a][sg:SemWG tg g]:SemWS (xl te tg) (wAsg g a) where
 h:=λh _ _ _ _ _ _ rd _ k _=>sa.h h rd λx ε1 v Hs1 H1 h1 rd1 g1 r1=>by
  obtain ⟨ε2,e,h2⟩:=h1;exact sg.h e rd1 r1 λσ' rd2=>k _ _ _ _ h2 rd2 g1
end Mi
namespace Mi
open PySem PySem.Spec PyProof.Rows L2
variable{ε:ME}{f:M}{ts:List Nat}{it:MA}
variable {fr:Bool}
section
variable {P:Program}{w:World}{K:Fg}{mg:Str->Option Value}{base:Heap}
theorem KN {cap:List (Option Nat)}{G:MG}{c:MB}{xs ys:List PV}(h:it ε=some xs)(hc:xt cap ts=true)(hl:xs.length<=lim)(k:i8 G c f (p6 cap ε) xs=some ys):wa cap ts it G c f ε=some (.lst ys):=by unfold wa;rw [h];show (if _ then _ else _)=_;rw [if_pos ⟨hc,hl⟩,k];rfl
theorem KL {cap:List (Option Nat)}{g:MG}{α:Type}(F G:α->PV)(l:List α)(h:it ε=some (l.map F))(hc:xt cap ts=true)(hl:l.length<=lim)(k:∀ a∈l,∃ ε1,g (F a) (p6 cap ε)=some ε1/\f ε1=some (G a)):wa cap ts it g k8 f ε=some (.lst (l.map G)):=KN h hc (by rw [yZ];exact hl) (QV F G l k)
end
end Mi
namespace L2
open PySem PySem.Spec PyProof.Rows
def QM (CX:CXT)(X:Cx)(σ:St)(E:XK):Prop:=∀(pins:List (Addr×Obj))(H:Hp)(s:Shared)(e:Value)(s':Shared),Inv X pins σ H s->CX X.stack H s E e s'->X.xe e s'
def PEa (X:Cx)(σ:St)(e:Expr)(t:TE):Prop:=∀(pins:List (Addr×Obj))(s:Shared)(H:Hp)(Q:VK),Inv X pins σ H s->t σ H Q->wpAny (model X.prog X.w) X.A (eval e X.env) (EP X pins σ Q) X.xe s
def PSa (X:Cx)(σ:St)(st:Stmt)(t:TS):Prop:=∀(pins:List (Addr×Obj))(s:Shared)(H:Hp)(D:qu),Inv X pins σ H s->t D σ H->wpAny (model X.prog X.w) X.A (exec st X.env) (SP X pins D) X.xe s
def PSsa (X:Cx)(σ:St)(st:List Stmt)(t:TS):Prop:=∀(pins:List (Addr×Obj))(s:Shared)(H:Hp)(D:qu),Inv X pins σ H s->t D σ H->wpAny (model X.prog X.w) X.A (execs st X.env) (SP X pins D) X.xe s
section
variable {X:Cx}{k j:Nat}{C:Addr}{m x:Str}{ps:List Str}{sp:Sp}{o e c:Expr}{es:List Expr}{te ta:TE}{t:TA}{tc:TT}{apos pos p:Pos}{E:XK}{σ:St}{st:Stmt}{a b:List Stmt}{u v:TS}
theorem DB (h1:PSa X σ st u):PSsa X σ [st] u:=by
 intro pins s H D I h;refine wpAny_execs_cons (j5 (h1 pins s H D I h) λf s1 q=>?_);cases f with
 |next=>exact wpAny_execs_nil q
 |ret v=>exact q
 |brk=>exact q
 |cont=>exact q
theorem DA (he:PEa X σ e te)(hs:swapsWith e none pos.line X.env=pure false:=by rfl):PSa X σ (.Expr e pos) (xQ te):=by intro pins s H D I h;exact wpAny_Expr_any (j5 (he pins s H _ I h) λv s1 ⟨x,H1,I1,r1,q1⟩=>⟨σ,H1,I1,q1⟩) I.quiet hs
end
end L2
namespace Mi
open PySem L2
variable{C:Addr}{t:TS}{K:Fg}
instance {fr:Bool}{E:XK}:c9 fr (Vk C E) qx where
 h:=λe=>by cases e
abbrev RM:=ME->Out->Prop
class jX (fr:Bool)(ts:TS)(r:RM):Prop where
 h:∀{ε o},r ε o->∀{Hs0 H0 Hs H σ},RS Hs0 H0 Hs H σ ε->∀{D:qu},OutK fr Hs0 H0 D o->ts D σ H
variable {fr:Bool}
def rP (b:MS):RM:=λε o=>b ε=some o
instance {b:MS}[s:c9 fr t b]:jX fr t (rP b) where
 h:=λe=>s.h e
def rSeq (a b:RM):RM:=λε o=>(∃ ε',a ε (.nx ε')/\b ε' o)∨(∃ y,o = .rt y/\a ε (.rt y))
instance {u:TS}{a b:RM}[sa:jX fr t a][sb:jX fr u b]:jX fr (tSeq t u) (rSeq a b) where
 h:=λh _ _ _ _ _ rs D q=>by
  rcases h with ⟨ε',h1,h2⟩|⟨y,rfl,h⟩
  ·exact sa.h h1 rs λHs H σ r=>sb.h h2 r q
  ·exact sa.h h rs q
theorem RS.drop {Hs0 H0 Hs H:Hp}{σ:St}{ε:ME}(r:RS Hs0 H0 Hs H σ ε)(i:Nat):RS Hs0 H0 Hs H (σ.set i none) (ε.set i .no):=by
 have dn:∀(j:Nat)(s:MSlot),(ε.set i .no)[j]?=some s->s = .no∨(i≠j/\ε[j]?=some s):=λj s q=>by
  rw [yK] at q;split at q
  ·split at q
   ·cases q;exact .inl rfl
   ·cases q
  ·rename_i h;exact .inr ⟨h,q⟩
 have up:∀(j:Nat),i≠j->(σ.set i none)[j]?=σ[j]?:=λj h=>yr h;refine ⟨r.ext,λj x q=>?_,λj x q=>?_,λj k x y a h1 h2 h3 h4=>?_,by rw [yw,yw,r.len],λj x q=>?_⟩
 ·rcases dn j _ q with z|⟨h,q⟩
  ·cases z
  ·rw [up j h];exact r.sh j x q
 ·rcases dn j _ q with z|⟨h,q⟩
  ·cases z
  ·rw [up j h];exact r.ow j x q
 ·rcases dn j _ h1 with z|⟨g1,q1⟩
  ·cases z
  ·rcases dn k _ h2 with z|⟨g2,q2⟩
   ·cases z
   ·rw [up j g1] at h3;rw [up k g2] at h4;exact r.nd j k x y a q1 q2 h3 h4
 ·rcases dn j _ q with z|⟨h,q⟩
  ·cases z
  ·rw [up j h];exact r.bo j x q
def rFn (n k:Nat)(r:RM):List PV->PV->Prop:=λxs y=>xs.length=k/\∃ o,r (xs.map .sh++List.replicate (n-k) .no) o/\match o with
 | .rt z=>y=z
 | .nx _=>y = .at .non
 |_=>False
def i6:V->Option Value
 | .ref a=>some (.ref a)
 | .ty n=>some (.type n)
 |_=>none
theorem Gf {v:V}{d:Value}(h:i6 v=some d):∀ u,RelV v u->u=d:=by
 intro u r;unfold i6 at h;split at h
 ·cases h;exact r
 ·cases h;exact r
 ·cases h
def QC:List V->Option (List Value)
 |[]=>some []
 |v::vs=>(i6 v).bind λd=>(QC vs).bind λds=>some (d::ds)
theorem Gg:∀{vs:List V}{ds:List Value},QC vs=some ds->∀ us,Vals vs us->us=ds
 |[],ds,h,us,r=>by cases h;cases r;rfl
 |v::vs,ds,h,us,r=>by
  unfold QC at h;obtain ⟨d,e1,h⟩:=bind_some h;obtain ⟨dr,e2,h⟩:=bind_some h;cases h;cases r with
  |cons r1 r2=>rw [Gf e1 _ r1,Gg e2 _ r2]
theorem Xd :∀ c∈([]:List Addr),qS K c:=λ_ z=>nomatch z
theorem jJ {cs:List Addr}(h:qS K C)(r:∀ c∈cs,qS K c):∀ c∈C::cs,qS K c:=λc hc=>by
 rcases yJ.mp hc with rfl|hc
 ·exact h
 ·exact r c hc
def VA (ε:ME):Prop:=∀(i:Nat)(s:MSlot),ε[i]?=some s->s = .no∨∃ x,s = .sh x
end Mi
namespace L2
open PySem PySem.Spec PyProof.Rows
section
variable {P:Program}{w:World}{K:Fg}{mg:Str->Option Value}{base:Heap}{A:Around}{outer:List Env}{s:Shared}{H:Hp}{f c':Addr}{pm ctv:Value}{params:Arguments}{body:Expr}{scope:Scope}{qual:Str}{clos:List (Str×Addr)}{ps fr:List Str}
 {us:List Value} {vs cv:List V} {t:TE} {Q:VK} {E:XK}
end
section
variable {X:Cx}{K:Fg}
def Uk (K:Fg):V->List V->Hp->VK->Prop:=λo vs H Q=>∃ p xs x j,o = .ref p/\vs=[x]/\SqL K H p xs/\y9 x=true/\xs.all y9=true/\xs.length<=1000000/\(xs[j]?.map λy=>t9 y x)=some true/\(∀(m:Nat)(y:V),m<j->xs[m]?=some y->t9 y x=false)/\Q (.int j) H
theorem Zr {x:V}:∀{xs:List V}{us:List Value}{i:Nat}{y:V},Vals xs us->xs.all y9=true->xs[i]?=some y->∃ u,us[i]?=some u/\eqU x u=t9 y x
 |_,_,_,_,.nil,_,h=>by simp at h
 |z::xs,u::us,0,y,.cons r t,f,h=>by
  rw [List.all_cons,yt] at f;cases h;exact ⟨u,rfl,Zq r f.1⟩
 |z::xs,u::us,i+1,y,.cons r t,f,h=>by
  rw [List.all_cons,yt] at f;exact Zr (i:=i) t f.2 (by simpa using h)
theorem Ps (hK:X.K=K):MtM X "list.index" (Uk K):=by
 subst hK;intro pins s σ H o vs v us Q I ro rv h;obtain ⟨p,xs,x,j,rfl,rfl,hq,fx,fs,hl,hj,hno,q⟩:=h;cases ro;obtain ⟨u,rfl,ru⟩:=rv.one;obtain ⟨its,r,⟨⟨cls,dd,data,sl⟩,n,ho,hc,hd,hs⟩,hz⟩:=I.list hq;simp only at hc hd hs;subst hc hd hs;obtain ⟨y,hy,hyt⟩:=yI.mp hj;obtain ⟨w,hw,ew⟩:=Zr (x:=x) r fs hy;have hlen:=r.length;have jl:j<its.length:=(yv.mp hw).1;have ej:its.toArray[j]'(by simpa using jl)=w:=by have:=(yv.mp hw).2;simpa using this
 refine call_meets F.slot_list_index ⟨_,ho,rfl⟩ F.entry_list_index (F.args_list_index_2 _ _)
  (SeqAt.list_indexAt p its.toArray n none sl u (eqU x) j (by simpa using jl) (by omega) (by rw [ej,ew];exact hyt) (λm hm hmj=>?_)) ⟨ho,λw hw=>ZO ru fx r fs w (by simpa using hw),?_⟩
 ·have ml:m<its.length:=by simpa using hm
  obtain ⟨z,hz⟩:∃ z,xs[m]?=some z:=⟨xs[m]'(by omega),yA _⟩;obtain ⟨w2,hw2,ew2⟩:=Zr (x:=x) r fs hz;have:its.toArray[m]'hm=w2:=by have:=(yv.mp hw2).2;simpa using this
  rw [this,ew2];exact hno m z hmj hz
 ·exact ⟨.int j,H,I.kept (t':=s.toks+1) λb o e=>e,⟨_,rfl⟩,q⟩
end
end L2
namespace Mi
open PySem L2
variable {fr:Bool}
def pRep:PV->PV->Option PV
 | .lst xs,.at (.int k)=>if -(lim:Int)<=k/\k<=lim/\xs.length*k.toNat<=lim then some (.lst (List.replicate k.toNat xs).flatten) else none
 |_,_=>none
theorem Reps.rep {H:Hp}{xs:List PV}{vs:List V}(r:Reps H xs vs):∀ k:Nat,Reps H (List.replicate k xs).flatten (List.replicate k vs).flatten
 |0=> .nil
 |k+1=>by
  rw [uV,uV,uI,uI];exact r.append (Reps.rep r k)
instance:SemRO rRep pRep where
 h:=λ{x y z} e {Hs H v w} s a b {Q} q=>by
  unfold pRep at e;split at e
  ·split at e
   ·rename_i xs k hl;cases e;obtain ⟨p,vs,rfl,e1,r1⟩:=o4 s a;cases u5 b;have hlim:(lim:Int)=1000000:=rfl;exact ⟨p,k,vs,rfl,rfl,e1,by omega,by omega,xg (by rw [r1.length];exact hl.2.2),λl hl=>q l _ _ (.newO s hl) hl (s.free hl) ⟨_,v3,r1.rep _⟩⟩
   ·cases e
  ·cases e
def idxV (u:V):List V->Option Nat
 |[]=>none
 |y::ys=>if t9 y u=true then some 0 else (idxV u ys).map (·+1)
theorem Yn {u:V}:∀{us:List V}{j:Nat},idxV u us=some j->(us[j]?.map λy=>t9 y u)=some true/\∀(m:Nat)(y:V),m<j->us[m]?=some y->t9 y u=false
 |[],_,h=>by cases h
 |y::ys,j,h=>by
  unfold idxV at h;split at h
  ·rename_i hy;cases h;exact ⟨by simp [hy],λm y hm=>absurd hm (Nat.not_lt_zero _)⟩
  ·rename_i hy;obtain ⟨k,hk,rfl⟩:=yI.mp h;obtain ⟨h1,h2⟩:=Yn hk;refine ⟨by simpa using h1,λm z hm hz=>?_⟩;cases m with
   |zero=>cases hz;simpa using hy
   |succ m=>exact h2 m z (by omega) (by simpa using hz)
def Zn (a b:M):M:=λε=>(a ε).bind λx=>(b ε).bind λy=>match x,y with
 | .lst xs,.at u=>(ats xs).bind λus=>if y9 u=true/\us.all y9=true/\us.length<=lim then (idxV u us).map λ(j:Nat)=>PV.at (.int (j:Int)) else none
 |_,_=>none
instance {K:Fg}{to te:TE}{a b:M}[sa:i7 to a][sb:SemE te b]:SemE (tBM K "list" (Uk K) to (qR te xD)) (Zn a b) where
 h:=λe _ _ _ _ _ rs _ q=>by
  obtain ⟨x,ex,e⟩:=bind_some e;obtain ⟨y,ey,e⟩:=bind_some e;split at e
  ·rename_i xs u;obtain ⟨us,eu,e⟩:=bind_some e;split at e
   ·rename_i hf;obtain ⟨j,hj,rfl⟩:=yI.mp e;refine sa.h ex rs λv Hs1 H1 x1 r1=>?_;obtain ⟨p,vs,rfl,e1,r2⟩:=o4 x1.s3 r1;rw [QR eu] at r2;cases r2.ats;refine ⟨.inl ⟨rfl,_,SqL.of e1⟩,sb.h ey (rs.go x1) λw Hs2 H2 x2 r3=>?_⟩;cases rep_at.mp r3;obtain ⟨j1,j2⟩:=Yn hj;exact ⟨p,us,_,j,rfl,rfl,SqL.of (x2.s2 _ _ e1),hf.1,hf.2.1,hf.2.2,j1,j2,q _ _ _ (x1.trans x2) (rep_at.mpr rfl)⟩
   ·cases e
  ·cases e
def Qt (xs:List PV)(k:Int)(y:PV):Option (List PV):=(ixN xs.length k).map λj=>xs.set j y
theorem MN {H:Hp}{xs ys:List PV}{k:Int}{y:PV}{vs:List V}{v:V}(h:Qt xs k y=some ys)(r:Reps H xs vs)(ry:Rep H y v):∃ j,ixN vs.length k=some j/\Reps H ys (vs.set j v):=by obtain ⟨j,hj,rfl⟩:=yI.mp h;exact ⟨j,by rw [r.length];exact hj,r.set ry j⟩
end Mi
namespace L2
open PySem PySem.Spec PySem.Calls PyProof.Rows
variable{x:Str}{e:Expr}{te:TE}{pos:Pos}{es:List Expr}{t:TA}
section
variable {X:Cx}{K:Fg}
theorem b7 {N P:List Str}{sc:Scope}(h1:sc.kind = .function:=by rfl)(h2:sc.isCoroutine=false:=by rfl)(h3:sc.isGenerator=false:=by rfl)(h4:N.Nodup:=by decide +kernel)(h5:N.take P.length=P:=by rfl)(h6:∀ x∈P,sc.names.lookup x=some .local∨sc.names.lookup x=some .cell:=by decide +kernel)(h7:∀ y∈sc.names,y.2 ≠ .free:=by decide +kernel):y6 N P sc:=⟨h1,h2,h3,h4,h5,h6,h7⟩
theorem sW (i:Nat){pos':Pos}(hN:X.N.Nodup)(he:PE X e te)(hi:X.N[i]?=some x:=by rfl)(hx:Loc X.env.scope x:=by first|exact Or.inl rfl|exact Or.inr rfl)(hs:swapsWith e (some (.Name x pos')) pos.line X.env=pure false:=by rfl)(hf:X.fn x=true∨X.env.scope.names.lookup x=some .local:=by first|exact .inl rfl|exact .inr rfl):PS X (.Assign [.Name x pos'] e pos) (xl te (qC i)):=qp hN hi hx he hs hf
theorem aW (ha:PE X e te)(hs:starEach [e] X.env=(false,eval e X.env)::starEach [] X.env:=by rfl):PA X [e] (qR te xD):=z5 ha j8 hs
theorem aC (ha:PE X e te)(hr:PA X es t)(hs:starEach (e::es) X.env=(false,eval e X.env)::starEach es X.env:=by rfl):PA X (e::es) (qR te t):=z5 ha hr hs
theorem iW {a b:Expr}{ta tb:TE}(hK:X.K=K)(ha:PE X a ta)(hb:PE X b tb)(hs:VE b:=by exact λ_ _=>rfl):PE X (.Subscript a b pos) (tOp (rIx K) ta tb):=Xy (BL hK) ha hb hs
end
section
variable {X:Cx}{K:Fg}
theorem fW {ps:List Str}{sp:Sp}{k j:Nat}{p:Pos}(c:Fn X.prog X.w X.K X.mg X.base k x ps sp)(hr:Room j X.A)(ha:PA X (e::es) t)(hj:k<=j:=by decide)(hg:Gl X x:=by rfl)(hdb:(x==("__debug__":Str))=false:=by decide)(he:starEach (e::es) X.env=(false,eval e X.env)::starEach es X.env:=by rfl)(hpl:(backTo pos (starEach es X.env)).any (·.1)=false:=by rfl):PE X (.Call (.Name x p) (e::es) [] pos) (qO sp [] E0 t):=qy c hr hj hg ha hdb he hpl
theorem gW (i:Nat)(hN:X.N.Nodup)(hi:X.N[i]?=some x:=by rfl)(hx:Loc X.env.scope x:=by first|exact Or.inl rfl|exact Or.inr rfl)(hf:X.fn x=true∨X.env.scope.names.lookup x=some .local:=by first|exact .inl rfl|exact .inr rfl):PG X (.Name x pos) (qC i):=p5 hN hi hx hf
end
end L2
namespace Mi
open PySem L2
def wo:List PV->Option (List (List PV))
 |[]=>some []
 | .lst ys::xs=>(wo xs).map (ys::·)
 |_::_=>none
end Mi
namespace L2
open PySem PySem.Spec PyProof.Rows
variable{oe:Obj}{vs:Array Value}{l:List Env}{h h1:Heap}
theorem Kz (o:Obj)(f:Array Value->Array Value):(o.mapFields f).dict=o.dict:=by obtain ⟨c,d,dt,sl⟩:=o;cases dt<;>rfl
structure zJ (base h:Heap)(l:List Env)(e:Addr)(cls a0 fl:Value)(dx:Option Addr):Prop where
 st:base.StaysIn h
 new:base.get? e=none
 fun_:h.FunFrames base l
 ex:∃ oe vs T oT ts,h.get? e=some oe/\oe.cls=cls/\oe.dict=dx/\vs[0]?=some a0/\oe.data = .fields vs/\vs[1]?=some (.ref T)/\base.get? T=none/\T≠e/\h.get? T=some oT/\oT.data = .fields ts/\ts[3]?=some fl
section
variable {M:Model}{A:Around}{E:Value->Shared->Prop}{s:Shared}{base:Heap}{env:Env}{outer:List Env}{L e:Addr}{dx:Option Addr}{cls a0 fl:Value}{Q:Unit->Shared->Prop}
theorem YI {head:Value}{had:Bool}(fr:A.frames=some (env::outer))(ff:s.heap.FunFrames base (env::outer))(hf:env.frame=some L)
  (he:s.heap.get? e=some oe) (st:base.StaysIn s.heap) (ne:base.get? e=none) (hd:oe.data = .fields vs) (sz:1<vs.size) (h0:vs[0]?=some a0)
  (h:∀ h',zJ base h' (env::outer) e oe.cls a0 (rawInt L) oe.dict->s.heap.UpToSlots h'->Q () { s with heap:=h' }) :
  wpAny M A (do let a <- frameOf env;let pl <- entryPlaceOf L had;let b <- EntryCells.newEntry head a .none (rawInt L) .none pl;setField (.ref e) 1 b) Q E s:=by
 have out:e∉(env::outer).filterMap (·.frame):=λz=>by
  obtain ⟨_,o,z1,z2⟩:=ff.mem z;rw [he] at z1;cases z1;exact z2 vs hd
 refine yY (wpAny_frameOf_fun fr ff hf λh1 s1=>yY (wpAny_entryPlaceOf λpl hpl=>?_));unfold EntryCells.newEntry newFields;refine yY (wpAny_newObj_type ?_ (hpl.sizeOk5 _ _ _ _ _));have e1:h1.get? e=some oe:=(s1.2.1 e out).trans he;have k1:base.StaysIn h1:=λb o q=>(s1.2.1 b λz=>by rw [(ff.mem z).1] at q;cases q).trans (st b o q);generalize hob:({ cls:= .type "traceback",dict:=none,data:= .fields ([head,.ref L,.none,rawInt L,.none]++(if pl.isEmpty then List.replicate 6 Value.none else pl)).toArray }:Obj)=ob;have e2:=yU (h:=h1) ob e1;refine wpAny_setField e2 hd sz (h _ ?_ ?_)
 ·have nT:h1.objs.size≠e:=Nat.ne_of_gt (yQ e1);have d3:=Obj.data_mapFields hd (·.setIfInBounds 1 (Value.ref h1.objs.size));have e3:=uz (Obj.mapFields (·.setIfInBounds 1 (Value.ref h1.objs.size))) e2 (Obj.isFreed_of_fields d3);have eT:=(uW (h1.push ob) (Obj.mapFields (·.setIfInBounds 1 (Value.ref h1.objs.size))) (Ne.symm nT)).trans (yu h1 (by subst hob;rfl));have keep:∀ b o,b≠e->h1.get? b=some o->((h1.push ob).update e (Obj.mapFields (·.setIfInBounds 1 (Value.ref h1.objs.size)))).get? b=some o:=λb o nb q=>by
   rw [uW _ _ (Ne.symm nb)];exact yU _ q
  refine ⟨λb o q=>keep b o (λz=>by rw [z,ne] at q;cases q) (k1 b o q),ne,ff.of_keeps λb o q nf=>?_,?_⟩
  ·obtain ⟨sl,q1⟩:=s1.2.2 b o q;exact ⟨_,keep b _ (λz=>by rw [z,he] at q;cases q;exact nf vs hd) q1,rfl⟩
  ·refine ⟨_,_,h1.objs.size,_,_,e3,Obj.cls_mapFields _ _,Kz _ _,by rw [Array.getElem?_setIfInBounds_ne (by decide)];exact h0,d3,by simp [sz],k1.fresh,nT,eT,by subst hob;rfl,?_⟩
   first|(simp;done)|(rcases hpl with rfl|⟨_,_,_,_,_,_,_,rfl⟩<;>simp)
 ·intro b o q nf;obtain ⟨sl,q1⟩:=s1.2.2 b o q;refine ⟨sl,?_⟩;show ((h1.push ob).update e _).get? b=_;rw [uW _ _ (λz:e=b=>by rw [<- z,he] at q;cases q;exact nf vs hd)];exact yU _ q1
theorem Xs (F:zJ base s.heap l e cls a0 fl dx)(h:∀ h',zJ base h' l e cls a0 .none dx->s.heap.UpToSlots h'->Q () { s with heap:=h' }):wpAny M A (setFlight (.ref e) none) Q E s:=by
 obtain ⟨st,ne,ff,oe,vs,T,oT,ts,q1,q2,q3,q4,q5,q6,q7,q8,q9,q10,q11⟩:=F;have s3:3<ts.size:=(uP.mp q11).1;have oth:∀ b,b≠T->(s.heap.update T (Obj.mapFields (·.setIfInBounds 3 ((none:Option Addr).elim Value.none λf=>rawInt f)))).get? b=s.heap.get? b:=λb nb=>uW _ _ (Ne.symm nb);have nT:∀ b o,s.heap.get? b=some o->(∀ vs,o.data ≠ .fields vs)->b≠T:=λb o q nf z=>by
  rw [z,q9] at q;cases q;exact nf ts q10
 unfold setFlight;refine yY (wpAny_field q1 q5 q6 ?_);rw [if_pos (show (Value.ref T != Value.none)=true from by simp)];refine wpAny_setField q9 q10 s3 (h _ ⟨λb o q=>(oth b λz=>by rw [z,q7] at q;cases q).trans (st b o q),ne,ff.of_keeps λb o q nf=>⟨o,(oth b (nT b o q nf)).trans q,rfl⟩,?_⟩ λb o q nf=>⟨o.slots,(oth b (nT b o q nf)).trans q⟩);exact ⟨oe,vs,T,_,_,(oth e (Ne.symm q8)).trans q1,q2,q3,q4,q5,q6,q7,q8,uz _ q9 (Obj.isFreed_of_fields (Obj.data_mapFields q10 _)),Obj.data_mapFields q10 _,by simp [s3]⟩
theorem UpTo.trans {h2 h3:Heap}(a:h1.UpToSlots h2)(b:h2.UpToSlots h3):h1.UpToSlots h3:=Heap.UpToSlots.trans a b
theorem YJ (fr:A.frames=some (env::outer))(hf:env.frame=some L)(F:zJ base s.heap (env::outer) e cls a0 .none dx)(h:∀ h',zJ base h' (env::outer) e cls a0 (rawInt L) dx->s.heap.UpToSlots h'->Q () { s with heap:=h' }):wpAny M A (noteFrame (.ref e) env) Q E s:=by
 obtain ⟨st,ne,ff,oe,vs,T,oT,ts,q1,q2,q3,q4,q5,q6,q7,q8,q9,q10,q11⟩:=F;subst q2 q3;unfold noteFrame;simp only [hf];refine yY (wpAny_field q1 q5 q6 ?_);rw [if_pos (show (Value.ref T != Value.none)=true from by simp)];refine yY (wpAny_field q9 q10 q11 ?_);rw [if_neg (show ¬ ((Value.none==rawInt L)=true) from by simp [rawInt])];refine yY (wpAny_setField q9 q10 (uP.mp q11).1 ?_);have oth:∀ b,b≠T->(s.heap.update T (Obj.mapFields (·.setIfInBounds 3 Value.none))).get? b=s.heap.get? b:=λb nb=>uW _ _ (Ne.symm nb);have nT:∀ b o,s.heap.get? b=some o->(∀ vs,o.data ≠ .fields vs)->b≠T:=λb o q nf z=>by
  rw [z,q9] at q;cases q;exact nf ts q10
 refine YI fr (ff.of_keeps λb o q nf=>⟨o,(oth b (nT b o q nf)).trans q,rfl⟩) hf ((oth e (Ne.symm q8)).trans q1) (λb o q=>(oth b λz=>by rw [z,q7] at q;cases q).trans (st b o q)) ne q5 (uP.mp q6).1 q4 λh' F' up=>h h' F' λb o q nf=>?_;exact up b o ((oth b (nT b o q nf)).trans q) nf
theorem Pa (fr:A.frames=some (env::outer))(hf:env.frame=some L)(F:zJ base s.heap (env::outer) e cls a0 .none dx)(h:∀ h',zJ base h' outer e cls a0 .none dx->s.heap.UpToSlots h'->Q () { s with heap:=h' }):wpAny M A (leaving env (.ref e)) Q E s:=by unfold leaving;refine yY (YJ fr hf F λh1 F1 u1=>?_);refine Xs F1 λh2 F2 u2=>h h2 ⟨F2.st,F2.new,F2.fun_.2.2,F2.ex⟩ (UpTo.trans u1 u2)
theorem BY (fr:A.frames=some (env::outer))(ff:s.heap.FunFrames base (env::outer))(hf:env.frame=some L)(he:s.heap.get? e=some oe)(st:base.StaysIn s.heap)(ne:base.get? e=none)(hd:oe.data = .fields vs)(h1:vs[1]?=some .none)(h0:vs[0]?=some a0)(h:∀ h',zJ base h' outer e oe.cls a0 .none oe.dict->s.heap.UpToSlots h'->Q () { s with heap:=h' }):wpAny M A (leaving env (.ref e)) Q E s:=by unfold leaving noteFrame;simp only [hf];refine yY (yY (wpAny_field he hd h1 ?_));rw [if_neg (by decide)];refine YI fr ff hf he st ne hd (uP.mp h1).1 h0 λh1 F1 u1=>?_;refine Xs F1 λh2 F2 u2=>h h2 ⟨F2.st,F2.new,F2.fun_.2.2,F2.ex⟩ (UpTo.trans u1 u2)
end
structure Fly2 (h0 h:Heap)(H:Hp)(e:Addr)(cls:Value)(dx:Option Addr):Prop where
 ex:∃ oe vs T oT ts a0,h.get? e=some oe/\oe.cls=cls/\oe.dict=dx/\vs[0]?=some a0/\oe.data = .fields vs/\vs[1]?=some (.ref T)/\T≠e/\h.get? T=some oT/\oT.data = .fields ts/\ts[3]?=some .none/\H T=none/\h0.get? T=none
 free:H e=none
 new:h0.get? e=none
def p8 (P:Program)(w:World):CXT:=λouter H s E e s'=>∃ ea cls dx H',e = .ref ea/\s'.os=s.os/\AllBare s'.gens/\Un (b9 outer) [] H H' s.heap s'.heap/\HOk P w H' s'.heap/\Fly2 s.heap s'.heap H' ea cls dx/\E cls dx H'
theorem Fly2.weak {h0:Heap}{H:Hp}{e:Addr}{cls:Value}{dx:Option Addr}(F:Fly2 h1 h H e cls dx)(k:∀ b o,h0.get? b=some o->∃ o',h1.get? b=some o'):Fly2 h0 h H e cls dx:=by
 have d:∀ b,h1.get? b=none->h0.get? b=none:=λb n=>by
  cases z:h0.get? b with
  |none=>rfl
  |some o=>obtain ⟨o',z2⟩:=k b o z;rw [n] at z2;cases z2
 obtain ⟨⟨oe,vs,T,oT,ts,a0,e1,e2,e2',e3,e4,e5,e6,e7,e8,e9,e10,e11⟩,e12,e13⟩:=F;exact ⟨⟨oe,vs,T,oT,ts,a0,e1,e2,e2',e3,e4,e5,e6,e7,e8,e9,e10,d T e11⟩,e12,d e e13⟩
section
variable {M:Model}{A:Around}{Er:Value->Shared->Prop}{s:Shared}{h0 base:Heap}{H:Hp}{P:Program}{w:World}{env:Env}{outer:List Env}{L e:Addr}{cls:Value}{dx:Option Addr}{Q:Unit->Shared->Prop}
theorem Fly2.hid (fr:h.FunFrames base l)(F:Fly2 h0 h H e cls dx):∃ T a0,T≠e/\H T=none/\h0.get? T=none/\(∃ o,h.get? T=some o)/\zJ (PySem.W.hideAll h ([e,T]++b9 l)) h l e cls a0 .none dx:=by obtain ⟨⟨oe,vs,T,oT,ts,a0,e1,e2,e2',e3,e4,e5,e6,e7,e8,e9,e10,e11⟩,e12,e13⟩:=F;have hin:∀ x∈l,∀ b,x.frame=some b->b∈[e,T]++b9 l:=λx hx b hb=>yy _ (ZP hx hb);exact ⟨T,a0,e6,e10,e11,⟨_,e7⟩,⟨λb o q=>PySem.W.of_hideAll _ q,PySem.W.hideAll_none _ (yg _ (by simp)),PySem.W.funFrames_hide fr hin,oe,vs,T,oT,ts,e1,e2,e2',e3,e4,e5,PySem.W.hideAll_none _ (yg _ (by simp)),e6,e7,e8,e9⟩⟩
theorem UY {h':Heap}(fr:h.FunFrames base l)(up:h.UpToSlots h'):∀ b o,b∈b9 l->h.get? b=some o->∃ z,h'.get? b=some { o with slots:=z }:=λb o hb q=>up b o q (by
 obtain ⟨_,o2,z3,z4⟩:=fr.mem hb;rw [q] at z3;cases z3;exact z4)
theorem BZ (hfr:A.frames=some (env::outer))(hf:env.frame=some L)(fr:s.heap.FunFrames base (env::outer))(hok:HOk P w H s.heap)(hp:∀ b o,h0.get? b=some o->∃ o',s.heap.get? b=some o')(F:Fly2 h0 s.heap H e cls dx)(hQ:∀ h' S,(∀ b∈S,H b=none/\(h0.get? b=none))->vM (S++b9 (env::outer)) (env::outer) s.heap h'->Fly2 h0 h' H e cls dx->Q () { s with heap:=h' }):wpAny M A (leaving env (.ref e)) Q Er s:=by
 obtain ⟨T,a0,eT,e10,e11,_,fl⟩:=F.hid fr;have e12:=F.free;have e13:=F.new;refine Pa hfr hf fl λh' x up=>?_;obtain ⟨f1,f2,f3,oe',vs',T',oT',ts',g1,g2,g2',g3,g4,g5,g6,g7,g8,g9,g10⟩:=x;have sl:=UY fr up;have hS:∀ b∈[e,T],H b=none/\h0.get? b=none:=λb hb=>by
  have c:b=e∨b=T:=by simpa using hb
  rcases c with rfl|rfl
  ·exact ⟨e12,e13⟩
  ·exact ⟨e10,e11⟩
 obtain ⟨n1,n2⟩:=WW (S:=[e,T]) hok hp fr rfl sl g6 g8 g9 (hS T');exact hQ h' [e,T] hS ⟨λb o nb q=>f1 b o (PySem.W.hideAll_get _ q nb),sl⟩ ⟨⟨oe',vs',T',oT',ts',a0,g1,g2,g2',g3,g4,g5,g7,g8,g9,g10,n1,n2⟩,e12,e13⟩
theorem BX {a0:Value}(hfr:A.frames=some (env::outer))(hf:env.frame=some L)(fr:s.heap.FunFrames base (env::outer))(hok:HOk P w H s.heap)(hp:∀ b o,h0.get? b=some o->∃ o',s.heap.get? b=some o')(he:s.heap.get? e=some oe)(hd:oe.data = .fields vs)(v1:vs[1]?=some .none)(v0:vs[0]?=some a0)(e12:H e=none)(e13:h0.get? e=none)(hQ:∀ h',vM ([e]++b9 (env::outer)) (env::outer) s.heap h'->Fly2 h0 h' H e oe.cls oe.dict->Q () { s with heap:=h' }):wpAny M A (leaving env (.ref e)) Q Er s:=by have hin:∀ x∈env::outer,∀ b,x.frame=some b->b∈[e]++b9 (env::outer):=λx hx b hb=>yy _ (ZP hx hb);refine BY (base:=PySem.W.hideAll s.heap ([e]++b9 (env::outer))) hfr (PySem.W.funFrames_hide fr hin) hf he (λb o q=>PySem.W.of_hideAll _ q) (PySem.W.hideAll_none _ (yg _ (by simp))) hd v1 v0 λh' x up=>?_;obtain ⟨f1,f2,f3,oe',vs',T',oT',ts',g1,g2,g2',g3,g4,g5,g6,g7,g8,g9,g10⟩:=x;have sl:=UY fr up;obtain ⟨n1,n2⟩:=WW (S:=[e]) hok hp fr rfl sl g6 g8 g9 (λz=>by rw [yO.mp z];exact ⟨e12,e13⟩);exact hQ h' ⟨λb o nb q=>f1 b o (PySem.W.hideAll_get _ q nb),sl⟩ ⟨⟨oe',vs',T',oT',ts',_,g1,g2,g2',g3,g4,g5,g7,g8,g9,g10,n1,n2⟩,e12,e13⟩
end
def XZ (X:Cx)(E:XK):Prop:=∀(pins:List (Addr×Obj))(σ:St)(H:Hp)(s:Shared)(ea C:Addr)(oe:Obj)(vs:Array Value)(a0:Value),Inv X pins σ H s->s.heap.get? ea=some oe->oe.cls = .ref C->oe.data = .fields vs->vs[1]?=some .none->vs[0]?=some a0->H ea=none->X.s₀.heap.get? ea=none->E (.ref C) oe.dict H->X.xe (.ref ea) s
section
variable {P:Program}{w:World}{K:Fg}{mg:Str->Option Value}{base:Heap}{N:List Str}{qual:Str}{scope:Scope}{f:Addr}{cd:Value}{A:Around}{outer:List Env}{s:Shared}{H:Hp}{E:XK}
theorem jR:XZ (qc (p8 P w) P w K mg base N qual scope f cd A outer s H E) E:=by
 intro pins σ H1 s1 ea C oe vs a0 I he hc hd v1 v0 n1 n0 q;refine BX (h0:=s.heap) (H:=H1) (P:=P) (w:=w) (base:=base) (L:=s.heap.objs.size) I.ok.frames rfl I.stack I.hok (λb o e=>I.base.there b o e (λz=>nomatch z)) he hd v1 v0 n1 n0 λh2 k F=>?_;refine ⟨ea,_,_,H1,rfl,I.os,I.bare,Un.off (S:=[ea]++b9 (envOfC qual scope s.heap.objs.size f cd::outer)) I.base k.keep (λb hb=>?_) (λb o hb e=>k.slot b o (ya.mpr ?_) e),I.hok.off k.keep (λb hb=>?_),F,by rw [hc];exact q⟩
 ·rcases yB.mp hb with z|z
  ·rw [yO.mp z];exact .inr n0
  ·rcases yJ.mp (I.stkSub b z) with z|z
   ·refine .inr ?_;rw [z];exact yh (yS _)
   ·exact .inl z
 ·obtain ⟨x,hx,hf⟩:=ya.mp hb;exact ⟨x,yT _ hx,hf⟩
 ·rcases yB.mp hb with z|z
  ·rw [yO.mp z];exact n1
  ·exact I.stkFree b z
theorem jg:zg (p8 P w) (qc (p8 P w) P w K mg base N qual scope f cd A outer s H E) E:=by
 intro pins σ H1 s1 e s' I h;obtain ⟨ea,cls,dx,H',rfl,os,bare,un,hok,F,q⟩:=h;have I':=I.call' (ch:=[]) os un hok bare (λb z=>nomatch z);have there:∀ b o,s.heap.get? b=some o->∃ o',s1.heap.get? b=some o':=λb o e=>I.base.there b o e (λz=>nomatch z);refine BZ (h0:=s.heap) (H:=H') (P:=P) (w:=w) (base:=base) (L:=s.heap.objs.size) I'.ok.frames rfl I'.stack hok (λb o e=>I'.base.there b o e (λz=>nomatch z)) (F.weak there) λh2 S hS k F2=>?_;refine ⟨ea,cls,dx,H',rfl,I'.os,I'.bare,Un.off (S:=S++b9 (envOfC qual scope s.heap.objs.size f cd::outer)) I'.base k.keep (λb hb=>?_) (λb o hb e=>k.slot b o (ya.mpr ?_) e),hok.off k.keep (λb hb=>?_),F2,q⟩
 ·rcases yB.mp hb with z|z
  ·exact .inr (hS b z).2
  ·rcases yJ.mp (I'.stkSub b z) with z|z
   ·refine .inr ?_;rw [z];exact yh (yS _)
   ·exact .inl z
 ·obtain ⟨x,hx,hf⟩:=ya.mp hb;exact ⟨x,yT _ hx,hf⟩
 ·rcases yB.mp hb with z|z
  ·exact (hS b z).1
  ·exact I'.stkFree b z
theorem ZY {X:Cx}:zg (p8 P w) X E0:=λ_ _ _ _ _ _ _ h=>by
 obtain ⟨_,_,_,_,_,_,_,_,_,_,q⟩:=h;exact q.elim
theorem Fun.ok2 {x qual:Str}{st:Stmt}{f:Addr}{fd:FuncData}{N ps:List Str}{k:Nat}{sp:Sp}(F:Fun K x qual st f fd)(S:y6 N ps (j6 st))(len:∀ vs H Q E,sp vs H Q E->vs.length=ps.length)(hbody:∀(cdv:Value)(A:Around)(outer:List Env)(s:Shared)(H:Hp)(vs:List V)(Q:VK)(E:XK),Room k (A.deeper (envOfC qual (j6 st) s.heap.objs.size f cdv))->sp vs H Q E -> ∃ t,PSs (qc (p8 P w) P w K mg base N qual (j6 st) f cdv A outer s H E) (c7 st) t/\t { nx:=λ_ H'=>Q .non H',rt:=Q } (start N vs) H):FnOk P w K mg base (p8 P w) (k+1) f fd ps sp:=by obtain ⟨oc,od,kV,doc,pm,an,cdv,ct,osl,rfl,lk,hcd⟩:=F.ex;exact Xe lk hcd S len λA outer s H vs Q E hr hsp=>hbody cdv A outer s H vs Q E hr hsp
end
structure Fy (P:Program)(w:World)(K:Fg)(mg:Str->Option Value)(base:Heap)(k:Nat)(x:Str)(ps:List Str)(sp:Sp):Prop where
 ex:∃ f fd,FnOk P w K mg base (p8 P w) k f fd ps sp/\mg x=some (.ref f)/\PySem.W.keepIn K (.ref f)=true/\Binds K fd ps []
section
variable {X:Cx}{k j:Nat}{x:Str}{ps:List Str}{sp:Sp}{e:Expr}{es:List Expr}{t:TA}{p pos:Pos}{E:XK}{σ:St}
theorem vz (c:Fy X.prog X.w X.K X.mg X.base k x ps sp)(hr:Room j X.A)(hj:k<=j)(hx:zg (p8 X.prog X.w) X E)(hg:Gl X x)(ha:PA X (e::es) t)(hdb:(x==("__debug__":Str))=false:=by decide)(he:starEach (e::es) X.env=(false,eval e X.env)::starEach es X.env:=by rfl)(hpl:(backTo pos (starEach es X.env)).any (·.1)=false:=by rfl):PE X (.Call (.Name x p) (e::es) [] pos) (qO sp [] E t):=by obtain ⟨f,fd,F,hm,hk,hb⟩:=c.ex;exact YW F (hr.mono hj) hg hm hk hb .nil hx ha hdb he hpl
end
end L2
namespace L2
open PySem PySem.Spec PyProof.Rows PySem.W Builtin Builtin.ObjectAttr
variable{mN:Str->Option Value}{rest:List Value}{fI:Addr}{oI:Obj}
section
variable {prog:Program}{w:World}{A:Around}{E:Value->Shared->Prop}{s:Shared}{K:Frag}{e C R:Addr}{oe:Obj}{cd:ClassData}{name:Str}{v:Value}{vs:Array Value}{Q:Unit->Shared->Prop}
theorem xset (X:K.In s.heap)(he:s.heap.get? e=some oe)(hc:oe.cls = .ref C)(hdn:oe.dict=none)(hdf:oe.data = .fields vs)(hcd:clsIn K C=some cd)(hmro:cd.mro = .ref C:: .ref R::veMro)(hhd:cd.hasDict=true)(hs:findIn K (.ref C) "__setattr__"=some (some (.builtin "object.__setattr__")))(hn:findIn K (.ref C) name=some none)(h:∀ h' dx tk,h'.get? e=some { oe with dict:=some dx }->h'.Ns1 dx (λy=>if y=name then some v else none)->s.heap.objs.size<=dx->(∀ b o,b≠e->s.heap.get? b=some o->h'.get? b=some o)->Q () { s with heap:=h',toks:=tk }):wpAny (model prog w) A (setAttr (.ref e) name v) Q E s:=by
 have I:InstAt s.heap e oe C none:=⟨he,hc,by unfold notCls;rw [hdf],by rw [hdn];trivial⟩;refine set_plain X I hs ?_;obtain ⟨hp,gs,dr,tk,os⟩:=s;show codeAny _ _ _ _ (⟨hp,gs,dr,tk+1,os⟩:Shared)
 change K.In hp at X
 change hp.get? e=some oe at he
 change InstAt hp e oe C none at I
 have SF:=PySem.F.store_object;have sub:Looks (model prog w) hp (isInstance (.ref e) (.type "object")) true:=I.type.andThen (looks_mroIn X (by unfold mroIn;rw [hcd,yM,hmro];rfl));refine codeAny_call_builtin SF.slot.plain SF.entry (@check_slot (model prog w) _ _ _ "object.__setattr__" "object" "__setattr__" (.ref e) [.str name tk,v] [] _ SF.kind SF.split sub (SF.args (.ref e) (.str name tk) v) ?_);have hm:Looks (model prog w) hp (mroOf (.ref C)) cd.mro:=(looks_clsIn X hcd).andThen .now;rw [osa_eq,refuse_eq];refine yY (yY (I.type.here (yY (hm.here ?_))));rw [hmro,refuseLoop_ref,refuseLoop_ref,show veMro=[.type "ValueError",.type "Exception",.type "BaseException",.type "object"] from rfl,PySem.F.store_ValueError.passes];refine yP (yY (I.type.here (yY ((looks_findIn X hn).here (yY (yP ?_))))));show wpAny _ _ (storeInOwnDict (.ref e) (.ref C) (.str name tk) name v false) _ _ _;unfold storeInOwnDict ownDictForStores instanceDict;have he':(⟨hp,gs,dr,tk+1,os⟩:Shared).heap.get? e=some oe:=he;refine yY (yP (yY (yY (wpAny_loadPart he' ?_))));obtain ⟨ocl,odi,oda,osl⟩:=oe
 dsimp only at hc hdn hdf
 subst hc hdn hdf;refine yY ((looks_clsIn X hcd).here ?_);rw [hhd];have hx1:(hp.push { cls:= .type "dict",data:= .dict #[] }).get? e=some ⟨.ref C,none,.fields vs,osl⟩:=yU _ he;have hxs:e≠hp.objs.size:=yH (yQ he);refine yY (wpAny_alloc' (yY (wpAny_update' hx1 (yP ?_))));have hg:((hp.push { cls:= .type "dict",data:= .dict #[] }).update e λo=>{ cls:=o.cls,dict:=some hp.objs.size,data:=o.data,slots:=o.slots }).get? hp.objs.size=some { cls:= .type "dict",data:= .dict #[] }:=(Heap.get?_update_ne _ _ _ _ hxs.symm).trans (Heap.get?_push_at rfl rfl);show wpAny _ _ (storeInDict hp.objs.size (.str name tk) name v) _ _ _;unfold storeInDict newKeyGuard;have hnd:((hp.push { cls:= .type "dict",data:= .dict #[] }).update e λo=>{ cls:=o.cls,dict:=some hp.objs.size,data:=o.data,slots:=o.slots }).Ns hp.objs.size (λ_=>none):=⟨_,#[],_,hg,rfl,λe he=>absurd he (by simp),λ_=>rfl⟩;refine yY (yP (yY (wpAny_nsSet1 (Heap.Ns1.of_empty hnd) λh' hn' hs'=>?_)));obtain ⟨oD,esD,epD,hoD,hdD,hcD⟩:=hn'.count (Within.cons name v Within.nil);refine yY (wpAny_lookBehind hoD (by rw [hdD];exact pastItsLine_dict (yd hcD (by rw [yz,List.length_nil,sizeLine_eq];omega))) ?_);refine yP (h h' hp.objs.size _ ?_ hn' (yS _) λb o nb q=>?_)
 ·refine (hs'.2 e hxs).trans (uz _ hx1 rfl)
 ·exact (hs'.2 b (yH (yQ q))).trans ((Heap.get?_update_ne _ _ _ _ nb).trans (yU _ q))
end
section
variable {prog:Program}{w:World}{A:Around}{E:Value->Shared->Prop}{h:Heap}{g:Array GenState}{d:Drawn}{t:Nat}{os:OsState}
variable {nm q:Str}{C N:Addr}{bs bm bmB:List Value}{hdct:Bool}{sn:List Str}{sub:List Value}{ab:Bool}{col:Option Bool}{dd:Option Addr}{k0 k1 k2 k3 k5:Option Value}{B Bn newId nid initId inN:String}{bmN:List Value}
theorem Lc (Fn:ExcBaseFacts Bn newId inN bmN)(hBn:bmB.contains (.type Bn)=true)(F:ExcBaseFacts B nid initId bmB)(T:OwnTail h bmB bm){Q:PySem.Fin->Shared->Prop}(hC:h.get? C=some (excClassObj nm q C N bs bm hdct sn sub ab col dd k0 k1 k2 k3 k5 newId))(hn:h.Ns N mN)(hi:mN "__init__"=some (.ref fI))(hfI:h.get? fI=some oI)(hfc:oI.cls = .type "function")(hq:∀ h' e,Heap.MadeExcOf h h' e (.ref C) rest->h.objs.size<=e->wpAny (model prog w) A (call (.ref fI) (.ref e::rest)) (λr s'=>r = .none/\Q (.done (.ret (.ref e))) s') E ⟨h',g,d,t,os⟩)(hrest:rest.length<=sizeLine):wpAny (model prog w) A (Builtin.«type.__call__» ⟨.ref C::rest,[]⟩) Q E ⟨h,g,d,t,os⟩:=by
 repeat (first|with_reducible refine wpAny_loadPart_at hC ?_|with_reducible refine wpAny_madeBy_exc hC ?_|wp_step)
 refine codeAny_call_builtin_code (Code.quiet_builtin _ Fn.quiet) (wpAny_check_new_subU Fn hBn T hC (codeAny_exc_new_subU Fn hBn F T hC ?_ hrest));show wpAny _ _ _ _ _ _;have up:∀ b o,h.get? b=some o->((h.push { cls:= .type "tuple",data:= .seq rest.toArray }).push { cls:= .ref C,data:= .fields #[.ref h.objs.size,.none,.none,.none,.bool false,.none] }).get? b=some o:=λb o z=>yU _ (yU _ z);have ge:((h.push { cls:= .type "tuple",data:= .seq rest.toArray }).push { cls:= .ref C,data:= .fields #[.ref h.objs.size,.none,.none,.none,.bool false,.none] }).get? (h.objs.size+1)=some { cls:= .ref C,data:= .fields #[.ref h.objs.size,.none,.none,.none,.bool false,.none] }:=by heap_get
 have n1:((h.push { cls:= .type "tuple",data:= .seq rest.toArray }).push { cls:= .ref C,data:= .fields #[.ref h.objs.size,.none,.none,.none,.bool false,.none] }).Ns N mN:=let ⟨o,es,ep,z,r⟩:=hn;⟨o,es,ep,up _ _ z,r⟩
 have hcC:(Value.ref C::bm).contains (.ref C)=true:=by simp
 have T1:=T.keeps up;unfold isInstance
 repeat (first|with_reducible refine wpAny_loadPart_at ge ?_|(with_reducible refine wpAny_isSubtype_exc (up _ _ hC) ?_;rw [hcC])|wp_step)
 show wpAny _ _ (typeLookup (.ref C) _) _ _ _;refine wpAny_typeLookup_tail (up _ _ hC) n1 T1 F.mroIs F.init.lookup ?_;rw [hi];refine wpAny_holding (yY ?_);unfold bindSpecial;refine yY (wpAny_typeOf (T:="function") ⟨_,up _ _ hfI,hfc⟩ ?_);rw [if_pos (by decide)];refine yP (yY (wpAny_mono (hq _ (h.objs.size+1) ⟨up,yh (uB _),h.objs.size,ge,yh (yS _),yU _ (Heap.get?_push_at rfl rfl)⟩ (uB _)) (λr s' hr=>?_) λ_ _ x=>x));obtain ⟨rfl,hQ⟩:=hr
 wp_walk
 exact hQ
theorem Kd (Fn:ExcBaseFacts Bn newId inN bmN)(hBn:bmB.contains (.type Bn)=true)(F:ExcBaseFacts B nid initId bmB)(T:OwnTail h bmB bm){Q:Value->Shared->Prop}(hC:h.get? C=some (excClassObj nm q C N bs bm hdct sn sub ab col dd k0 k1 k2 k3 k5 newId))(hn:h.Ns N mN)(hi:mN "__init__"=some (.ref fI))(hfI:h.get? fI=some oI)(hfc:oI.cls = .type "function")(hq:∀ h' e,Heap.MadeExcOf h h' e (.ref C) rest->h.objs.size<=e->wpAny (model prog w) (A.under (.builtin "type.__call__" ⟨.ref C::rest,[]⟩)) (call (.ref fI) (.ref e::rest)) (λr s'=>r = .none/\Q (.ref e) s') E ⟨h',g,d,t,os⟩)(hrest:rest.length<=sizeLine):wpAny (model prog w) A (call (.ref C) rest) Q E ⟨h,g,d,t,os⟩:=by
 have f1:=tc_lookup;have f2:=tc_bind (.ref C);have hT:(⟨h,g,d,t,os⟩:Shared).TypeIs (.ref C) "type":=⟨_,hC,rfl⟩;refine wpAny_call (codeAny_of_tree ?_);show wpAny _ _ (callAny (.ref C) _) _ _ _
 repeat (any_goals (first|assumption|with_reducible refine wpAny_loadPart_at hC ?_|wp_step))
 refine ⟨rfl,codeAny_call_builtin_at (Code.quiet_builtin _ (by decide +kernel)) entry_typeCall (wpAny_check_type_call_sub hC (Lc Fn hBn F T hC hn hi hfI hfc (λh' e hm hz=>?_) hrest))⟩;exact hq h' e hm hz
end
end L2
namespace L2
open PySem PySem.Spec PyProof.Rows PySem.W
variable{K:Frag}{h:Heap}{C dx e:Addr}{P:Program}{w:World}{H:Hp}{pins:List (Addr×Obj)}{σ:St}{s:Shared}
def zH (K:Frag)(C R fI:Addr):Bool:=match K.lookup C with
 |some ⟨.type "type",_,.cls cd,sl⟩=>(match cd.mro,sl.toList with
  | .ref C':: .ref R'::bm,[_,_,_,_,some (.builtin n),_]=>C'==C&&R'==R&&bm==veMro&&n == "ValueError.__new__" && !cd.hasDel&&cd.hasDict&&tailIn K veMro (.ref R::veMro)&&nsOkIn K cd.ns&&nsIn K cd.ns "__init__" == some (some (.ref fI))
  |_,_=>false)
 |_=>false
theorem Pz {N:Addr}{mg:Str->Option Value}{n:Str}{v:Value}(X:K.In h)(G:h.Ns N mg)(e:nsIn K N n=some (some v)):mg n=some v:=by
 obtain ⟨o,es,ep,ho,hd,_,hf⟩:=G;unfold nsIn at e;split at e
 next a b es' c lk =>
  have:=X _ _ lk;rw [ho] at this;cases this;cases hd;split at e
  ·rename_i en he;cases e;rw [<- hf];unfold nsFind findBy;rw [<- Array.find?_toList,he];rfl
  ·split at e<;>cases e
 next=>cases e
structure XCls (h:Heap)(K:Frag)(C R fI:Addr):Prop where
 ob:∃ nm q N bs sn sub ab col dd k0 k1 k2 k3 k5 mN,h.get? C=some (excClassObj nm q C N bs (.ref R::veMro) true sn sub ab col dd k0 k1 k2 k3 k5 "ValueError.__new__")/\h.Ns N mN/\mN "__init__"=some (.ref fI)
 tl:OwnTail h veMro (.ref R::veMro)
 cl:∃ cd,clsIn K C=some cd/\cd.mro = .ref C:: .ref R::veMro/\cd.hasDict=true
theorem Vx {R fI:Addr}(X:K.In h)(q:zH K C R fI=true):XCls h K C R fI:=by
 unfold zH at q;split at q
 next dA cA sA lk =>
  split at q
  next D R' bm s0 s1 s2 s3 nw s5 em es =>
   simp only [yt,beq_iff_eq,Bool.not_eq_true'] at q;obtain ⟨⟨⟨⟨⟨⟨⟨⟨q1,q2⟩,q3⟩,q4⟩,q5⟩,q6⟩,q7⟩,q8⟩,q9⟩:=q;subst q1 q2 q3 q4;have cl:clsIn K D=some cA:=by unfold clsIn;rw [lk]
   refine ⟨?_,tail_of_in X q7,cA,cl,em,q6⟩;cases cA with
   |mk f1 f2 f3 f4 f5 f6 f7 f8 f9 f10 f11 =>
    have em':f3 = .ref D:: .ref R'::veMro:=em;have q5':f11=false:=q5;have q6':f6=true:=q6;have es':sA=#[s0,s1,s2,s3,some (.builtin "ValueError.__new__"),s5]:=by
     cases sA with
     |mk l=>exact congrArg Array.mk es
    subst em' q5' q6' es';have G:=Heap.Ns.of_isNs (isNs_of_in X (show nsOkIn K f4=true from q8));exact ⟨f1,f5,f4,f2,f7,f8,f9,f10,dA,s0,s1,s2,s3,s5,_,X _ _ lk,G,Pz X G q9⟩
  next=>cases q
 next=>cases q
def XB (C e:Addr):Heap->Prop:=λh=>∃ t,h.get? e=some { cls:= .ref C,data:= .fields #[.ref t,.none,.none,.none,.bool false,.none] }
def XD (C e dx:Addr):Heap->Prop:=λh=>∃ t,h.get? e=some { cls:= .ref C,dict:=some dx,data:= .fields #[.ref t,.none,.none,.none,.bool false,.none] }
theorem xb_ok (x:XB C e h):ObjOk P w H h e (.ext (XB C e)):=⟨x,let ⟨_,q⟩:=x;⟨_,q⟩,λ_ _ ⟨t,q⟩ k=>⟨t,k _ q⟩⟩
theorem xd_ok (x:XD C e dx h):ObjOk P w H h e (.ext (XD C e dx)):=⟨x,let ⟨_,q⟩:=x;⟨_,q⟩,λ_ _ ⟨t,q⟩ k=>⟨t,k _ q⟩⟩
theorem Lp {a b c:HO}(n:dx≠e):z6 (z6 (z6 H e a) dx b) e c=z6 (z6 H dx b) e c:=by
 funext y
 by_cases h1:y=e
 ·subst h1;rw [v3,v3]
 ·rw [z7 h1,z7 h1];by_cases h2:y=dx
  ·subst h2;rw [v3,v3]
  ·rw [z7 h2,z7 h2,z7 h1]
def wH (C:Addr)(f:Str):Sp:=λvs H Q _=>∃ e v,vs=[.ref e,v]/\H e=some (.ext (XB C e))/\∀ dx,H dx=none->dx≠e->Q .non (z6 (z6 H dx (.xd [(f,v)])) e (.ext (XD C e dx)))
def sFldX (C:Addr)(f:Str)(ta tv:TE):TS:=λD σ H=>tv σ H λy H1=>ta σ H1 λx H2=>∃ e,x = .ref e/\H2 e=some (.ext (XB C e))/\∀ dx,H2 dx=none->dx≠e->D.nx σ (z6 (z6 H2 dx (.xd [(f,y)])) e (.ext (XD C e dx)))
section
variable {X:Cx}{o value:Expr}{f:Str}{pos pos':Pos}{ta tv:TE}{C R fI:Addr}
theorem Dx (q:zH X.K C R fI=true)(hs:findIn X.K (.ref C) "__setattr__"=some (some (.builtin "object.__setattr__")))(hn:findIn X.K (.ref C) f=some none)(ha:PE X o ta)(hv:PE X value tv)(hw:swapsWith value (some (.Attribute o f pos')) pos.line X.env=pure false):PS X (.Assign [.Attribute o f pos'] value pos) (sFldX C f ta tv):=by
 intro pins s σ H D I h;refine plainObj_wpAny_Assign_Attribute (j5 (hv pins s σ H _ I h) λu s1 ⟨y,H1,I1,ry,q1⟩=>j5 (ha pins s1 σ H1 _ I1 q1) λov s2 zq=>?_) hw;obtain ⟨x,H2,I2,rx,e,ex,ee,q2⟩:=zq;subst ex;obtain rfl:ov=Value.ref e:=rx;obtain ⟨⟨t,he⟩,_,_⟩:=(show ObjOk X.prog X.w H2 s2.heap e (.ext (XB C e)) from I2.hok e _ ee);obtain ⟨cd,c1,c2,c3⟩:=(Vx I2.kIn q).cl;refine xset I2.kIn he rfl rfl rfl c1 c2 c3 hs hn λh' dx tk g1 g2 g3 g4=>?_;have nd:dx≠e:=λz=>by rw [z] at g3;exact uU _ (yE (yQ he) g3)
 have fd:H2 dx=none:=I2.hok.fresh g3;refine ⟨σ,_,?_,q2 dx fd nd⟩;have oth:∀{b:Addr}{u:HO},b≠e->b≠dx->(z6 (z6 H2 dx (.xd [(f,y)])) e (.ext (XD C e dx)) b=some u↔H2 b=some u):=λ{b u} h1 h2=>by rw [z7 h1,z7 h2]
 have old:∀{b:Addr}{u:HO},H2 b=some u->b≠dx:=λ{b u} z1 z2=>by rw [z2,fd] at z1;cases z1
 refine I2.un ⟨λb u z n _ _=>g4 b u (λy=>by rw [y,ee] at n;cases n) z,λb u z n _ _=>⟨u.slots,g4 b u (λy=>by rw [y,ee] at n;cases n) z⟩,λb u z n _=>?_,λb u z _=>?_,λb xs z=>(oth (λy=>by rw [y,ee] at z;cases z) (old z)).mpr z,λb o u z=>(oth (λy=>by rw [y,ee] at z;cases z) (old z)).mpr z,λb ps q z=>(oth (λy=>by rw [y,ee] at z;cases z) (old z)).mpr z⟩ λb u z=>?_
 ·rw [z7 (λy=>by rw [y,ee] at n;cases n),z7 (λy=>by rw [y] at z;exact uU _ (yE (yQ z) g3))];exact n
 ·by_cases hb:b=e
  ·rw [hb];exact ⟨_,g1⟩
  ·exact ⟨_,g4 b u hb z⟩
 ·by_cases hb:b=e
  ·subst hb;rw [v3] at z;cases z;exact xd_ok ⟨t,g1⟩
  ·by_cases hd:b=dx
   ·subst hd;rw [z7 hb,v3] at z;cases z;refine ⟨_,g2,λg=>?_⟩;by_cases hg:g=f
    ·subst hg;rw [if_pos rfl];show RelO (List.lookup g [(g,y)]) _;rw [yc,beq_self_eq_true];exact ry
    ·rw [if_neg hg];show RelO (List.lookup g [(f,y)]) _;rw [yc,show (g==f)=false from beq_eq_false_iff_ne.mpr hg];exact True.intro
   ·rw [oth hb hd] at z;refine (I2.hok b u z).stay (λc v hc e1=>g4 c v (λy=>?_) e1) (λc e1=>(oth (λy=>by rw [y,ee] at e1;cases e1) (old e1)).mpr e1) (λc xs e1=>(oth (λy=>by rw [y,ee] at e1;cases e1) (old e1)).mpr e1) λc o u e1=>(oth (λy=>by rw [y,ee] at e1;cases e1) (old e1)).mpr e1;rcases hc with hc|hc
    ·exact hb (hc.symm.trans y)
    ·rw [y,ee] at hc;cases hc
structure XMk (P:Program)(w:World)(K:Frag)(mg:Str->Option Value)(base:Heap)(k:Nat)(x:Str)(C:Addr)(f:Str):Prop where
 ex:∃ R fI fd ps,zH K C R fI=true/\isFn K (.ref fI)=true/\keepIn K (.ref C)=true/\mg x=some (.ref C)/\FnOk P w K mg base v8 k fI fd ps (wH C f)/\Binds K fd ps []
theorem Mc {W:Value->Shared->Prop}{k:Nat}{fd:FuncData}{ps:List Str}{u:Value}{v:V}(q:zH X.K C R fI=true)(hf:isFn X.K (.ref fI)=true)(F:FnOk X.prog X.w X.K X.mg X.base v8 k fI fd ps (wH C f))(hr:Room (k+1) X.A)(hb:Binds X.K fd ps [])(I:Inv X pins σ H s)(r:RelV v u)(h:∀ e dx s',s.heap.objs.size<=e->H e=none->H dx=none->dx≠e->Inv X pins σ (z6 (z6 H dx (.xd [(f,v)])) e (.ext (XD C e dx))) s'->W (.ref e) s'):wpAny (model X.prog X.w) X.A (call (.ref C) [u]) W X.xe s:=by
 obtain ⟨⟨nm,qn,N,bs,sn,sub,ab,col,dd,k0,k1,k2,k3,k5,mN,hC,hN,hi⟩,tl,_⟩:=Vx I.kIn q;have hfn:∃ oI,s.heap.get? fI=some oI/\oI.cls = .type "function":=by have z:typeIn X.K (.ref fI)=some (.type "function"):=beq_iff_eq.mp hf;unfold typeIn at z;obtain ⟨oI,z1,z2⟩:=yI.mp z;exact ⟨oI,I.kIn _ _ z1,z2⟩
 obtain ⟨oI,hI,hIc⟩:=hfn;obtain ⟨hp,gs,dr,tk,os⟩:=s;refine Kd PySem.F.excBase_ValueError (by decide) PySem.F.excBase_ValueError tl hC hN hi hI hIc (λh' e mk ge=>?_) (by show 1<=sizeLine;rw [sizeLine_eq];decide);obtain ⟨t,m1,m2,m3⟩:=mk.there;have ne:H e=none:=I.hok.fresh ge;have I2:Inv X pins σ (z6 H e (.ext (XB C e))) ⟨h',gs,dr,tk,os⟩:=I.laid (s:=⟨hp,gs,dr,tk,os⟩) (t':=tk) mk.keeps ge (xb_ok ⟨t,m1⟩);have r2:Vals [V.ref e,v] [Value.ref e,u]:= .cons rfl (.cons r .nil);have hq:wH C f [V.ref e,v] (z6 H e (.ext (XB C e))) (λx H2=>x = .non/\∃ dx,H dx=none/\dx≠e/\H2=z6 (z6 H dx (.xd [(f,v)])) e (.ext (XD C e dx))) E0:=⟨e,v,rfl,v3,λdx n1 n2=>⟨rfl,dx,by rwa [z7 n2] at n1,n2,Lp n2⟩⟩;have hl:([Value.ref e,u]++[]).length=ps.length:=by rw [<- F.len _ _ _ _ hq];rfl
 refine wpAny_call (codeAny_mono (F.run _ X.stack _ _ ⟨[Value.ref e,u],[]⟩ ([Value.ref e,u]++[]) [V.ref e,v] _ E0 (hr.make C [u] []) (I2.env0.make C [u] []) (hb _ [Value.ref e,u] I2.kIn hl) (by rw [yC];exact r2) hq) λr s' hq'=>?_);cases r with
 |error e=>exact hq'.elim
 |ok fl =>
  cases fl with
  |ret u=>obtain ⟨v,H',I3,rv,ev,dx,n1,n2,rfl⟩:=I2.after hq';subst ev;exact ⟨rv,h e dx _ ge ne n1 n2 I3⟩
  |next=>exact False.elim hq'
  |brk=>exact False.elim hq'
  |cont=>exact False.elim hq'
theorem Inv.forget {φ:Heap->Prop}(I:Inv X pins σ H s)(h:H e=some (.ext φ))(n0:X.s₀.heap.get? e=none):Inv X pins σ (λb=>if b=e then none else H b) s:=by
 have g:∀{b:Addr}{u:HO},b≠e->((if b=e then none else H b)=some u↔H b=some u):=λ{b u} nb=>by rw [if_neg nb]
 have f:∀{b:Addr},H b=none->(if b=e then none else H b)=none:=λ{b} z=>by split;rfl;exact z
 have tup:∀{b:Addr}{xs:List V},H b=some (.tup xs)->(if b=e then none else H b)=some (.tup xs):=λ{b xs} z=>(g (λy=>by rw [y,h] at z;cases z)).mpr z;have frz:∀{b:Addr}{o:Obj}{u:HO},H b=some (.frz o u)->(if b=e then none else H b)=some (.frz o u):=λ{b o u} z=>(g (λy=>by rw [y,h] at z;cases z)).mpr z;refine ⟨I.ok,I.os,I.bare,⟨I.base.keep,I.base.slot,λb o z n hx=>f (I.base.free b o z n hx),I.base.there,λb xs z=>tup (I.base.tups b xs z),λb o u z=>frz (I.base.frzs b o u z),λb ps q z=>(g (λy=>by have:=I.base.tbls b ps q z;rw [y,h] at this;cases this)).mpr (I.base.tbls b ps q z)⟩,I.loc,I.cell,f I.free,λx c z=>f (I.freeC x c z),λp hp=>let ⟨a,b,c⟩:=I.pin p hp;⟨a,f b,c⟩,λb u z=>?_,I.len⟩;by_cases hb:b=e
 ·rw [if_pos hb] at z;cases z
 ·exact (I.hok b u ((g hb).mp z)).stay (λ_ _ _ z=>z) (λc z=>(g (λy=>by rw [y,h] at z;cases z)).mpr z) (λc xs z=>tup z) λc o u z=>frz z
def Vl (C:Addr)(f:Str)(E:XK)(t:TA):TS:=λ_ σ H=>t σ H λvs H1=>∃ v,vs=[v]/\∀ dx,H1 dx=none->E (.ref C) (some dx) (z6 H1 dx (.xd [(f,v)]))
theorem Dy {E:XK}{k j:Nat}{x:Str}{np cpos pos:Pos}{e:Expr}{t:TA}(hc:X.calm=true)(hex:X.ex=[])(c:XMk X.prog X.w X.K X.mg X.base k x C f)(hr:Room j X.A)(hj:k+1<=j)(hg:Gl X x)(ha:PA X [e] t)(ht:XZ X E)(hdb:(x==("__debug__":Str))=false:=by decide)(he:starEach [e] X.env=(false,eval e X.env)::starEach [] X.env:=by rfl)(hpl:(backTo cpos (starEach [] X.env)).any (·.1)=false:=by rfl):PS X (.Raise (some (.Call (.Name x np) [e] [] cpos)) none pos) (Vl C f E t):=by
 obtain ⟨R,fI,fd,ps,q,hf,hk,hm,F,hb⟩:=c.ex;intro pins s σ H D I h;rw [arm_exec_Raise];refine yY (wpAny_standAt ?_);unfold raiseStmt;refine yY (yY (wpAny_Call_Name_kw (vj I hg hm ?_ hdb)));refine callWith_K (h₀:=X.base) I.ok.mod.kin hk (j5 (ha cpos pins s σ H _ I h) λus s1 ⟨vs,H1,I1,r,v,ev,q1⟩=>⟨I1.kIn,?_⟩) he hpl;subst ev;obtain ⟨u,rfl,ru⟩:=jw r;refine Mc q hf F (hr.mono hj) hb I1 ru λea dx s' ge n1 n2 n3 I2=>?_;refine yY (wpAny_standAt (yP ?_));have n0:X.s₀.heap.get? ea=none:=by
  cases z:X.s₀.heap.get? ea with
  |none=>rfl
  |some o=>obtain ⟨o',z2⟩:=I1.base.there ea o z (by rw [hex];exact λz=>nomatch z);rw [yh ge] at z2;cases z2
 have I3:=Inv.forget I2 v3 n0;obtain ⟨⟨tt,hE⟩,_,_⟩:=(show ObjOk X.prog X.w _ s'.heap ea (.ext (XD C ea dx)) from I2.hok ea _ v3);have eH:(λb=>if b=ea then none else z6 (z6 H1 dx (.xd [(f,v)])) ea (.ext (XD C ea dx)) b)=z6 H1 dx (.xd [(f,v)]):=by
  funext b
  by_cases hb:b=ea
  ·rw [if_pos hb,hb,z7 (Ne.symm n3)];exact n1.symm
  ·rw [if_neg hb,z7 hb]
 rw [eH] at I3;have fin:X.xe (.ref ea) s':=ht pins σ _ s' ea C _ _ _ I3 hE rfl rfl rfl rfl (by rw [z7 (Ne.symm n3)];exact n1) n0 (q1 dx n2);obtain ⟨⟨nm,qn,N,bs,sn,sub,ab,col,dd,k0,k1,k2,k3,k5,mN,hC,hN,hi⟩,tl,_⟩:=Vx I2.kIn q;have hcB:(Value.ref C:: .ref R::veMro).contains (.type "BaseException")=true:=by rw [List.contains_cons,List.contains_cons,show veMro.contains (.type "BaseException")=true by decide,Bool.or_true,Bool.or_true]
 obtain ⟨hp,gs,dr,tk,os⟩:=s'
 repeat (first|with_reducible refine wpAny_loadPart_at hE ?_|with_reducible refine wpAny_loadPart_at hC ?_|(with_reducible refine wpAny_isSubtype_exc hC ?_;rw [hcB])|wp_step)
 exact wpAny_raiseNew_none (I.ok.hd hc) fin
end
end L2
namespace L2
open PySem PySem.Spec PyProof.Rows PySem.W Builtin Builtin.ObjectAttr
section
variable {X:Cx}{K:Frag}{x n:Str}{i:Nat}{D0:Addr}{cs:List Addr}{body suite:List Stmt}{b₀:Stmt}{tb:XK->TS}{ts:Addr->Addr->Option Addr->TS}{np hpos pos:Pos}
end
end L2
namespace L2
open PySem PySem.Spec PyProof.Rows PySem.W
theorem vB {X:Cx}{x:Str}{C:Addr}{E:XK}{np cpos pos:Pos}(hc:X.calm=true)(hex:X.ex=[])(hg:Gl X x)(hm:X.mg x=some (.ref C))(q:excIn X.K C veMro "ValueError.__new__"=true)(ht:XZ X E)(hd:(x==("__debug__":Str))=false:=by decide):PS X (.Raise (some (.Call (.Name x np) [] [] cpos)) none pos) (Vk C E):=by
 intro pins s σ H D I h;obtain ⟨tl,N,nm,qn,bs,hdct,sn,sub,ab,col,dd,k0,k1,k2,k3,k5,mN,hC,hN,hni,TL⟩:=(CP (mg:=X.mg) I.kIn hm q).obj;refine wpAny_Raise_call_subU (C:=C) (nm:=nm) (q:=qn) (N:=N) (bs:=bs) (bm:=tl) (hdct:=hdct) (sn:=sn) (sub:=sub) (ab:=ab) (col:=col) (dd:=dd) (k0:=k0) (k1:=k1) (k2:=k2) (k3:=k3) (k5:=k5) PySem.F.excBase_ValueError (by decide) PySem.F.excBase_ValueError (mN:=mN) (TL.hasType PySem.F.excBase_ValueError.hasBase) (I.ok.hd hc) rfl hni (vj I hg hm ⟨rfl,?_⟩ hd);refine evalArgs_empty ⟨rfl,uZ _,hC,hN,TL,λh' ea mk=>?_⟩;obtain ⟨t,m1,_,_⟩:=mk.there;refine ht pins σ H _ ea C _ _ _ (I.kept (t':=s.toks) mk.keeps) m1 rfl rfl rfl rfl (I.hok.gone mk.new) ?_ h;cases z:X.s₀.heap.get? ea with
 |none=>rfl
 |some o=>obtain ⟨o',z2⟩:=I.base.there ea o z (by rw [hex];exact λz=>nomatch z);rw [mk.new] at z2;cases z2
end L2
namespace Mi
open PySem L2
variable{E:XK}{C:Addr}{f:Str}{te:TE}{tb:TS}
abbrev XV:=Option (Str×V)
def EOK (E:XK)(c:Addr)(y:XV)(Hs H:Hp):Prop:=match y with
 |none=>∀ Hs' H',Ext Hs H Hs' H'->E (.ref c) none H'
 |some p=>∀ Hs' H' dx,Ext Hs H Hs' H'->H dx=none->H' dx=some (.xd [p])->E (.ref c) (some dx) H'
theorem EOK.ext {c:Addr}{y:XV}{Hs H Hs1 H1:Hp}(q:EOK E c y Hs H)(x:Ext Hs H Hs1 H1):EOK E c y Hs1 H1:=by
 cases y with
 |none=>exact λHs' H' e=>q Hs' H' (x.trans e)
 |some p=>exact λHs' H' dx e n h=>q Hs' H' dx (x.trans e) (x.s2.free n) h
abbrev YM:=ME->Addr->XV->Prop
variable{xa xb:YM}
class zO (E:XK)(te:TE)(f:YM):Prop where
 h:∀{ε c y},f ε c y->∀{Hs0 H0 Hs H σ},RS Hs0 H0 Hs H σ ε->EOK E c y Hs H->∀{Q:VK},te σ H Q
class VH (E:XK)(ts:TS)(f:YM):Prop where
 h:∀{ε c y},f ε c y->∀{Hs0 H0 Hs H σ},RS Hs0 H0 Hs H σ ε->EOK E c y Hs H->∀{D:qu},ts D σ H
class xq (E:XK)(ts:TS)(f:YM):Prop where
 h:∀{ε c y},f ε c y->∀{Hs0 H0 Hs H σ},RS Hs0 H0 Hs H σ ε->EOK E c y Hs0 H0->∀{D:qu},ts D σ H
def yNo:YM:=λ_ _ _=>False
instance (priority:=2000){ts:TS}:xq E ts yNo where
 h:=λh=>h.elim
def jU (C:Addr):YM:=λ_ c y=>c=C/\y=none
instance :xq E (Vk C E) (jU C) where
 h:=λh _ _ _ _ _ rs q _=>by
  obtain ⟨rfl,rfl⟩:=h;exact q _ _ rs.ext
def Gz (C:Addr)(f:Str)(a:M):YM:=λε c y=>c=C/\∃ v,a ε=some (.at v)/\y=some (f,v)
instance {a:M}[sa:SemE te a]:xq E (Vl C f E (qR te xD)) (Gz C f a) where
 h:=λh _ _ _ _ _ rs q _=>by
  obtain ⟨rfl,v,ea,rfl⟩:=h;refine sa.h ea rs λu Hs1 H1 x1 r1=>⟨u,rfl,λdx hd=>?_⟩;rw [rep_at.mp r1];exact q _ _ dx (rs.ext.trans (x1.trans (.newO x1.s3 hd))) (rs.ext.s2.free (x1.s2.free hd)) v3
instance {fr:Bool}{t:TA}:c9 fr (Vl C f E t) qx where
 h:=λe=>by cases e
def xn (fr:Bool)(a:MS)(xa xr:YM):YM:=λε c y=>xa ε c y∨∃ ε',a ε=some (.nx ε')/\xr ε' c y
instance {fr:Bool}{t u:TS}{a:MS}{xr:YM}[sa:c9 fr t a][s1:xq E t xa][s2:xq E u xr]:xq E (tSeq t u) (xn fr a xa xr) where
 h:=λh _ _ _ _ _ rs q D=>by
  rcases h with h|⟨ε',e,h⟩
  ·exact s1.h h rs q
  ·exact sa.h e rs λHs H σ r=>s2.h h r q
def yIf (c:MB)(xa xb:YM):YM:=λε k y=>∃ b,c ε=some b/\if b=true then xa ε k y else xb ε k y
instance {t:TT}{ta:TS}{c:MB}[sc:qk t c][sa:xq E ta xa][sb:xq E tb xb]:xq E (Qx t ta tb) (yIf c xa xb) where
 h:=λh _ _ _ _ _ rs q _=>by
  obtain ⟨b,e,h⟩:=h;refine sc.h e rs λHs1 H1 x1=>?_;cases b with
  |true=>exact xc (sa.h (by simpa using h) (rs.go x1) q)
  |false=>exact qI (sb.h (by simpa using h) (rs.go x1) q)
def yX (f:YM):YM:=f
instance {f:YM}[s:zO E te f]:VH E (xQ te) (yX f) where
 h:=λh _ _ _ _ _ rs q _=>s.h h rs q
instance {f:YM}[s:zO E te f]:xq E (xQ te) (yX f) where
 h:=λh _ _ _ _ _ rs q _=>s.h h rs (q.ext rs.ext)
def XX (g:MG)(f:MS)(xf:YM):List PV->YM
 |[]=>λ_ _ _=>False
 |x::xs=>λε c y=>∃ ε1,g x ε=some ε1/\(xf ε1 c y∨∃ ε2,(f ε1=some (.nx ε2)∨f ε1=some (.ct ε2))/\XX g f xf xs ε2 c y)
def yFor (fr:Bool)(i:MA)(g:MG)(f:MS)(xf:YM):YM:=λε c y=>∃ xs,i ε=some xs/\XX g f xf xs ε c y
instance {fr:Bool}{wi:TI}{tg:TG}{ts:List Nat}{i:MA}{g:MG}{f:MS}{xf:YM}[si:zh wi i][sg:zN tg ts g][sf:c9 fr tb f][sx:xq E tb xf]:xq E (tFor wi tg tb) (yFor fr i g f xf) where
 h:=λ{ε0 c y} e Hs0 H0 _ _ _ rs q D=>by
  obtain ⟨xs,ex,e1⟩:=e;refine si.h ex rs λJ Hs1 H1 x1 ok=>?_;have rs1:=rs.go x1;have q1:EOK E c y Hs1 H0:=by
   cases y with
   |none=>exact λHs' H' z=>q Hs' H' (rs1.ext.unbase z)
   |some p=>exact λHs' H' dx z n h=>q Hs' H' dx (rs1.ext.unbase z) n h
  refine ⟨λk m σ H=>m=xs.length-k/\k<=xs.length/\∃ Hs ε,RS Hs1 H0 Hs H σ ε/\XX g f xf (xs.drop k) ε c y,⟨xs.length,by simp,uZ _,Hs1,_,rs1.rebase,e1⟩,?_⟩;rintro k m σ H ⟨rfl,hk,Hs,ε,r,el⟩;by_cases hlt:k<xs.length
  ·have hd:xs.drop k=xs[k]::xs.drop (k+1):=yf hlt;rw [hd] at el;obtain ⟨ε1,eg,el2⟩:=el;obtain ⟨go,yl⟩:=ok.go k xs[k] Hs H (by simp [hlt]) r.ext.s1 r.ext.s3;refine .inr ⟨go,λσ' H'=>k+1<=xs.length/\∃ Hs ε,RS Hs1 H0 Hs H' σ' ε/\XX g f xf (xs.drop (k+1)) ε c y,λσ' H' p=>⟨xs.length-(k+1),by omega,rfl,p.1,p.2⟩,λv H2 y'=>?_⟩;obtain ⟨Hs2,x2,r2⟩:=yl v H2 y';refine sg.h eg (r.go x2) r2 λσ2 rs2 _=>?_;rcases el2 with el2|⟨ε2,eo|eo,el2⟩
   ·exact sx.h el2 rs2 q1
   ·exact sf.h eo rs2 λHs3 H3 σ3 r3=>⟨hlt,Hs3,ε2,r3,el2⟩
   ·exact sf.h eo rs2 λHs3 H3 σ3 r3=>⟨hlt,Hs3,ε2,r3,el2⟩
  ·have ek:k=xs.length:=by omega
   subst ek;rw [uO] at el;exact el.elim
def qW (m:List PV->Option PV)(x:List PV->Addr->XV->Prop):Sp:=λvs H Q E=>∃ Hs xs,Same Hs H/\Reps Hs xs vs/\((∃ y,m xs=some y/\∀ v Hs' H',Ext Hs H Hs' H'->Rep Hs' y v->Q v H')∨∃ c y,x xs c y/\EOK E c y Hs H)
def jz (x:List PV->Addr->XV->Prop)(as:MA):YM:=λε c y=>∃ xs,as ε=some xs/\x xs c y
section
variable {m:List PV->Option PV}{x:List PV->Addr->XV->Prop}{ta:TA}{as:MA}{E:XK}
instance [sa:o5 ta as]:SemE (qO (qW m x) [] E ta) (z9 m as) where
 h:=λe _ _ _ _ _ rs _ q=>by
  obtain ⟨xs,ex,e1⟩:=bind_some e;exact sa.h ex rs λvs Hs1 H1 x1 r1=>⟨Hs1,xs,x1.s3,by rw [yC];exact r1,.inl ⟨_,e1,λv Hs' H' x r=>q v _ _ (x1.trans x) r⟩⟩
instance [sa:o5 ta as]:zO E (qO (qW m x) [] E ta) (jz x as) where
 h:=λh _ _ _ _ _ rs q _=>by
  obtain ⟨xs,ex,h⟩:=h;exact sa.h ex rs λvs Hs1 H1 x1 r1=>⟨Hs1,xs,x1.s3,by rw [yC];exact r1,.inr ⟨_,_,h,q.ext x1⟩⟩
end
def yFn (n k:Nat)(f:YM):List PV->Addr->XV->Prop:=λxs c y=>xs.length=k/\f (xs.map .sh++List.replicate (n-k) .no) c y
section
variable {P:Program}{w:World}{K:Fg}{mg:Str->Option Value}{base:Heap}
theorem okPY {y qual:Str}{st:Stmt}{f:Addr}{fd:FuncData}{N ps:List Str}{k:Nat}{b:MS}{m:List PV->Option PV}{x:List PV->Addr->XV->Prop}(F:Fun K y qual st f fd)(S:y6 N ps (j6 st))(hm:m=p9 N.length ps.length b)(hx:x=yFn N.length ps.length xb)(hb:∀(cdv:Value)(A:Around)(outer:List Env)(s:Shared)(H:Hp)(E:XK),Room k (A.deeper (PyProof.Rows.envOfC qual (j6 st) s.heap.objs.size f cdv)) -> ∃ t,PSs (qc (p8 P w) P w K mg base N qual (j6 st) f cdv A outer s H E) (c7 st) t/\c9 false t b/\xq E t xb):FnOk P w K mg base (p8 P w) (k+1) f fd ps (qW m x):=by
 subst hm;subst hx;refine F.ok2 S (λvs H Q E h=>?_) (λcdv A outer s H vs Q E hr h=>?_)
 ·obtain ⟨Hs,xs,_,r,⟨y,e,_⟩|⟨c,y,h,_⟩⟩:=h
  ·rw [r.length];unfold p9 at e;split at e
   ·rename_i hl;exact hl
   ·cases e
  ·rw [r.length];exact h.1
 ·obtain ⟨Hs,xs,sm,r,h⟩:=h;obtain ⟨t,ht,sem,semx⟩:=hb cdv A outer s H E hr;refine ⟨t,ht,?_⟩;rcases h with ⟨y,e,q⟩|⟨c,y,h,q⟩
  ·unfold p9 at e;split at e
   ·rename_i hl;obtain ⟨o,eo,e1⟩:=bind_some e;refine sem.h eo (by rw [<- hl];exact zF sm r) ?_;cases o with
    |rt z=>cases e1;exact λv Hs' H' x rv=>q v Hs' H' x rv
    |nx ε=>cases e1;exact λHs' H' σ rs=>q _ Hs' H' rs.ext (rep_at.mpr rfl)
    |bk ε=>cases e1
    |ct ε=>cases e1
   ·cases e
  ·exact semx.h h.2 (by rw [<- h.1];exact zF sm r) q
end
variable {fr:Bool}
end Mi
namespace L2
open PySem PySem.Spec PyProof.Rows PySem.W
theorem okXI {P:Program}{w:World}{K:Frag}{mg:Str->Option Value}{base:Heap}{x qual:Str}{st:Stmt}{f fI C R:Addr}{fd:FuncData}{a b g:Str}{value:Expr}{o:Expr}{pos pos':Pos}(F:Fun K x qual st f fd)(S:y6 [a,b] [a,b] (j6 st))(hb:c7 st=[.Assign [.Attribute o g pos'] value pos])(q:zH K C R fI=true)(hs:findIn K (.ref C) "__setattr__"=some (some (.builtin "object.__setattr__")))(hn:findIn K (.ref C) g=some none)(h:∀ (cdv:Value) (A:Around) (outer:List Env) (s:Shared) (H:Hp) (E:XK),PE (qc v8 P w K mg base [a,b] qual (j6 st) f cdv A outer s H E).nox o (qh 0)/\PE (qc v8 P w K mg base [a,b] qual (j6 st) f cdv A outer s H E).nox value (qh 1) /\ swapsWith value (some (.Attribute o g pos')) pos.line (qc v8 P w K mg base [a,b] qual (j6 st) f cdv A outer s H E).nox.env=pure false):FnOk P w K mg base v8 1 f fd [a,b] (wH C g):=by
 refine F.ok (k:=0) S (λvs H Q E h=>?_) (λcdv A outer s H vs Q E hr h'=>?_)
 ·obtain ⟨e,v,rfl,_⟩:=h;rfl
 ·obtain ⟨h1,h2,h3⟩:=h cdv A outer s H E;obtain ⟨e,v,rfl,he,q'⟩:=h';refine ⟨_,by rw [hb];exact v5 (Dx q hs hn h1 h2 h3),?_⟩;exact ⟨_,rfl,_,rfl,e,rfl,he,q'⟩
end L2
namespace Mi
open PySem L2
variable{H Hs:Hp}
def Tops (Hs H:Hp):List Addr->List PV->Prop
 |[],[]=>True
 |a::as,w::ws=>Top Hs H a w/\Tops Hs H as ws
 |_,_=>False
theorem Tops.mono {Hs' H':Hp}(s1:Same Hs Hs')(s2:Same H H'):∀{as:List Addr}{ws:List PV},Tops Hs H as ws->Tops Hs' H' as ws
 |[],[],_=>trivial
 |_::_,_::_,h=>⟨h.1.mono s1 λo z=>s2 _ _ z,h.2.mono s1 s2⟩
 |[],_::_,h=>h.elim
 |_::_,[],h=>h.elim
theorem Tops.snoc {a:Addr}{w:PV}(t:Top Hs H a w):∀{as:List Addr}{ws:List PV},Tops Hs H as ws->Tops Hs H (as++[a]) (ws++[w])
 |[],[],_=>⟨t,trivial⟩
 |_::_,_::_,h=>⟨h.1,h.2.snoc t⟩
 |[],_::_,h=>h.elim
 |_::_,[],h=>h.elim
theorem Tops.mem {b:Addr}:∀{as:List Addr}{ws:List PV},Tops Hs H as ws->b∈as->H b≠none
 |a::as,w::ws,h,hb=>by
  rcases yJ.mp hb with rfl|z
  ·exact h.1.there
  ·exact h.2.mem z
 |[],_,_,hb=>nomatch hb
 |_::_,[],h,_=>h.elim
theorem Tops.at {Hs H:Hp}{l:List PV}:∀{as:List Addr}{ls:List (List PV)}{j:Nat},Tops Hs H as (ls.map .lst)->ls[j]?=some l->∃ b,as[j]?=some b/\Top Hs H b (.lst l)
 |a::as,x::ls,0,h,e=>by cases e;exact ⟨a,rfl,h.1⟩
 |a::as,x::ls,j+1,h,e=>Tops.at (as:=as) (ls:=ls) (j:=j) h.2 (by simpa using e)
 |_,[],_,_,e=>by simp at e
 |[],_::_,_,h,_=>h.elim
theorem YD:∀{ys:List PV}{ls:List (List PV)},wo ys=some ls->ys=ls.map .lst
 |[],ls,h=>by cases h;rfl
 |y::ys,ls,h=>by
  unfold wo at h;split at h
  ·rename_i e;cases e
  ·rename_i e;cases e;obtain ⟨zs,hz,rfl⟩:=yI.mp h;rw [YD hz];rfl
  ·cases h
theorem YE:∀ ls:List (List PV),wo (ls.map .lst)=some ls
 |[]=>rfl
 |l::ls=>by
  show (wo (ls.map .lst)).map (l::·)=_;rw [YE ls];rfl
theorem RS.hide {Hs0 H0:Hp}{σ:St}{ε:ME}(r:RS Hs0 H0 Hs H σ ε)(i:Nat)(v:Option V):RS Hs0 H0 Hs H (σ.set i v) (ε.set i .no):=by
 have dn:∀(j:Nat)(s:MSlot),(ε.set i .no)[j]?=some s->s = .no∨(i≠j/\ε[j]?=some s):=λj s q=>by
  rw [yK] at q;split at q
  ·split at q
   ·cases q;exact .inl rfl
   ·cases q
  ·rename_i h;exact .inr ⟨h,q⟩
 have up:∀(j:Nat),i≠j->(σ.set i v)[j]?=σ[j]?:=λj h=>yr h;refine ⟨r.ext,λj x q=>?_,λj x q=>?_,λj k x y a h1 h2 h3 h4=>?_,by rw [yw,yw,r.len],λj x q=>?_⟩
 ·rcases dn j _ q with z|⟨h,q⟩
  ·cases z
  ·rw [up j h];exact r.sh j x q
 ·rcases dn j _ q with z|⟨h,q⟩
  ·cases z
  ·rw [up j h];exact r.ow j x q
 ·rcases dn j _ h1 with z|⟨g1,q1⟩
  ·cases z
  ·rcases dn k _ h2 with z|⟨g2,q2⟩
   ·cases z
   ·rw [up j g1] at h3;rw [up k g2] at h4;exact r.nd j k x y a q1 q2 h3 h4
 ·rcases dn j _ q with z|⟨h,q⟩
  ·cases z
  ·rw [up j h];exact r.bo j x q
variable {fr:Bool}
end Mi
namespace Mi
open PySem PySem.Spec PyProof.Rows L2
variable{H H0 Hs:Hp}{a:Addr}{ps:List (Addr×PV)}{te:TE}{m:List PV->Option PV}{xs:List PV}
structure Deep (H0 Hs H:Hp)(a:Addr)(ps:List (Addr×PV)):Prop where
 top:H a=some (.lst (ps.map λp=>V.ref p.1))
 each:∀ p∈ps,Top Hs H p.1 p.2
 nd:(a::ps.map (·.1)).Nodup
 new:∀ b∈a::ps.map (·.1),H0 b=none/\Hs b=none
theorem Deep.live (d:Deep H0 Hs H a ps):∀ b∈a::ps.map (·.1),H b≠none:=λb hb=>by
 rcases yJ.mp hb with rfl|hb
 ·rw [d.top];exact λz=>nomatch z
 ·obtain ⟨p,hp,rfl⟩:=yp.mp hb;exact (d.each p hp).there
theorem Deep.go {Hs' H':Hp}(d:Deep H0 Hs H a ps)(x:Ext Hs H Hs' H'):Deep H0 Hs' H' a ps :=
 ⟨x.s2 _ _ d.top,λp hp=>(d.each p hp).mono x.s1 λo z=>x.s2 _ _ z,d.nd,λb hb=>⟨(d.new b hb).1,x.s4 b (d.live b hb) (d.new b hb).2⟩⟩
theorem Deep.reps {Hs H Hs':Hp}:∀{ps:List (Addr×PV)},(∀ p∈ps,Top Hs H p.1 p.2)->(∀ p∈ps,Hs p.1=none)->Same Hs Hs'->(∀ p∈ps,Hs' p.1=H p.1)->Reps Hs' (ps.map (·.2)) (ps.map λp=>V.ref p.1)
 |[],_,_,_,_=> .nil
 |p::ps,h,n,g,k=>by
  refine .cons ?_ (Deep.reps (λq hq=>h q (yT _ hq)) (λq hq=>n q (yT _ hq)) g λq hq=>k q (yT _ hq));obtain ⟨o,ho,hr⟩:=(h p yR).rep (n p yR);refine hr.mono λb u e=>?_;by_cases hb:b=p.1
  ·subst hb;rw [v3] at e;cases e;rw [k p yR];exact ho
  ·rw [z7 hb] at e;exact g _ _ e
theorem Deep.share {Ha Hb:Hp}(d:Deep H0 Hs H a ps)(x:Ext Ha Hb Hs H)(f:∀ b∈a::ps.map (·.1),Hb b=none):∃ Hp',Same Hs Hp'/\Ext Ha Hb Hp' H/\Rep Hp' (.lst (ps.map (·.2))) (.ref a)/\∀ b,b∉a::ps.map (·.1)->Hp' b=Hs b:=by
 open Classical in
 let Hp':Hp:=λb=>if b∈a::ps.map (·.1) then H b else Hs b
 have hin:∀ b,b∈a::ps.map (·.1)->Hp' b=H b:=λb hb=>if_pos hb;have hout:∀ b,b∉a::ps.map (·.1)->Hp' b=Hs b:=λb hb=>if_neg hb
 clear_value Hp'
 have g:Same Hs Hp':=λb o e=>by
  rw [hout b λz=>by rw [(d.new b z).2] at e;cases e];exact e
 refine ⟨Hp',g,⟨x.s1.trans g,x.s2,λb o e=>?_,λb h z=>?_⟩,rep_lst.mpr ⟨a,ps.map λp=>V.ref p.1,rfl,?_,?_⟩,hout⟩
 ·by_cases hb:b∈a::ps.map (·.1)
  ·rw [hin b hb] at e;exact e
  ·rw [hout b hb] at e;exact x.s3 _ _ e
 ·rw [hout b λw=>h (f b w)];exact x.s4 b h z
 ·rw [hin a yR];exact d.top
 ·exact Deep.reps (H:=H) d.each (λp hp=>(d.new _ (yT _ (uR hp))).2) g λp hp=>hin _ (yT _ (uR hp))
class wR (te:TE)(f:M):Prop where
 l:∀{ε y},f ε=some y->∃ zs,y = .lst zs
 h:∀{ε zs},f ε=some (.lst zs)->∀{Hs0 H0 Hs H σ},RS Hs0 H0 Hs H σ ε->∀{Q:VK},(∀ a ps Hs' H',Ext Hs H Hs' H'->Deep H Hs' H' a ps->zs=ps.map (·.2)->Q (.ref a) H')->te σ H Q
instance {wi:TI}{tg:TG}{ts:List Nat}{tt:TT}{cap:List (Option Nat)}{it:MA}{g:MG}{c:MB}{f:M}[si:zh wi it][sg:zN tg ts g][sc:qk tt c][sf:xp te f]:wR (vH wi tg tt te cap) (c5 cap ts it g c f) where
 l:=λe=>by
  obtain ⟨xs,_,e⟩:=bind_some e;split at e
  ·obtain ⟨ys,_,e⟩:=bind_some e;cases e;exact ⟨_,rfl⟩
  ·cases e
 h:=λ{ε zs} e Hs0 H0 Hs H σ rs Q q=>by
  unfold c5 at e;obtain ⟨xs,ex,e1⟩:=bind_some e;split at e1
  rotate_left
  ·cases e1
  rename_i hcl;obtain ⟨hcap,hl⟩:=hcl;unfold xt at hcap;rw [yt] at hcap;obtain ⟨ys,ey,e1⟩:=bind_some e1;cases e1;refine si.h ex rs λJ Hs1 H1 x1 ok=>?_;have rc:=((rs.go x1).cap (yi hcap.1)).rebase;have wk:∀ i∈ts,(u8 cap σ)[i]?=some none:=λi hi=>by
   unfold u8;rw [yN,yi (uY.mp hcap.2 i hi)];rfl
  refine ⟨λk m vs H=>m=xs.length-k/\k<=xs.length/\∃(Hs2:Hp)(ps:List (Addr×PV)),vs=ps.map (λp=>V.ref p.1)/\Ext Hs1 H1 Hs2 H/\RS Hs1 H0 Hs2 H (u8 cap σ) (p6 cap _)/\(∀ p∈ps,Top Hs2 H p.1 p.2)/\(ps.map (·.1)).Nodup/\(∀ b∈ps.map (·.1),H1 b=none/\Hs2 b=none)/\ps.length<=k/\∃ rest,i8 g c f (p6 cap _) (xs.drop k)=some rest/\zs=ps.map (·.2)++rest,
   ⟨xs.length,by simp,uZ _,Hs1,[],rfl,.refl x1.s3,rc,(λ_ z=>nomatch z),.nil,(λ_ z=>nomatch z),yS _,_,ey,rfl⟩,?_⟩
  rintro k m vs H2 ⟨rfl,hk,Hs2,ps,rfl,x2,r2,tp,nd,nw,hw,rest,er,eys⟩;refine ⟨xg (by rw [yZ];omega),?_⟩;have lv:∀ b∈ps.map (·.1),H2 b≠none:=λb hb=>by
   obtain ⟨p,hp,rfl⟩:=yp.mp hb;exact (tp p hp).there
  by_cases hlt:k<xs.length
  ·have hd:xs.drop k=xs[k]::xs.drop (k+1):=yf hlt;rw [hd] at er;unfold i8 at er;obtain ⟨ε1,eg,er1⟩:=bind_some er;obtain ⟨b,eb,er2⟩:=bind_some er1;obtain ⟨go,yl⟩:=ok.go k xs[k] Hs2 H2 (by simp [hlt]) x2.s1 x2.s3;refine .inr ⟨go,λv H3 y=>?_⟩;obtain ⟨Hs3,x3,r3⟩:=yl v H3 y;refine sg.h eg (r2.go x3) r3 λσ2 rs2 bt=>⟨bt.wk wk,sc.h eb rs2 λHs4 H4 x4=>?_⟩;cases b with
   |true =>
    rw [if_pos rfl] at er2;obtain ⟨z,ez,er3⟩:=bind_some er2;obtain ⟨rest',er4,er5⟩:=bind_some er3;cases er5;refine xc (sf.h ez (rs2.go x4) λa Hs5 H5 x5 na ns t5=>⟨xs.length-(k+1),by omega,rfl,hlt,Hs5,ps++[(a,z)],by rw [yx];rfl,x2.trans (x3.trans (x4.trans x5)),((r2.go x3).go x4).go x5,λp hp=>?_,?_,λb hb=>?_,?_,rest',er4,?_⟩)
    ·rcases yB.mp hp with hp|hp
     ·exact (tp p hp).mono (x3.s1.trans (x4.s1.trans x5.s1)) λo w=>(x3.s2.trans (x4.s2.trans x5.s2)) _ _ w
     ·rw [yO.mp hp];exact t5
    ·rw [yx];refine List.nodup_append.mpr ⟨nd,by simp,λb hb c hc z=>?_⟩;rw [show c=a from yO.mp hc] at z;subst z;exact wF (x3.s2.trans x4.s2) (lv b hb) na
    ·rw [yx] at hb;rcases yB.mp hb with hb|hb
     ·exact ⟨(nw b hb).1,(x3.trans (x4.trans x5)).s4 b (lv b hb) (nw b hb).2⟩
     ·rw [show b=a from yO.mp hb];exact ⟨(x2.s2.trans (x3.s2.trans x4.s2)).free na,ns⟩
    ·rw [yD];simp;omega
    ·rw [yx,uS];exact eys
   |false=>rw [if_neg yV] at er2;exact qI ⟨xs.length-(k+1),by omega,rfl,hlt,Hs4,ps,rfl,x2.trans (x3.trans x4),(r2.go x3).go x4,λp hp=>(tp p hp).mono (x3.s1.trans x4.s1) λo w=>(x3.s2.trans x4.s2) _ _ w,nd,λb hb=>⟨(nw b hb).1,(x3.trans x4).s4 b (lv b hb) (nw b hb).2⟩,by omega,rest,er2,eys⟩
  ·have ek':k=xs.length:=by omega
   subst ek';rw [uO] at er;unfold i8 at er;cases er;refine .inl ⟨ok.stop Hs2 H2 x2.s1 x2.s3,λF hF=>?_⟩;rw [yC] at eys;have xF:Ext Hs2 H2 Hs2 (z6 H2 F (.lst (ps.map λp=>V.ref p.1))):= .newO x2.s3 hF;have Fp:F∉ps.map (·.1):=λz=>lv F z hF;refine q F ps Hs2 _ ((x1.trans x2).trans xF) ⟨v3,λp hp=>(tp p hp).mono (.refl _) λo w=>xF.s2 _ _ w,yk.mpr ⟨Fp,nd⟩,λb hb=>?_⟩ eys;rcases yJ.mp hb with rfl|hb
   ·exact ⟨(x1.s2.trans x2.s2).free hF,x2.s3.free hF⟩
   ·exact ⟨x1.s2.free (nw b hb).1,(nw b hb).2⟩
def mZ (m:List PV->Option PV):List PV->Option PV:=λxs=>(m xs).bind λy=>match y with
 | .lst zs=>some (.lst zs)
 |_=>none
theorem Xm {y:PV}(h:mZ m xs=some y):∃ zs,y = .lst zs/\m xs=some (.lst zs):=by
 unfold mZ at h;obtain ⟨u,e,h⟩:=bind_some h;split at h
 ·cases h;exact ⟨_,rfl,e⟩
 ·cases h
theorem mZ_of {zs:List PV}(h:m xs=some (.lst zs)):mZ m xs=some (.lst zs):=by unfold mZ;rw [h];rfl
class SemN (ts:TS)(f:MS):Prop where
 h:∀{ε zs},f ε=some (.rt (.lst zs))->VA ε->∀{Hs0 H0 Hs H σ},RS Hs0 H0 Hs H σ ε->∀{D:qu},(∀ a ps Hs' H',Ext Hs0 H0 Hs' H'->Deep H0 Hs' H' a ps->zs=ps.map (·.2)->D.rt (.ref a) H')->ts D σ H
instance {a:M}{u:TS}{b:MS}[sa:SemE te a][sb:SemN u b]:SemN (tSeq (xQ te) u) (u6 (xS a) b) where
 h:=λe all _ _ _ _ _ rs _ q=>by
  obtain ⟨o,eo,e1⟩:=bind_some e;obtain ⟨x,ex,e2⟩:=bind_some eo;cases e2;exact sa.h ex rs λv Hs1 H1 x1 r1=>sb.h e1 all (rs.go x1) q
section
variable {P:Program}{w:World}{K:Fg}{mg:Str->Option Value}{base:Heap}
theorem GH (xs:List PV)(n:Nat):VA (xs.map MSlot.sh++List.replicate n .no):=λi s h=>by
 have:=uT h;rcases yB.mp this with z|z
 ·obtain ⟨x,_,rfl⟩:=yp.mp z;exact .inr ⟨x,rfl⟩
 ·exact .inl (List.eq_of_mem_replicate z)
end
end Mi
namespace Mi
open PySem L2
variable{te:TE}{f:M}{H H0 HR Hs Hs0:Hp}{a b:Addr}{o:HO}{x y:PV}{v:V}{ps:List (Addr×PV)}{ls:List (List V)}{S:List Addr}{σ:St}{ε:ME}
instance [sz:wR te f]:SemN (Qz te) (b8 f) where
 h:=λ{ε zs} e _ _ _ _ _ _ rs _ q=>by
  obtain ⟨x,ex,e1⟩:=bind_some e;cases e1;exact sz.h ex rs λa ps Hs1 H1 x1 d ez=>q a ps Hs1 H1 (rs.ext.trans x1) ⟨d.top,d.each,d.nd,λb hb=>⟨rs.ext.s2.free (d.new b hb).1,(d.new b hb).2⟩⟩ ez
structure Lent (S:List Addr)(Hs0 H0 HR:Hp):Prop where
 in0:Same HR H0
 out:∀ b,HR b≠none->Hs0 b=none/\b∉S
def o6 (Hs HR:Hp):Hp:=λb=>match HR b with
 |some o=>some o
 |none=>Hs b
theorem vV (h:HR b=none):o6 Hs HR b=Hs b:=by unfold o6;rw [h]
theorem QU (h:HR b=some o):o6 Hs HR b=some o:=by unfold o6;rw [h]
section
variable {S:List Addr}{Hs0 H0 Hs H HR:Hp}{σ:St}{ε:ME}
theorem Lent.at (L:Lent S Hs0 H0 HR)(rd:RD S Hs0 H0 Hs H σ ε):Same HR H:=λb o e=>rd.s2 b o (L.in0 _ _ e) (L.out b (by rw [e];exact λz=>nomatch z)).2
theorem Lent.un (L:Lent S Hs0 H0 HR)(rd:RD S Hs0 H0 Hs H σ ε)(h:HR b≠none):Hs b=none:=rd.s4 b (wF L.in0 h) (L.out b h).1
theorem Lent.s1 (L:Lent S Hs0 H0 HR)(rd:RD S Hs0 H0 Hs H σ ε):Same Hs (o6 Hs HR):=λb o e=>by
 cases h:HR b with
 |none=>rw [vV h];exact e
 |some u=>rw [L.un rd (by rw [h];exact λz=>nomatch z)] at e;cases e
theorem Lent.s2 (L:Lent S Hs0 H0 HR)(rd:RD S Hs0 H0 Hs H σ ε):Same (o6 Hs HR) H:=λb o e=>by
 cases h:HR b with
 |none=>rw [vV h] at e;exact rd.s3 _ _ e
 |some u=>rw [QU h] at e;cases e;exact L.at rd _ _ h
theorem Lent.s3:Same HR (o6 Hs HR):=λb o e=>QU e
theorem Lent.own (L:Lent S Hs0 H0 HR)(rd:RD S Hs0 H0 Hs H σ ε)(h:H0 a=none∨a∈S):HR a=none:=by
 cases e:HR a with
 |none=>rfl
 |some o =>
  rcases h with h|h
  ·rw [L.in0 _ _ e] at h;cases h
  ·exact absurd h (L.out a (by rw [e];exact λz=>nomatch z)).2
theorem zk {ε:ME}{i:Nat}(j:Nat)(s:MSlot)(q:(ε.set i (.sh x))[j]?=some s):(i=j/\s = .sh x)∨(i≠j/\ε[j]?=some s):=by
 rw [yK] at q;split at q
 ·rename_i h;split at q
  ·cases q;exact .inl ⟨h,rfl⟩
  ·cases q
 ·rename_i h;exact .inr ⟨h,q⟩
theorem Lent.rs (L:Lent S Hs0 H0 HR)(rd:RD S Hs0 H0 Hs H σ ε){i:Nat}(hv:σ[i]?=some (some v))(rv:Rep (o6 Hs HR) x v):RS (o6 Hs HR) (o6 Hs HR) (o6 Hs HR) H σ (ε.set i (.sh x)):=by
 have s1:=L.s1 rd;have s2:=L.s2 rd;refine ⟨⟨.refl _,s2,s2,λ_ h z=>absurd z h⟩,λj y q=>?_,λj y q=>?_,λj k y z a h1 h2 h3 h4=>?_,by rw [yw];exact rd.len,λj y q=>?_⟩
 ·rcases zk j _ q with ⟨rfl,e⟩|⟨_,q⟩
  ·cases e;exact ⟨v,hv,rv⟩
  ·obtain ⟨u,hu,ru⟩:=rd.sh j y q;exact ⟨u,hu,ru.mono s1⟩
 ·rcases zk j _ q with ⟨_,e⟩|⟨_,q⟩
  ·cases e
  ·obtain ⟨a,ha,h0,hs,t⟩:=rd.ow j y q;have:o6 Hs HR a=none:=by rw [vV (L.own rd h0)];exact hs
   exact ⟨a,ha,this,this,t.mono s1 λo e=>e⟩
 ·rcases zk j _ h1 with ⟨_,e⟩|⟨_,q1⟩
  ·cases e
  ·rcases zk k _ h2 with ⟨_,e⟩|⟨_,q2⟩
   ·cases e
   ·exact rd.nd j k y z a q1 q2 h3 h4
 ·rcases zk j _ q with ⟨_,e⟩|⟨_,q⟩
  ·cases e
  ·exact absurd q (rd.nb j y)
theorem Lent.bo (L:Lent S Hs0 H0 HR)(rd:RD S Hs0 H0 Hs H σ ε){i:Nat}(hv:σ[i]?=some (some (.ref a)))(ha:HR a≠none)(t:Top Hs H a x):RS Hs HR Hs H σ (ε.set i (.bo x)):=by
 have dn:∀(j:Nat)(s:MSlot),(ε.set i (.bo x))[j]?=some s->(i=j/\s = .bo x)∨(i≠j/\ε[j]?=some s):=λj s q=>by
  rw [yK] at q;split at q
  ·rename_i h;split at q
   ·cases q;exact .inl ⟨h,rfl⟩
   ·cases q
  ·rename_i h;exact .inr ⟨h,q⟩
 refine ⟨⟨.refl _,L.at rd,rd.s3,λ_ _ z=>z⟩,λj y q=>?_,λj y q=>?_,λj k y z b h1 h2 h3 h4=>?_,by rw [yw];exact rd.len,λj y q=>?_⟩
 ·rcases dn j _ q with ⟨_,e⟩|⟨_,q⟩
  ·cases e
  ·exact rd.sh j y q
 ·rcases dn j _ q with ⟨_,e⟩|⟨_,q⟩
  ·cases e
  ·obtain ⟨b,hb,h0,hs,t⟩:=rd.ow j y q;exact ⟨b,hb,L.own rd h0,hs,t⟩
 ·rcases dn j _ h1 with ⟨_,e⟩|⟨_,q1⟩
  ·cases e
  ·rcases dn k _ h2 with ⟨_,e⟩|⟨_,q2⟩
   ·cases e
   ·exact rd.nd j k y z b q1 q2 h3 h4
 ·rcases dn j _ q with ⟨rfl,e⟩|⟨_,q⟩
  ·cases e;exact ⟨_,hv,.inr ⟨a,rfl,ha,L.un rd ha,t⟩⟩
  ·exact absurd q (rd.nb j y)
theorem Deep.clean {Hl H Hs1 H1:Hp}(s3:Same Hs H)(x:Ext Hl H Hs1 H1)(d:Deep H Hs1 H1 a ps)(e:ls.map (λl=>PV.lst (l.map .at))=ps.map (·.2)):∃ Hs',Ext Hs H Hs' H1/\Rep Hs' (.lst (ls.map λl=> .lst (l.map .at))) (.ref a):=by
 open Classical in
 let Hs':Hp:=λb=>if b∈a::ps.map (·.1) then H1 b else Hs b
 have hin:∀ b,b∈a::ps.map (·.1)->Hs' b=H1 b:=λb hb=>if_pos hb;have hout:∀ b,b∉a::ps.map (·.1)->Hs' b=Hs b:=λb hb=>if_neg hb
 clear_value Hs'
 have nin:∀ b,H b≠none->b∉a::ps.map (·.1):=λb hb z=>hb (d.new b z).1;refine ⟨Hs',⟨λb o q=>?_,x.s2,λb o q=>?_,λb h z=>?_⟩,rep_lst.mpr ⟨a,ps.map λp=>V.ref p.1,rfl,?_,?_⟩⟩
 ·rw [hout b (nin b (wF s3 (by rw [q];exact λz=>nomatch z)))];exact q
 ·by_cases hb:b∈a::ps.map (·.1)
  ·rw [hin b hb] at q;exact q
  ·rw [hout b hb] at q;exact x.s2 _ _ (s3 _ _ q)
 ·rw [hout b (nin b h)];exact z
 ·rw [hin a yR];exact d.top
 ·rw [e];have main:∀(qs:List (Addr×PV)),(∀ p∈qs,p∈ps)->Reps Hs' (qs.map (·.2)) (qs.map λp=>V.ref p.1):=by
   intro qs
   induction qs with
   |nil=>intro _;exact .nil
   |cons p qs ih =>
    intro h;have hp:=h p yR;refine .cons ?_ (ih λq hq=>h q (yT _ hq));have m:p.2∈ls.map (λl=>PV.lst (l.map .at)):=by rw [e];exact uR hp
    obtain ⟨l,_,el⟩:=yp.mp m;have t:=d.each p hp;show Rep Hs' p.2 (V.ref p.1);rw [<- el] at t ⊢;obtain ⟨vs,hv,rv⟩:=t;rw [rv.ats] at hv;exact rep_lst.mpr ⟨p.1,l,rfl,by rw [hin _ (yT _ (uR hp))];exact hv,.ofAts l⟩
  exact main ps λ_ h=>h
end
section
variable {K:Fg}{C:Addr}{S:List Addr}{Hs0 H0 Hs H HR:Hp}{σ:St}{ε:ME}{D:qu}{u:TS}{i:Nat}{x:PV}{v:V}{fld:Str}{ns:List Str}{xs:List PV}
theorem Yv [sz:wR te f][c:qa K C][n:u7 K C fld](L:Lent S Hs0 H0 HR)(rd:RD S Hs0 H0 Hs H σ ε)(hv:σ[i]?=some (some v))(rv:Rep HR x v)(e:f (ε.set i (.sh x))=some (.lst (ls.map λl=> .lst (l.map .at))))(he:ε[0]?=some (.ow (.ob C ns xs)))(hf:fld∉ns)(hl:ns.length<1000)(q:∀ Hs' H',RD S Hs0 H0 Hs' H' σ (ε.set 0 (.ow (.ob C (ns++[fld]) (xs++[.lst (ls.map λl=> .lst (l.map .at))]))))->Same Hs Hs'->u D σ H'):tSeq (jq K (qh 0) te fld) u D σ H:=by
 refine sz.h e (L.rs rd hv (rv.mono Lent.s3)) λa ps Hs1 H1 x1 d ez=>?_;obtain ⟨Hs',x2,r2⟩:=d.clean rd.s3 x1 ez;have rd1:=rd.go x2;obtain ⟨p,hp,h0,hs,dx,fs,hH,hk,hr⟩:=rd1.ow 0 _ he;have hf':fld∉fs.map (·.1):=by rw [hk];exact hf
 have hl':fs.length<1000:=by rw [<- yZ (f:=(·.1)),hk];exact hl
 refine ⟨_,hp,p,C,dx,fs,rfl,hH,c.c,n.n,hl',?_⟩;rw [Qq hf'];exact q _ _ (rd1.change he hp ⟨dx,_,v3,by rw [yx,hk];rfl,by rw [yx];exact hr.append (.one r2)⟩) x2.s1
theorem Pd [sa:SemE te f](L:Lent S Hs0 H0 HR)(rd:RD S Hs0 H0 Hs H σ ε)(hv:σ[i]?=some (some v))(rv:Rep (o6 Hs HR) x v)(e:f (ε.set i (.sh x))=some y)(q:∀ H',RD S Hs0 H0 Hs H' σ ε->u D σ H'):tSeq (xQ te) u D σ H :=
 sa.h e (L.rs rd hv rv) λ_ Hs1 H1 x1 _=>q H1 (rd.go ⟨.refl _,x1.s2,rd.s3.trans x1.s2,λ_ _ z=>z⟩)
theorem Pe [sa:SemE te f][c:qa K C][n:u7 K C fld](L:Lent S Hs0 H0 HR)(rd:RD S Hs0 H0 Hs H σ ε)(hv:σ[i]?=some (some (.ref a)))(ha:HR a≠none)(t:Top Hs H a x)(e:f (ε.set i (.bo x))=some y)(he:ε[0]?=some (.ow (.ob C ns xs)))(hf:fld∉ns)(hl:ns.length<1000)(q:∀ Hs' H',RD S Hs0 H0 Hs' H' σ (ε.set 0 (.ow (.ob C (ns++[fld]) (xs++[y]))))->Same Hs Hs'->u D σ H'):tSeq (jq K (qh 0) te fld) u D σ H:=by
 refine sa.h e (L.bo rd hv ha t) λw Hs1 H1 x1 r1=>?_;have rd1:=rd.go x1;obtain ⟨p,hp,h0,hs,dx,fs,hH,hk,hr⟩:=rd1.ow 0 _ he;have hf':fld∉fs.map (·.1):=by rw [hk];exact hf
 have hl':fs.length<1000:=by rw [<- yZ (f:=(·.1)),hk];exact hl
 refine ⟨_,hp,p,C,dx,fs,rfl,hH,c.c,n.n,hl',?_⟩;rw [Qq hf'];exact q _ _ (rd1.change he hp ⟨dx,_,v3,by rw [yx,hk];rfl,by rw [yx];exact hr.append (.one r1)⟩) x1.s1
theorem Yw {t:TS}{b:WS}{ε':ME}[s:SemWS t b](rd:RD S Hs0 H0 Hs H σ ε)(e:b ε (λε2=>ε2=ε') λ_ _=>False)(q:∀ Hs' H' σ',RD S Hs0 H0 Hs' H' σ' ε'->Same Hs Hs'->u D σ' H'):tSeq t u D σ H :=
 s.h e rd (λε2 σ2 Hs2 H2 h2 rd2 g2=>by subst h2;exact q Hs2 H2 σ2 rd2 g2) λ_ _ _ _ _ _ z _ _ _=>z.elim
end
theorem RD.junk (rd:RD S Hs0 H0 Hs H σ ε)(h0:H0 b=none)(hs:Hs b=none)(hS:b∉S)(ho:∀(i:Nat)(x:PV),ε[i]?=some (.ow x)->σ[i]?≠some (some (.ref b))):RD S Hs0 H0 Hs (z6 H b o) σ ε:=by
 refine ⟨rd.s1,λc u e hc=>?_,λc u e=>?_,rd.s4,rd.sh,λi x q=>?_,rd.nd,rd.len,rd.pin,λa ha=>?_,rd.str,rd.nb⟩
 ·rw [z7 (w6 e h0)];exact rd.s2 c u e hc
 ·rw [z7 (w6 e hs)];exact rd.s3 _ _ e
 ·obtain ⟨a,ha,m0,m1,t⟩:=rd.ow i x q;exact ⟨a,ha,m0,m1,t.mono (.refl _) λu e=>by
   have hne:a≠b:=λz=>ho i x q (by rw [<- z];exact ha);rw [z7 hne];exact e⟩
 ·by_cases hb:a=b
  ·exact absurd (hb▸ha) hS
  ·rw [z7 hb];exact rd.live a ha
theorem FnOk.or {P:Program}{w:World}{K:Fg}{mg:Str->Option Value}{base:Heap}{CX:CXT}{k:Nat}{f:Addr}{fd:FuncData}{ps:List Str}{sp sp':Sp}(F:FnOk P w K mg base CX k f fd ps sp)(G:FnOk P w K mg base CX k f fd ps sp'):FnOk P w K mg base CX k f fd ps (λvs H Q E=>sp vs H Q E∨sp' vs H Q E) :=
 ⟨λvs H Q E h=>h.elim (F.len vs H Q E) (G.len vs H Q E),λA outer s H args us vs Q E hr he hb hv hs=>hs.elim (F.run A outer s H args us vs Q E hr he hb hv) (G.run A outer s H args us vs Q E hr he hb hv)⟩
def qN (sp sp':Sp):Sp:=λvs H Q E=>sp vs H Q E∨sp' vs H Q E
structure LentA (Hs H HR:Hp)(σ:St)(ε:ME):Prop where
 in1:Same HR H
 un:∀ b,HR b≠none->Hs b=none
 own:∀(i:Nat)(x:PV)(a:Addr),ε[i]?=some (.ow x)->σ[i]?=some (some (.ref a))->HR a=none
theorem LentA.test (L:LentA Hs H HR σ ε)(rd:RD S Hs0 H0 Hs H σ ε){i:Nat}(hv:σ[i]?=some (some v))(rv:Rep (o6 Hs HR) x v):RS (o6 Hs HR) (o6 Hs HR) (o6 Hs HR) H σ (ε.set i (.sh x)):=by
 have s1:Same Hs (o6 Hs HR):=λb o e=>by
  cases h:HR b with
  |none=>rw [vV h];exact e
  |some u=>rw [L.un b (by rw [h];exact λz=>nomatch z)] at e;cases e
 have s2:Same (o6 Hs HR) H:=λb o e=>by
  cases h:HR b with
  |none=>rw [vV h] at e;exact rd.s3 _ _ e
  |some u=>rw [QU h] at e;cases e;exact L.in1 _ _ h
 refine ⟨⟨.refl _,s2,s2,λ_ h z=>absurd z h⟩,λj y q=>?_,λj y q=>?_,λj k y z a h1 h2 h3 h4=>?_,by rw [yw];exact rd.len,λj y q=>?_⟩
 ·rcases zk j _ q with ⟨rfl,e⟩|⟨_,q⟩
  ·cases e;exact ⟨v,hv,rv⟩
  ·obtain ⟨u,hu,ru⟩:=rd.sh j y q;exact ⟨u,hu,ru.mono s1⟩
 ·rcases zk j _ q with ⟨_,e⟩|⟨_,q⟩
  ·cases e
  ·obtain ⟨a,ha,h0,hs,t⟩:=rd.ow j y q;have:o6 Hs HR a=none:=by rw [vV (L.own j y a q ha)];exact hs
   exact ⟨a,ha,this,this,t.mono s1 λo e=>e⟩
 ·rcases zk j _ h1 with ⟨_,e⟩|⟨_,q1⟩
  ·cases e
  ·rcases zk k _ h2 with ⟨_,e⟩|⟨_,q2⟩
   ·cases e
   ·exact rd.nd j k y z a q1 q2 h3 h4
 ·rcases zk j _ q with ⟨_,e⟩|⟨_,q⟩
  ·cases e
  ·exact absurd q (rd.nb j y)
theorem Deep.repIn (d:Deep H0 Hs H a ps)(hin:∀ b∈a::ps.map (·.1),HR b=H b)(e:ls.map (λl=>PV.lst (l.map .at))=ps.map (·.2)):Rep HR (.lst (ls.map λl=> .lst (l.map .at))) (.ref a):=by
 refine rep_lst.mpr ⟨a,ps.map λp=>V.ref p.1,rfl,by rw [hin a yR];exact d.top,?_⟩;rw [e];have main:∀(qs:List (Addr×PV)),(∀ p∈qs,p∈ps)->Reps HR (qs.map (·.2)) (qs.map λp=>V.ref p.1):=by
  intro qs
  induction qs with
  |nil=>intro _;exact .nil
  |cons p qs ih =>
   intro h;have hp:=h p yR;refine .cons ?_ (ih λq hq=>h q (yT _ hq));have m:p.2∈ls.map (λl=>PV.lst (l.map .at)):=by rw [e];exact uR hp
   obtain ⟨l,_,el⟩:=yp.mp m;have t:=d.each p hp;show Rep HR p.2 (V.ref p.1);rw [<- el] at t ⊢;obtain ⟨vs,hv,rv⟩:=t;rw [rv.ats] at hv;exact rep_lst.mpr ⟨p.1,l,rfl,by rw [hin _ (yT _ (uR hp))];exact hv,.ofAts l⟩
 exact main ps λ_ h=>h
def sqP (t:Bool):PV->Option (List PV)
 | .lst xs=>if t then none else some xs
 | .tup xs=>if t then some xs else none
 |_=>none
def dZipT (t u:Bool)(a:MA):MA:=λε=>(a ε).bind λxs=>match xs with
 |[x,y]=>(sqP t x).bind λp=>(sqP u y).map λq=>qX p q
 |_=>none
theorem Jo {φ:Hp->V->Prop}(h:RepB Hs H (.op φ) v):Rep Hs (.op φ) v:=by
 rcases h with h|⟨_,_,_,z⟩
 ·exact h
 ·exact z.elim
end Mi
namespace L2
open PySem PySem.Spec PySem.Calls PyProof.Rows
structure zK (P:Program)(w:World)(K:Fg)(mg:Str->Option Value)(base:Heap)(k:Nat)(C:Addr)(ps:List Str)(sp:Sp):Prop where
 ex:∃ f fd,FnOk P w K mg base (p8 P w) k f fd ps sp/\Mk K C f/\Binds K fd ps []
section
variable {X:Cx}{k j:Nat}{C:Addr}{ps:List Str}{sp:Sp}{x:Str}{p pos:Pos}{e:Expr}{es:List Expr}{t:TA}{E:XK}{σ:St}
theorem Jc (c:zK X.prog X.w X.K X.mg X.base k C ps sp)(hr:Room j X.A)(hj:k+1<=j)(hx:zg (p8 X.prog X.w) X E)(hg:Gl X x)(hm:X.mg x=some (.ref C))(ha:PA X (e::es) t)(hdb:(x==("__debug__":Str))=false:=by decide)(he:starEach (e::es) X.env=(false,eval e X.env)::starEach es X.env:=by rfl)(hpl:(backTo pos (starEach es X.env)).any (·.1)=false:=by rfl):PE X (.Call (.Name x p) (e::es) [] pos) (ju C sp [] E t):=by obtain ⟨f,fd,F,hm',hb⟩:=c.ex;exact YX hm' F (hr.mono hj) hg hm hb .nil hx ha hdb he hpl
theorem Mb {CX:CXT}{f:Addr}{fd:FuncData}{pins:List (Addr×Obj)}{H:Hp}{s:Shared}{Q:VK}{us:List Value}{vs:List V}(M:Mk X.K C f)(F:FnOk X.prog X.w X.K X.mg X.base CX k f fd ps sp)(hr:Room (k+1) X.A){ds:List Value}{dvs:List V}(hb:Binds X.K fd ps ds)(hd:Vals dvs ds)(hx:QM CX X σ E)(I:Inv X pins σ H s)(r:Vals vs us)(h:∀ x dx,H x=none->H dx=none->dx≠x->sp (.ref x::(vs++dvs)) (z6 (z6 H dx (.own x)) x (.ins C dx [])) (λv H2=>v = .non/\Q (.ref x) H2) E):wpAny (model X.prog X.w) X.A (call (.ref C) us) (EP X pins σ Q) X.xe s:=by
 have hq:=h (s.heap.objs.size+1) s.heap.objs.size (I.hok.fresh (uB _)) (I.hok.fresh (yS _)) (yH (ux _));have I2:=Inv.made (C:=C) I;have r2:Vals (V.ref (s.heap.objs.size+1)::(vs++dvs)) (Value.ref (s.heap.objs.size+1)::(us++ds)):= .cons rfl (r.append hd);have hl:(Value.ref (s.heap.objs.size+1)::us++ds).length=ps.length:=by have e:=r2.length;rw [F.len _ _ _ _ hq] at e;exact e.symm
 refine wpAny_call (YG (f:=f) I.kIn M.makes M.init (beq_iff_eq.mp M.fn) (codeAny_mono (F.run _ X.stack _ _ ⟨Value.ref (s.heap.objs.size+1)::us,[]⟩ (Value.ref (s.heap.objs.size+1)::(us++ds)) _ _ E (hr.make C us [])
  (I2.env0.make C us []) (hb _ (Value.ref (s.heap.objs.size+1)::us) I2.kIn hl) r2 hq) λr s' hq'=>?_))
 cases r with
 |error e=>exact hx pins _ _ e s' I2 hq'
 |ok fl =>
  cases fl with
  |ret u=>obtain ⟨v,H',I3,rv,ev,q3⟩:=I2.after hq';subst ev;exact ⟨rv,⟨V.ref (s.heap.objs.size+1),H',I3,rfl,q3⟩⟩
  |next=>exact False.elim hq'
  |brk=>exact False.elim hq'
  |cont=>exact False.elim hq'
theorem Dh (c:zK X.prog X.w X.K X.mg X.base k C ps sp)(hr:Room j X.A)(hj:k+1<=j)(hx:QM (p8 X.prog X.w) X σ E)(hg:Gl X x)(hm:X.mg x=some (.ref C))(ha:PA X (e::es) t)(hdb:(x==("__debug__":Str))=false:=by decide)(he:starEach (e::es) X.env=(false,eval e X.env)::starEach es X.env:=by rfl)(hpl:(backTo pos (starEach es X.env)).any (·.1)=false:=by rfl):PEa X σ (.Call (.Name x p) (e::es) [] pos) (ju C sp [] E t):=by obtain ⟨f,fd,F,M,hb⟩:=c.ex;intro pins s H Q I h;refine wpAny_Call_Name_kw (vj I hg hm ?_ hdb);refine PySem.W.callWith_K (h₀:=X.base) I.ok.mod.kin M.kp (j5 (ha pos pins s σ H _ I h) λus s1 ⟨vs,H1,I1,r,q⟩=>⟨I1.kIn,?_⟩) he hpl;exact Mb M F (hr.mono hj) hb .nil hx I1 r q
end
end L2
namespace Mi
open PySem L2
variable{E:XK}{te:TE}{f:YM}{qual x:Str}{st:Stmt}{fd:FuncData}{N ps:List Str}{R:List PV->PV->Prop}
def EOX (E:XK)(c:Addr)(y:XV)(S:List Addr)(Hs H:Hp):Prop:=∀ Hs' H',Same Hs Hs'->(∀ b o,H b=some o->b∉S->H' b=some o)->Same Hs' H'->(∀ b,H b≠none->Hs b=none->Hs' b=none)->match y with
 |none=>E (.ref c) none H'
 |some p=>∀ dx,H dx=none->H' dx=some (.xd [p])->E (.ref c) (some dx) H'
theorem EOX.ok {c:Addr}{y:XV}{S:List Addr}{Hs0 H0 Hs H:Hp}{σ:St}{ε:ME}(q:EOX E c y S Hs0 H0)(r:RD S Hs0 H0 Hs H σ ε):EOK E c y Hs H:=by
 have live:∀ b,H0 b≠none->H b≠none:=λb hb=>by
  by_cases hS:b∈S
  ·exact r.live b hS
  ·cases z:H0 b with
   |none=>exact absurd z hb
   |some o=>rw [r.s2 b o z hS];exact λw=>nomatch w
 have main:∀ Hs' H',Ext Hs H Hs' H'->_:=λHs' H' x=>q Hs' H' (r.s1.trans x.s1) (λb o e n=>x.s2 _ _ (r.s2 b o e n)) x.s3 (λb hb z=>x.s4 b (live b hb) (r.s4 b hb z));cases y with
 |none=>exact λHs' H' x=>main Hs' H' x
 |some p =>
  refine λHs' H' dx x n h=>main Hs' H' x dx ?_ h;cases z:H0 dx with
  |none=>rfl
  |some o=>exact absurd n (live dx (by rw [z];exact λw=>nomatch w))
class jZ (E:XK)(ts:TS)(f:YM):Prop where
 h:∀{ε c y},f ε c y->∀{S Hs0 H0 Hs H σ},RD S Hs0 H0 Hs H σ ε->EOX E c y S Hs0 H0->∀{D:qu},ts D σ H
instance (priority:=2000){ts:TS}:jZ E ts yNo where
 h:=λh=>h.elim
instance [s:zO E te f]:jZ E (xQ te) (yX f) where
 h:=λh _ _ _ _ _ _ r q _=>s.h h r.rs (q.ok r)
instance {K:Fg}{ta:TE}{n:Str}[s:zO E te f]:jZ E (jq K ta te n) (yX f) where
 h:=λh _ _ _ _ _ _ r q _=>s.h h r.rs (q.ok r)
instance UG {t u:TS}{a:MS}{xa xr:YM}[sa:SemWS t (wPN a)][s1:jZ E t xa][s2:jZ E u xr]:jZ E (tSeq t u) (xn false a xa xr) where
 h:=λ{ε c y} h {S Hs0 H0 Hs H σ} r q {D}=>by
  rcases h with h|⟨ε',e,h⟩
  ·exact s1.h h r q
  ·exact sa.h (N:=λz=>z=ε') (R:=λ_ _=>False) ⟨ε',e,rfl⟩ r (λε2 σ2 Hs2 H2 z r2 _=>by subst z;exact s2.h h r2 q) λ_ _ _ _ _ _ z=>z.elim
def qr (C:Addr)(m:List PV->Option PV)(x:List PV->Addr->XV->Prop):Sp:=λvs H Q E=>∃ Hs p dx xs ws,vs = .ref p::ws/\Same Hs H/\H p=some (.ins C dx [])/\Hs p=none/\Reps Hs xs ws /\
 ((∃ y,m xs=some y/\∀ Hs' H',Same Hs Hs'->(∀ b o,H b=some o->b≠p->H' b=some o)->Same Hs' H'->(∀ b,H b≠none->b≠p->Hs b=none->Hs' b=none)->Rep Hs' y (.ref p)->Q .non H')∨∃ c y,x xs c y/\EOX E c y [p] Hs H)
def Vz (n k:Nat)(C:Addr)(f:YM):List PV->Addr->XV->Prop:=λxs c y=>xs.length+1=k/\f (.ow (.ob C [] [])::xs.map .sh++List.replicate (n-k) .no) c y
section
variable {P:Program}{w:World}{K:Fg}{mg:Str->Option Value}{base:Heap}
theorem okIY {f C:Addr}{k:Nat}{b:MS}{xb:YM}{m:List PV->Option PV}{xr:List PV->Addr->XV->Prop}(F:FunD K x qual st f fd)(S:y6 N ps (j6 st))(hm:m=jF N.length ps.length C b)(hx:xr=Vz N.length ps.length C xb)(hb:∀(cdv:Value)(A:Around)(outer:List Env)(s:Shared)(H:Hp)(E:XK),Room k (A.deeper (PyProof.Rows.envOfC qual (j6 st) s.heap.objs.size f cdv)) -> ∃ t,PSs (qc (p8 P w) P w K mg base N qual (j6 st) f cdv A outer s H E) (c7 st) t/\SemWS t (wPN b)/\jZ E t xb):FnOk P w K mg base (p8 P w) (k+1) f fd ps (qr C m xr):=by
 subst hm hx;obtain ⟨oc,od,dV,kV,doc,pm,an,cdv,ct,osl,rfl,lk,hcd⟩:=F.ex;refine Xe lk hcd S (λvs H Q E h=>?_) λA outer s H vs Q E hr h=>?_
 ·obtain ⟨Hs,p,dx,xs,ws,rfl,_,_,_,r,h⟩:=h;rw [yz,r.length];rcases h with ⟨y,e,_⟩|⟨c,y,h,_⟩
  ·unfold jF at e;split at e
   ·rename_i hl;exact hl
   ·cases e
  ·exact h.1
 ·obtain ⟨Hs,p,dx,xs,ws,rfl,sm,hp,hs,r,h⟩:=h;obtain ⟨t,ht,sem,semx⟩:=hb cdv A outer s H E hr;refine ⟨t,ht,?_⟩;have rd0:=Jm (N:=N) sm hs (y:= .ob C [] []) ⟨dx,[],hp,rfl,.nil⟩ r;rcases h with ⟨y,e,q⟩|⟨c,y,h,q⟩
  ·unfold jF at e;split at e
   ·rename_i hl;obtain ⟨o,eo,e1⟩:=bind_some e;rw [<- hl] at eo;cases o with
    |nx ε' =>
     have e2:(match (ε'[0]?:Option MSlot) with
      |some (.ow y)=>some y
      |_=>none)=some y:=e1
     have z:ε'[0]?=some (.ow y):=by
      split at e2
      ·rename_i z hz;cases e2;exact hz
      ·cases e2
     refine sem.h (N:=λε=>ε=ε') (R:=λ_ _=>False) ⟨ε',eo,rfl⟩ rd0 (λε σ Hs' H' ez rd g=>?_) λ_ _ _ _ _ _ z=>z.elim;subst ez;obtain ⟨a,ha,_,n,tp⟩:=rd.ow 0 y z;rw [rd.pin p (yO.mpr rfl)] at ha;injection ha with ha;injection ha with ha;injection ha with ha;subst ha;obtain ⟨o,ho,ro⟩:=tp.rep n;have g2:Same Hs' (z6 Hs' p o):=λb u e=>by rw [z7 (w6 e n)];exact e
     refine q (z6 Hs' p o) H' (g.trans g2) (λb u e hb=>rd.s2 b u e λw=>hb (yO.mp w)) (λb u e=>?_) (λb hb hbx w=>?_) ro
     ·by_cases hbx:b=p
      ·subst hbx;rw [v3] at e;cases e;exact ho
      ·rw [z7 hbx] at e;exact rd.s3 _ _ e
     ·rw [z7 hbx];exact rd.s4 b hb w
    |rt z=>cases e1
    |bk z=>cases e1
    |ct z=>cases e1
   ·cases e
  ·have h2:=h.2;rw [<- h.1] at h2;exact semx.h h2 rd0 q
end
def spR (R:List PV->PV->Prop):Sp:=λvs H Q _=>∃ Hs xs y,Same Hs H/\Reps Hs xs vs/\R xs y/\∀ v Hs' H',Ext Hs H Hs' H'->Rep Hs' y v->Q v H'
section
variable {P:Program}{w:World}{K:Fg}{mg:Str->Option Value}{base:Heap}
theorem okTR {f:Addr}{k:Nat}{r:RM}(F:Fun K x qual st f fd)(S:y6 N ps (j6 st))(hb:∀(cdv:Value)(A:Around)(outer:List Env)(s:Shared)(H:Hp)(E:XK),Room k (A.deeper (PyProof.Rows.envOfC qual (j6 st) s.heap.objs.size f cdv)) -> ∃ t,PSs (qc v8 P w K mg base N qual (j6 st) f cdv A outer s H E).nox (c7 st) t/\jX false t r):FnOk P w K mg base v8 (k+1) f fd ps (spR (rFn N.length ps.length r)):=by
 refine F.ok S (λvs H Q E h=>?_) (λcdv A outer s H vs Q E hr h=>?_)
 ·obtain ⟨Hs,xs,y,_,r,e,_⟩:=h;rw [r.length];exact e.1
 ·obtain ⟨Hs,xs,y,sm,rr,⟨hl,o,eo,e1⟩,q⟩:=h;obtain ⟨t,ht,sem⟩:=hb cdv A outer s H E hr;refine ⟨t,ht,?_⟩;refine sem.h eo (by rw [<- hl];exact zF sm rr) ?_;cases o with
  |rt z=>have e2:y=z:=e1;subst e2;exact λv Hs' H' x rv=>q v Hs' H' x rv
  |nx ε=>have e2:y = .at .non:=e1;subst e2;exact λHs' H' σ rs=>q _ Hs' H' rs.ext (rep_at.mpr rfl)
  |bk ε=>exact e1.elim
  |ct ε=>exact e1.elim
end
def jS (R:List PV->PV->Prop)(as:WA):W:=λε Q=>as ε λxs ε1=>∃ y,R xs y/\Q y ε1
instance {ta:TA}{as:WA}[sa:jY ta as]:SemW (qO (spR R) [] E ta) (jS R as) where
 h:=λh _ _ _ _ _ _ rd _ k=>sa.h h rd λxs ε1 vs Hs1 H1 h1 rd1 g1 r1=>by
  obtain ⟨y,hR,q⟩:=h1;exact ⟨Hs1,xs,y,rd1.s3,by rw [yC];exact r1,hR,λv Hs' H' x rv=>k y ε1 v Hs' H' q (rd1.go x) (g1.trans x.s1) rv⟩
instance {a:WA}[A:jB a]:xo (jS R a) where h:=λk h=>A.h (λ_ _ ⟨y,r,q⟩=>⟨y,r,k _ _ q⟩) h
end Mi
namespace L2
open PySem PySem.Spec PyProof.Rows PySem.W
variable{H:Hp}
def ExO (c ea:Addr)(dx:Option Addr):Heap->Prop:=λh=>∃(oe:Obj)(vs:Array Value),h.get? ea=some oe/\oe.cls = .ref c/\oe.data = .fields vs/\oe.dict=dx
theorem KS {P:Program}{w:World}{h:Heap}{c ea:Addr}{dx:Option Addr}(x:ExO c ea dx h):ObjOk P w H h ea (.ext (ExO c ea dx)) :=
 ⟨x,let ⟨_,_,q,_⟩:=x;⟨_,q⟩,λ_ _ ⟨oe,vs,q,r⟩ k=>⟨oe,vs,k _ q,r⟩⟩
section
variable {X:Cx}
theorem Inv.trackE {pins:List (Addr×Obj)}{σ:St}{s:Shared}{e:Addr}{φ:Heap->Prop}(I:Inv X pins σ H s)(he:H e=none)(ap:QI X pins e)(ok:ObjOk X.prog X.w (z6 H e (.ext φ)) s.heap e (.ext φ)):Inv X pins σ (z6 H e (.ext φ)) s:=by
 have ne:∀{b:Addr}{u:HO},H b=some u->b≠e:=λz y=>by rw [y,he] at z;cases z
 have up:∀{b:Addr}{u:HO},H b=some u->z6 H e (.ext φ) b=some u:=λz=>by rw [z7 (ne z)];exact z
 refine ⟨I.ok,I.os,I.bare,⟨I.base.keep,I.base.slot,λb o z n hx=>?_,I.base.there,λb xs z=>up (I.base.tups b xs z),λb o u z=>up (I.base.frzs b o u z),λb ps q z=>up (I.base.tbls b ps q z)⟩,I.loc,I.cell,?_,λx c z=>?_,λp hp=>?_,λb u z=>?_,I.len⟩
 ·rw [z7 (λy=>by rw [y,ap.s0] at z;cases z)];exact I.base.free b o z n hx
 ·rw [z7 (Ne.symm ap.loc)];exact I.free
 ·rw [z7 (ap.cel x c z)];exact I.freeC x c z
 ·obtain ⟨h1,h2,h3⟩:=I.pin p hp;exact ⟨h1,by rw [z7 (ap.pin p hp)];exact h2,h3⟩
 ·by_cases hb:b=e
  ·subst hb;rw [v3] at z;cases z;exact ok
  ·rw [z7 hb] at z;exact (I.hok b u z).stay (λ_ _ _ z=>z) (λc z=>up z) (λc xs z=>up z) λc o u z=>up z
def UT (K:Frag)(D0:Addr)(cs:List Addr)(i:Nat)(tb:XK->TS)(ts:Addr->Addr->Option Addr->TS):TS:=λD σ H=>∃ E:XK,(∀ cls dx H',E cls dx H'->∃ c,c∈cs/\cls = .ref c/\exmOne K cls (.ref D0)=some true)/\tb E D σ H /\
 ∀(ea c:Addr)(dx:Option Addr)(H':Hp),E (.ref c) dx H'->H' ea=none->ts ea c dx { nx:=λσ2 H2=>H2 ea=none->D.nx (σ2.set i none) (z6 H2 ea (.ext (ExO c ea dx))),rt:=D.rt,bk:=λσ2 H2=>D.bk (σ2.set i none) H2,ct:=λσ2 H2=>D.ct (σ2.set i none) H2 } (σ.set i (some (.ref ea))) H'
variable {K:Frag}{x n:Str}{i:Nat}{D0:Addr}{cs:List Addr}{body suite:List Stmt}{b₀:Stmt}{tb:XK->TS}{ts:Addr->Addr->Option Addr->TS}{np hpos pos:Pos}
theorem Dz (hK:X.K=K)(hex:X.ex=[])(hst:X.stack=X.env::X.outer)(hf:X.env.frame=some X.env.locals)(hgx:Gl X x)(hmx:X.mg x=some (.ref D0))(hN:X.N.Nodup)(hi:X.N[i]?=some n)(hl:X.env.kindOf n=some .local)(hfn:X.fn n=true)(hb:∀ (E:XK) (σ:St) (pn:List (Addr×Obj)) (W:Value->Shared->Prop),QM (p8 X.prog X.w) (X.tried pn W) σ E->PSsa (X.tried pn W) σ body (tb E))(hs:∀ (pn:List (Addr×Obj)) (ea:Addr) (oe:Obj) (vs:Array Value) (c:Addr) (dx:Option Addr),oe.cls = .ref c->oe.data = .fields vs->oe.dict=dx->c∈cs->(ea,oe)∈pn->PSs (X.suite pn ea) (b₀::suite) (ts ea c dx))(hd:(x==("__debug__":Str))=false:=by decide):PS X (.Try body [.ExceptHandler (some (.Name x np)) (some n) (b₀::suite) hpos] [] [] pos) (UT K D0 cs i tb ts):=by
 subst hK;intro pins s σ H D I h;obtain ⟨E,hm,h1,h2⟩:=h
 let W:Value->Shared->Prop:=λe s'=>∃(H' H1:Hp)(s1:Shared)(ea:Addr)(cls:Value)(dx:Option Addr),e = .ref ea/\Inv X pins σ H' s'/\Fly2 s1.heap s'.heap H' ea cls dx/\Inv X pins σ H1 s1/\E cls dx H'
 have ps:QM (p8 X.prog X.w) (X.tried (X.pn++pins) W) σ E:=by intro p2 H1 s1 e s' I1 q;obtain ⟨ea,cls,dx,H',rfl,os,bare,un,hok,F,q⟩:=q;have I0:Inv X pins σ H1 s1:=I1.untried I.ok;exact ⟨H',H1,s1,ea,cls,dx,rfl,I0.call' (ch:=[]) os un hok bare (λb z=>nomatch z),F,I0,q⟩
 refine wpAny_Try_except (wpAny_mono (hb E σ _ W ps [] s H D (I.tried W) h1) (λf s1 q=>?_) λe s1 q=>?_)
 ·have q':=SP.untried I.ok q;cases f with
  |next=>exact wpAny_execs_nil q'
  |brk=>exact q'
  |cont=>exact q'
  |ret u=>exact q'
 obtain ⟨H',H1,s0,ea,cls,dx,rfl,I',F,I0,q⟩:=q;obtain ⟨c,hcs,rfl,hexm⟩:=hm cls dx H' q;have fr:=I'.stack;obtain ⟨T,a0,eT,e10,e11,_,fl⟩:=F.hid fr;have e12:=F.free;have apE:=I0.apart hex F.new;have apT:=I0.apart hex e11;have hS:∀ c∈[ea,T],H' c=none/\QI X pins c:=λc hc=>by
  have z:c=ea∨c=T:=by simpa using hc
  rcases z with rfl|rfl
  ·exact ⟨e12,apE⟩
  ·exact ⟨e10,apT⟩
 have fr':X.A.frames=some (X.env::X.outer):=by rw [<- hst];exact I'.ok.frames
 rw [hst] at fl;refine YJ (outer:=X.outer) fr' hf fl λh4 F4 up4=>Xs F4 λh5 F5 up5=>?_;rw [<- hst] at F5;have up45:=Heap.UpToSlots.trans up4 up5;have K5:vM ([ea,T]++b9 X.stack) X.stack s1.heap h5:=UK fr (by rw [hst] at F5 ⊢;exact F5.st) up45;have I5:=I'.flown hf hst hS K5;obtain ⟨oe5,vs5,T5,oT5,ts5,g1,g2,g2',g3,g4,gR⟩:=F5.ex;have J5:=I5.suite g1 e12 apE.loc apE.fs (λv z=>by rw [g4] at z;cases z);refine wpAny_handleBy_cons (codeAny_handlers_test (vj J5 hgx hmx ?_ hd)) (by intro z;cases z);have LT:Looks (model X.prog X.w) h5 (typeOf (.ref ea)) (.ref c):=g2▸(Looks.ld g1).andThen .now;refine (exm_one I5.kIn LT hexm).here ?_;refine codeAny_handlers_suite_as (Xs F5 λh6 F6 up6=>?_);have K6:vM ([ea,T]++b9 X.stack) X.stack s1.heap h6:=UK fr (by rw [hst] at F6 ⊢;exact F6.st) (Heap.UpToSlots.trans up45 up6);have I6:=I'.flown hf hst hS K6;obtain ⟨oe6,vs6,T6,oT6,ts6,k1,k2,k2',k3,k4,kR⟩:=F6.ex;have J6:=I6.suite k1 e12 apE.loc apE.fs (λv z=>by rw [k4] at z;cases z);refine Vi (X:=X.suite (X.pn++pins++[(ea,oe6)]) ea) J6 hN hi (.inl hl) (v:= .ref ea) rfl (λs7 I7=>?_) (.inl hfn);have hrun:=hs _ ea oe6 vs6 c oe6.dict k2 k4 rfl hcs (yy _ (by simp)) [] s7 _ H' _ I7 (by rw [k2'];exact h2 ea c dx H' q e12);refine wpAny_mono hrun (λf s8 q8=>?_) (λ_ _ z=>z.elim);cases f with
 |next=>obtain ⟨σ8,H8,I8,q⟩:=q8;obtain ⟨p1,p2,_⟩:=I8.pin (ea,oe6) (yg _ (yy _ (by simp)));exact Inv.goes ((I8.unsuite I.ok).trackE p2 apE (KS ⟨oe6,vs6,p1,k2,k4,k2'⟩)) hN hi hl λs9 I9=>⟨_,_,I9,q p2⟩
 |brk=>obtain ⟨σ8,H8,I8,q⟩:=q8;exact Inv.goes (I8.unsuite I.ok) hN hi hl λs9 I9=>⟨_,_,I9,q⟩
 |cont=>obtain ⟨σ8,H8,I8,q⟩:=q8;exact Inv.goes (I8.unsuite I.ok) hN hi hl λs9 I9=>⟨_,_,I9,q⟩
 |ret u=>obtain ⟨v,σ8,H8,I8,r,q⟩:=q8;exact Inv.goes (I8.unsuite I.ok) hN hi hl λs9 I9=>⟨v,_,_,I9,r,q⟩
theorem Kf (hK:X.K=K)(T:∀ c∈cs,qS K c):CallR X (.builtin "isinstance") (λxs H Q=>∃ (ea c:Addr) (dx:Option Addr) (v:V) (d:Value) (b:Bool),xs=[.ref ea,v]/\c∈cs/\H ea=some (.ext (ExO c ea dx))/\(∀ u,RelV v u->u=d)/\kitOne K (.ref c) d=some b/\Q (.bl b) H):=by subst hK;intro pins s σ H xs us Q I r h;obtain ⟨ea,c,dx,v,d,b,rfl,hc,hH,hd,e,q⟩:=h;obtain ⟨u,w',rfl,rx,rw'⟩:=Vs r;obtain rfl:u=Value.ref ea:=rx;obtain rfl:=hd w' rw';obtain ⟨⟨oe,vs,z,hcl,_⟩,_⟩:=(show ObjOk X.prog X.w H s.heap ea (.ext (ExO c ea dx)) from I.hok ea _ hH);exact kia_one (Ys (T c hc)) I.kIn ⟨oe,z,hcl⟩ e (λz=>nomatch z) λtk=>⟨.bl b,H,I.tok _,rfl,q⟩
theorem Kg (hK:X.K=K)(T:∀ c∈cs,qS K c):CallR X (.builtin "isinstance") (λxs H Q=>∃ (ea c:Addr) (dx:Option Addr) (t:Addr) (vs:List V) (ds:List Value) (b:Bool),xs=[.ref ea,.ref t]/\c∈cs/\H ea=some (.ext (ExO c ea dx))/\H t=some (.tup vs)/\(∀ us,Vals vs us->us=ds)/\kitAny K (.ref c) ds=some b/\Q (.bl b) H):=by
 subst hK;intro pins s σ H xs us Q I r h;obtain ⟨ea,c,dx,t,vs,ds,b,rfl,hc,hH,ht,hd,e,q⟩:=h;obtain ⟨u,w',rfl,rx,rw'⟩:=Vs r;obtain rfl:u=Value.ref ea:=rx;obtain rfl:w'=Value.ref t:=rw';obtain ⟨⟨oe,_,z,hcl,_⟩,_⟩:=(show ObjOk X.prog X.w H s.heap ea (.ext (ExO c ea dx)) from I.hok ea _ hH);obtain ⟨_,its,rv,⟨⟨ocl,odd,oda,osl⟩,ho,hoc,n,hod⟩⟩:=(show ObjOk X.prog X.w H s.heap t (.tup vs) from I.hok t _ ht);obtain rfl:=hd its rv
 dsimp only at hoc hod
 subst hoc hod;exact kia_tup (Ys (T c hc)) I.kIn ⟨oe,z,hcl⟩ ho e (λz=>nomatch z) λtk=>⟨.bl b,H,I.tok _,rfl,q⟩
end
end L2
namespace L2
open PySem PySem.Spec PyProof.Rows
def jo (x:Str)(k:Nat):Str:=⟨(List.replicate k x.cps).foldl (·++·) #[]⟩
theorem DV (x:Str):jo x 1=x:=by show (⟨#[]++x.cps⟩:Str)=x;rw [Array.empty_append]
theorem Yg (a:Array Nat):∀(k:Nat)(acc:Array Nat),((List.replicate k a).foldl (·++·) acc).size=acc.size+k*a.size
 |0,acc=>by simp
 |k+1,acc=>by
  rw [uV,List.foldl_cons,Yg a k,Array.size_append,Nat.succ_mul];omega
theorem DU (x:Str)(k:Nat):(jo x k).length=k*x.length:=by show ((List.replicate k x.cps).foldl (·++·) #[]).size=_;rw [Yg];show 0+_=_;rw [Nat.zero_add];rfl
section
variable {X:Cx}
def Uo:R2:=λx y H Q=>∃(i:Str)(k:Int),x = .str i/\y = .int k/\1<=k/\k<=1000/\1<=i.length/\i.length<=1000/\Q (.str (jo i k.toNat)) H
theorem CK:OpR X (binaryOp .Mult) Uo:=by
 intro pins s σ H x y v u Q I rx ry h;obtain ⟨i,k,rfl,rfl,k1,k2,i1,i2,q⟩:=h;obtain ⟨t,rfl⟩:=rx;obtain ⟨t',rfl⟩:=ry;refine PySem.P.mul_str (by rw [yL (by omega),yL (by omega)];rfl) (λ_ _=>?_) (λ_ _=>?_) ?_
 ·have h:(1000:Int)<=(2 ^ 63-1:Int) / k:=Int.le_ediv_of_mul_le (by omega) (by omega);omega
 ·unfold PySem.Builtin.Str.tooLong;have:i.length*k.toNat<=1000*1000:=Nat.mul_le_mul i2 (by omega);have hs:sizeLine=16777216:=sizeLine_eq;exact yL (by omega)
 ·rw [if_neg (by omega)];by_cases h1:k=1
  ·subst h1;rw [if_pos (by simp)];exact ⟨.str i,H,I,⟨t,rfl⟩,by rw [show (1:Int).toNat=1 from rfl,DV] at q;exact q⟩
  ·rw [if_neg (by simp [h1];intro z;rw [z] at i1;cases i1)];refine ⟨?_,.str (jo i k.toNat),H,I.tok _,⟨_,rfl⟩,q⟩;have:i.length*k.toNat<=1000*1000:=Nat.mul_le_mul i2 (by omega);have hs:sizeLine=16777216:=sizeLine_eq;have e:(jo i k.toNat).length=k.toNat*i.length:=DU i k.toNat;have e2:k.toNat*i.length=i.length*k.toNat:=Nat.mul_comm _ _;show (jo i k.toNat).length<=sizeLine;omega
end
end L2
namespace Mi
open PySem L2
variable{c ea:Addr}{dx:Option Addr}
def Xx:PV->PV->Option PV
 | .at (.str i),.at (.int k)=>if 1<=k/\k<=1000/\1<=i.length/\i.length<=1000 then some (.at (.str (jo i k.toNat))) else none
 |_,_=>none
instance:SemR Uo Xx where
 h:=λ{x y z} e {Hs H v w} s a b {Q} q=>by
  unfold Xx at e;split at e
  ·split at e
   ·rename_i i k hl;cases e;cases u5 a;cases u5 b;exact ⟨i,k,rfl,rfl,hl.1,hl.2.1,hl.2.2.1,hl.2.2.2,q _ _ _ (.refl s) (rep_at.mpr rfl)⟩
   ·cases e
  ·cases e
instance {E:XK}{te:TE}{ts:TA}{f:YM}[s:zO E te f]:zO E (tTup (qR te ts)) f where
 h:=λz _ _ _ _ _ rs q _=>s.h z rs q
def exW (ea c:Addr)(dx:Option Addr):Hp->V->Prop:=λH v=>v = .ref ea/\H ea=some (.ext (ExO c ea dx))
theorem Jp {Hs:Hp}{v:V}(h:Rep Hs (.op (exW ea c dx)) v):v = .ref ea/\Hs ea=some (.ext (ExO c ea dx)):=by obtain ⟨H',s,e,h⟩:=rep_op.mp h;exact ⟨e,s _ _ h⟩
variable {fr:Bool}
def Ur (K:Fg)(D0:Addr)(cs:List Addr)(i j:Nat)(b:MS)(xb:YM)(r1:Addr->Addr->Option Addr->RM):RM:=λε o=>(∃ ε1 ea c dx,b ε=some (.nx ε1)/\r1 ea c dx ε1 o)∨∃ c y,c∈cs/\PySem.W.exmOne K (.ref c) (.ref D0)=some true/\xb ε c y/\i<ε.length/\∀(ea:Addr)(dx:Option Addr),r1 ea c dx (((ε.set i (.sh (.at (.ref ea)))).set j (.sh (.op (exW ea c dx)))).set i .no) o
instance {K:Fg}{D0:Addr}{cs:List Addr}{i j:Nat}{tb:XK->TS}{tr:TS}{b:MS}{xb:YM}{r1:Addr->Addr->Option Addr->RM}[sb:∀ E,c9 fr (tb E) b][sx:∀ E,VH E (tb E) xb][s1:∀ ea c dx,jX fr tr (r1 ea c dx)]:jX fr (tSeq (UT K D0 cs i tb λ_ _ _=>xl (qh i) (qC j)) tr) (Ur K D0 cs i j b xb r1) where
 h:=λ{ε o} h Hs0 H0 Hs H σ rs D q=>by
  rcases h with ⟨ε1,ea,c,dx,h1,h2⟩|⟨c,y,hc,hm,hx,hi,hs⟩
  ·exact ⟨E0,λ_ _ _ z=>z.elim,(sb E0).h h1 rs λHs1 H1 σ1 r1=>(s1 ea c dx).h h2 r1 q,λ_ _ _ _ z=>z.elim⟩
  ·refine ⟨λcls dx H'=>cls = .ref c/\∃ Hs',Ext Hs H Hs' H',λcls dx H' z=>⟨c,hc,z.1,by rw [z.1];exact hm⟩,(sx _).h hx rs ?_,λea c' dx H' z hn=>?_⟩
   ·cases y with
    |none=>exact λHs' H' x=>⟨rfl,Hs',x⟩
    |some p=>exact λHs' H' d x n h=>⟨rfl,Hs',x⟩
   ·obtain ⟨z1,Hs',x⟩:=z;cases z1;have ra:Rep Hs' (.at (.ref ea)) (.ref ea):=rep_at.mpr rfl;have r1':=((rs.go x).put (i:=i) (x:= .at (.ref ea)) (v:= .ref ea) ra);obtain ⟨v,hv,rv⟩:=r1'.sh i _ (uX hi);cases rep_at.mp rv;have r2:=r1'.put (i:=j) (x:= .at (.ref ea)) (v:= .ref ea) ra;have r4:=(r2.go (Ext.new (o:= .ext (ExO c ea dx)) r2.sub hn)).put (i:=j) (x:= .op (exW ea c dx)) (v:= .ref ea) (rep_op.mpr ⟨_,.refl _,rfl,v3⟩);rw [List.set_set,List.set_set] at r4;exact ⟨_,hv,λ_=>(s1 ea c dx).h (hs ea dx) (r4.drop i) q⟩
open Classical in
noncomputable def wy (ea c:Addr)(dx:Option Addr):PV->PV->Option PV:=λx y=>if x = .op (exW ea c dx)/\y = .at .non then some (.at (.bl false)) else wx x y
instance :SemR rIsN (wy ea c dx) where
 h:=λ{x y z} e {Hs H v w} s a b {Q} q=>by
  unfold wy at e;split at e
  ·rename_i hx;obtain ⟨rfl,rfl⟩:=hx;cases e;cases u5 b;obtain ⟨rfl,_⟩:=Jp (Jo a);exact ⟨rfl,q _ _ _ (.refl s) (rep_at.mpr rfl)⟩
  ·exact SemR.h (r:=rIsN) (g:=wx) e s a b q
end Mi
namespace L2
open PySem PySem.Spec PyProof.Rows
section
variable {X:Cx}{K:Fg}
def Ui (K:Fg):V->List V->Hp->VK->Prop:=λo vs H Q=>∃ p xs x,o = .ref p/\vs=[x]/\SqL K H p xs/\y9 x=true/\xs.all y9=true/\Q (.int (xs.countP λy=>t9 y x:Nat)) H
theorem WL {x:V}:∀{xs:List V}{us:List Value},Vals xs us->xs.all y9=true->us.countP (eqU x)=xs.countP λy=>t9 y x
 |_,_,.nil,_=>rfl
 |z::xs,u::us,.cons r t,f=>by
  rw [List.all_cons,yt] at f;rw [List.countP_cons,List.countP_cons,WL t f.2,Zq r f.1]
theorem Pr (hK:X.K=K):MtM X "list.count" (Ui K):=by
 subst hK;intro pins s σ H o vs v us Q I ro rv h;obtain ⟨p,xs,x,rfl,rfl,hq,fx,fs,q⟩:=h;cases ro;obtain ⟨u,rfl,ru⟩:=rv.one;obtain ⟨its,r,⟨⟨cls,dd,data,sl⟩,n,ho,hc,hd,hs⟩,hz⟩:=I.list hq;simp only at hc hd hs;subst hc hd hs;refine call_meets F.slot_list_count ⟨_,ho,rfl⟩ F.entry_list_count (F.args_list_count_2 _ _)
  (SeqAt.list_countAt p its.toArray n none sl u (eqU x)) ⟨ho,λw hw=>ZO ru fx r fs w (by simpa using hw),?_⟩
 refine ⟨.int (xs.countP λy=>t9 y x:Nat),H,I.kept (t':=s.toks+1) λb o e=>e,⟨s.toks,?_⟩,q⟩;rw [<- WL r fs]
end
end L2
namespace Mi
open PySem L2
variable{K:Fg}{X:Cx}{cs:List Addr}{c ea:Addr}{dx:Option Addr}
def Zl (a b:M):M:=λε=>(a ε).bind λx=>(b ε).bind λy=>match x,y with
 | .lst xs,.at u=>(ats xs).bind λus=>if y9 u=true/\us.all y9=true then some (.at (.int (us.countP λy=>t9 y u:Nat))) else none
 |_,_=>none
instance {to te:TE}{a b:M}[sa:i7 to a][sb:SemE te b]:SemE (tBM K "list" (Ui K) to (qR te xD)) (Zl a b) where
 h:=λe _ _ _ _ _ rs _ q=>by
  obtain ⟨x,ex,e⟩:=bind_some e;obtain ⟨y,ey,e⟩:=bind_some e;split at e
  ·rename_i xs u;obtain ⟨us,eu,e⟩:=bind_some e;split at e
   ·rename_i hf;cases e;refine sa.h ex rs λv Hs1 H1 x1 r1=>?_;obtain ⟨p,vs,rfl,e1,r2⟩:=o4 x1.s3 r1;rw [QR eu] at r2;cases r2.ats;refine ⟨.inl ⟨rfl,_,SqL.of e1⟩,sb.h ey (rs.go x1) λw Hs2 H2 x2 r3=>?_⟩;cases rep_at.mp r3;exact ⟨p,us,_,rfl,rfl,SqL.of (x2.s2 _ _ e1),hf.1,hf.2,q _ _ _ (x1.trans x2) (rep_at.mpr rfl)⟩
   ·cases e
  ·cases e
def rIsk (K:Fg)(cs:List Addr):List V->Hp->VK->Prop:=λxs H Q=>∃(ea c:Addr)(dx:Option Addr)(v:V)(d:Value)(b:Bool),xs=[.ref ea,v]/\c∈cs/\H ea=some (.ext (ExO c ea dx))/\(∀ u,RelV v u->u=d)/\PySem.W.kitOne K (.ref c) d=some b/\Q (.bl b) H
def Ul (K:Fg)(cs:List Addr):List V->Hp->VK->Prop:=λxs H Q=>∃(ea c:Addr)(dx:Option Addr)(t:Addr)(vs:List V)(ds:List Value)(b:Bool),xs=[.ref ea,.ref t]/\c∈cs/\H ea=some (.ext (ExO c ea dx))/\H t=some (.tup vs)/\(∀ us,Vals vs us->us=ds)/\PySem.W.kitAny K (.ref c) ds=some b/\Q (.bl b) H
theorem Zg (hK:X.K=K)(T:∀ c∈cs,qS K c):CallR X (.builtin "isinstance") (rIsk K cs):=Kf hK T
theorem Kh (hK:X.K=K)(T:∀ c∈cs,qS K c):CallR X (.builtin "isinstance") (Ul K cs):=Kg hK T
open Classical in
noncomputable def vw (K:Fg)(cs:List Addr)(ea c:Addr)(dx:Option Addr):List PV->Option PV
 |[x,.at v]=>if x = .op (exW ea c dx)/\c∈cs then (i6 v).bind λd=>(PySem.W.kitOne K (.ref c) d).bind λb=>some (.at (.bl b)) else none
 |_=>none
open Classical in
noncomputable def Ql (K:Fg)(cs:List Addr)(ea c:Addr)(dx:Option Addr):List PV->Option PV
 |[x,.tup ys]=>if x = .op (exW ea c dx)/\c∈cs then (ats ys).bind λvs=>(QC vs).bind λds=>(PySem.W.kitAny K (.ref c) ds).bind λb=>some (.at (.bl b)) else none
 |_=>none
instance :jW (rIsk K cs) (vw K cs ea c dx) where
 h:=λ{xs z} e {Hs H vs} s r {Q} q=>by
  unfold vw at e;split at e
  ·split at e
   ·rename_i hx;obtain ⟨rfl,hc⟩:=hx;obtain ⟨d,e1,e⟩:=bind_some e;obtain ⟨b,e2,e⟩:=bind_some e;cases e;obtain ⟨v,w,rfl,a,c'⟩:=Jq r;obtain ⟨rfl,h1⟩:=Jp (Jo a);cases u5 c';exact ⟨ea,c,dx,_,d,b,rfl,hc,s _ _ h1,Gf e1,e2,q _ _ _ (.refl s) (rep_at.mpr rfl)⟩
   ·cases e
  ·cases e
instance :jW (Ul K cs) (Ql K cs ea c dx) where
 h:=λ{xs z} e {Hs H vs} s r {Q} q=>by
  unfold Ql at e;split at e
  ·split at e
   ·rename_i hx;obtain ⟨rfl,hc⟩:=hx;obtain ⟨us,e0,e⟩:=bind_some e;obtain ⟨ds,e1,e⟩:=bind_some e;obtain ⟨b,e2,e⟩:=bind_some e;cases e;obtain ⟨v,w,rfl,a,c'⟩:=Jq r;obtain ⟨rfl,h1⟩:=Jp (Jo a);obtain ⟨p,ws,rfl,hp,rt⟩:=xk s c';rw [QR e0] at rt;cases rt.ats;exact ⟨ea,c,dx,p,_,ds,b,rfl,hc,s _ _ h1,hp,Gg e1,e2,q _ _ _ (.refl s) (rep_at.mpr rfl)⟩
   ·cases e
  ·cases e
end Mi
namespace Mi
open PySem L2
variable{j n:Nat}{ts:List Nat}{it:MA}{g:MG}{c:MB}{f m x:M}
theorem Tops.shareG {Hs H Hs':Hp}{b:Addr}{l':List PV}{vs:List V}(s1:Same Hs Hs')(hx:Reps Hs l' vs):∀{as:List Addr}{ls:List (List PV)},Tops Hs H as (ls.map .lst)->as.Nodup->as[j]?=some b->(∀ a∈as,Hs' a=if a=b then some (.lst vs) else H a) -> Reps Hs' ((ls.set j l').map .lst) (as.map V.ref):=by
 have no:∀{as:List Addr}{ls:List (List PV)},Tops Hs H as (ls.map .lst)->b∉as->(∀ a∈as,Hs' a=if a=b then some (.lst vs) else H a)->Reps Hs' (ls.map .lst) (as.map V.ref):=by
  intro as
  induction as with
  |nil =>
   intro ls t _ _;cases ls with
   |nil=>exact .nil
   |cons _ _=>exact t.elim
  |cons a as ih =>
   intro ls t nb h;cases ls with
   |nil=>exact t.elim
   |cons l ls=>obtain ⟨⟨ws,h1,h2⟩,t2⟩:=t;have ab:a≠b:=λz=>nb (z▸yR);refine .cons (rep_lst.mpr ⟨a,ws,rfl,?_,h2.mono s1⟩) (ih t2 (λz=>nb (yT _ z)) λc hc=>h c (yT _ hc));rw [h a yR,if_neg ab];exact h1
 intro as
 induction as generalizing j with
 |nil=>intro ls t _ e;simp at e
 |cons a as ih =>
  intro ls t nd e h;cases ls with
  |nil=>exact t.elim
  |cons l ls =>
   obtain ⟨⟨ws,h1,h2⟩,t2⟩:=t;obtain ⟨na,nd2⟩:=yk.mp nd;cases j with
   |zero=>obtain rfl:a=b:=Option.some.inj e;refine .cons (rep_lst.mpr ⟨a,_,rfl,?_,hx.mono s1⟩) (no t2 na λc hc=>h c (yT _ hc));rw [h a yR,if_pos rfl]
   |succ j =>
    have e':as[j]?=some b:=by simpa using e
    have ab:a≠b:=λz=>na (z▸uT e');refine .cons (rep_lst.mpr ⟨a,ws,rfl,?_,h2.mono s1⟩) (ih t2 nd2 e' λc hc=>h c (yT _ hc));rw [h a yR,if_neg ab];exact h1
def wb (i:Nat)(cap:List (Option Nat))(ts:List Nat)(it:MA)(g:MG)(c:MB)(f k m x:M):MS:=λε=>(it ε).bind λxs=>if xt cap ts=true/\xs.length<=lim/\i<ε.length then (i8 g c f (p6 cap ε) xs).bind λys=>(wo ys).bind λls=>(k (ε.set i .no)).bind λkv=>match kv with
 | .at (.int n)=>(m (ε.set i .no)).bind λmv=>match mv with
  | .at (.int j)=>(x (ε.set i .no)).bind λy=>if 0<=n/\n<ls.length then (Qt (ls.getD n.toNat []) j y).bind λl=>some (.nx (ε.set i (.ow (.lst ((ls.set n.toNat l).map .lst))))) else none
  |_=>none
 |_=>none else none
variable {fr:Bool}
instance (priority:=2000){K:Fg}{wi:TI}{tg:TG}{tt:TT}{te tk tm tx:TE}{cap:List (Option Nat)}{k:M}{u:TS}{r:MS}[si:zh wi it][sg:zN tg ts g][sc:qk tt c][sf:xp te f][sk:SemE tk k][sm:SemE tm m][sx:SemE tx x][sr:c9 fr u r]:c9 fr (tSeq (xl (vH wi tg tt te cap) (qC n)) (tSeq (xl tx (gSub (tOp (rIx K) (qh n) tk) tm Jk)) u)) (u6 (wb n cap ts it g c f k m x) r) where
 h:=λ{ε o} e Hs0 H0 Hs H σ rs D q=>by
  obtain ⟨o1,e1,e2⟩:=bind_some e;unfold wb at e1;obtain ⟨xs,ex,e1⟩:=bind_some e1;split at e1
  rotate_left
  ·cases e1
  rename_i hcl;obtain ⟨hcap,hl,hn⟩:=hcl;unfold xt at hcap;rw [yt] at hcap;obtain ⟨ys,ey,e1⟩:=bind_some e1;obtain ⟨ls,el,e1⟩:=bind_some e1;obtain ⟨kv,ek,e1⟩:=bind_some e1;split at e1
  rotate_left
  ·cases e1
  rename_i kk;obtain ⟨mv,em,e1⟩:=bind_some e1;split at e1
  rotate_left
  ·cases e1
  rename_i mm;obtain ⟨y,exx,e1⟩:=bind_some e1;split at e1
  rotate_left
  ·cases e1
  rename_i hk;obtain ⟨k0,k1⟩:=hk;obtain ⟨l',el',e1⟩:=bind_some e1;cases e1;cases YD el;refine si.h ex rs λJ Hs1 H1 x1 ok=>?_;have rc:=((rs.go x1).cap (yi hcap.1)).rebase;have wk:∀ i∈ts,(u8 cap σ)[i]?=some none:=λi hi=>by
   unfold u8;rw [yN,yi (uY.mp hcap.2 i hi)];rfl
  refine ⟨λk m zs H=>m=xs.length-k/\k<=xs.length/\∃ Hs2 as ws,zs=as.map V.ref/\Ext Hs1 H1 Hs2 H/\RS Hs1 H0 Hs2 H (u8 cap σ) (p6 cap _)/\Tops Hs2 H as ws/\as.Nodup/\(∀ b∈as,H1 b=none/\Hs2 b=none)/\as.length<=k/\∃ rest,i8 g c f (p6 cap _) (xs.drop k)=some rest/\ls.map PV.lst=ws++rest,
   ⟨xs.length,by simp,uZ _,Hs1,[],[],rfl,.refl x1.s3,rc,trivial,.nil,(λ_ z=>nomatch z),yS _,_,ey,rfl⟩,?_⟩
  rintro k m zs H2 ⟨rfl,hk,Hs2,as,ws,rfl,x2,r2,tp,nd,nw,hw,rest,er,eys⟩;refine ⟨xg (by rw [yZ];omega),?_⟩;by_cases hlt:k<xs.length
  ·have hd:xs.drop k=xs[k]::xs.drop (k+1):=yf hlt;rw [hd] at er;unfold i8 at er;obtain ⟨ε1,eg,er1⟩:=bind_some er;obtain ⟨b,eb,er2⟩:=bind_some er1;obtain ⟨go,yl⟩:=ok.go k xs[k] Hs2 H2 (by simp [hlt]) x2.s1 x2.s3;refine .inr ⟨go,λv H3 y=>?_⟩;obtain ⟨Hs3,x3,r3⟩:=yl v H3 y;refine sg.h eg (r2.go x3) r3 λσ2 rs2 bt=>⟨bt.wk wk,sc.h eb rs2 λHs4 H4 x4=>?_⟩;cases b with
   |true =>
    rw [if_pos rfl] at er2;obtain ⟨z,ez,er3⟩:=bind_some er2;obtain ⟨rest',er4,er5⟩:=bind_some er3;cases er5;refine xc (sf.h ez (rs2.go x4) λa Hs5 H5 x5 na ns t5=>⟨xs.length-(k+1),by omega,rfl,hlt,Hs5,as++[a],ws++[z],by rw [yx];rfl,x2.trans (x3.trans (x4.trans x5)),((r2.go x3).go x4).go x5,(tp.mono (x3.s1.trans (x4.s1.trans x5.s1)) (x3.s2.trans (x4.s2.trans x5.s2))).snoc t5,?_,?_,?_,rest',er4,?_⟩)
    ·refine List.nodup_append.mpr ⟨nd,by simp,λb hb c hc z=>?_⟩;rw [yO.mp hc] at z;subst z;exact wF (x3.s2.trans x4.s2) (tp.mem hb) na
    ·intro b hb;rcases yB.mp hb with hb|hb
     ·exact ⟨(nw b hb).1,(x3.trans (x4.trans x5)).s4 b (tp.mem hb) (nw b hb).2⟩
     ·rw [yO.mp hb];exact ⟨(x2.s2.trans (x3.s2.trans x4.s2)).free na,ns⟩
    ·rw [yD];simp;omega
    ·rw [uS];exact eys
   |false=>rw [if_neg yV] at er2;exact qI ⟨xs.length-(k+1),by omega,rfl,hlt,Hs4,as,ws,rfl,x2.trans (x3.trans x4),(r2.go x3).go x4,tp.mono (x3.s1.trans x4.s1) (x3.s2.trans x4.s2),nd,λb hb=>⟨(nw b hb).1,(x3.trans x4).s4 b (tp.mem hb) (nw b hb).2⟩,by omega,rest,er2,eys⟩
  ·have ek':k=xs.length:=by omega
   subst ek';rw [uO] at er;unfold i8 at er;cases er;refine .inl ⟨ok.stop Hs2 H2 x2.s1 x2.s3,λF hF=>?_⟩;rw [yC] at eys;subst eys;have x12:=x1.trans x2;have xF:Ext Hs2 H2 Hs2 (z6 H2 F (.lst (as.map V.ref))):= .newO x2.s3 hF;have hFl:z6 H2 F (.lst (as.map V.ref)) F=some (.lst (as.map V.ref)):=v3;generalize z6 H2 F (.lst (as.map V.ref))=H3 at xF hFl ⊢;have rs1:=(rs.go (x12.trans xF)).hide n (some (.ref F));have hnσ:(σ.set n (some (V.ref F)))[n]?=some (some (.ref F)):=uX (by rw [rs.len];exact hn);obtain ⟨l,hj⟩:∃ l,ls[kk.toNat]?=some l:=⟨_,yA (by omega)⟩;have gl:ls.getD kk.toNat []=l:=by rw [yb,hj];rfl
   obtain ⟨b,hb,vs,hv,rv⟩:=tp.at hj;have bm:=uT hb;have bF:b≠F:=λz=>by rw [z,hF] at hv;cases hv
   refine sx.h exx rs1 λv Hs3 H4 x3 r4=>?_;refine ⟨_,hnσ,sk.h ek (rs1.go x3) λw Hs3' H4' x3' r3=>?_⟩;have ev:w = .int kk:=rep_at.mp r3;subst ev;have h4F:=x3'.s2 _ _ (x3.s2 _ _ hFl);have h4b:=x3'.s2 _ _ (x3.s2 _ _ (xF.s2 _ _ hv));refine .inl ⟨F,as.map V.ref,kk,.ref b,rfl,rfl,SqL.of h4F,?_,sm.h em ((rs1.go x3).go x3') λw2 Hs4 H5 x4 r5=>?_⟩
   ·have:kk=((kk.toNat:Nat):Int):=by omega
    rw [this];exact jD (by rw [yN,hb];rfl)
   have ew:w2 = .int mm:=rep_at.mp r5;subst ew;have h5F:=x4.s2 _ _ h4F;have h5b:=x4.s2 _ _ h4b;rw [gl] at el';have x36:=x3.trans (x3'.trans x4);obtain ⟨j',hj',rv'⟩:=MN (H:=Hs4) el' (rv.mono (xF.s1.trans x36.s1)) (r4.mono (x3'.s1.trans x4.s1));refine ⟨b,vs,mm,j',rfl,rfl,h5b,hj',?_⟩;have x25:=xF.trans x36;have xA:=x12.trans x25;have asH:∀ a∈as,H a=none:=λa ha=>x1.s2.free (nw a ha).1;have as5:∀ a∈as,Hs4 a=none:=λa ha=>x25.s4 a (tp.mem ha) (nw a ha).2;have Fa:F∉as:=λz=>tp.mem z hF
   open Classical in
   let Hs6:Hp:=λa=>if a∈as then z6 H5 b (.lst (vs.set j' v)) a else Hs4 a
   have hin:∀ a,a∈as->Hs6 a=z6 H5 b (.lst (vs.set j' v)) a:=λa ha=>if_pos ha;have hout:∀ a,a∉as->Hs6 a=Hs4 a:=λa ha=>if_neg ha
   clear_value Hs6
   have s46:Same Hs4 Hs6:=λa w z=>by
    rw [hout a (λy=>by rw [as5 a y] at z;cases z)];exact z
   have xB:Ext Hs H Hs6 (z6 H5 b (.lst (vs.set j' v))):=by
    refine ⟨xA.s1.trans s46,λa w z=>?_,λa w z=>?_,λa h1 h2=>?_⟩
    ·rw [z7 (λy=>by rw [y,asH b bm] at z;cases z)];exact xA.s2 _ _ z
    ·by_cases ha:a∈as
     ·rw [hin a ha] at z;exact z
     ·rw [hout a ha] at z;rw [z7 (λy=>ha (by rw [y];exact bm))];exact xA.s3 _ _ z
    ·rw [hout a (λy=>h1 (asH a y))];exact xA.s4 a h1 h2
   refine sr.h e2 ((rs.go xB).putO (i:=n) (a:=F) ⟨rs.ext.s2.free (x12.s2.free hF),?_,as.map V.ref,?_,?_⟩ λj w hj2 z=>?_) q
   ·rw [hout F Fa];exact x36.s4 F (by rw [hFl];exact λz=>nomatch z) (x2.s3.free hF)
   ·rw [z7 bF.symm];exact h5F
   ·refine Tops.shareG (Hs:=Hs4) (H:=H5) s46 rv' (tp.mono x36.s1 x25.s2) nd hb λa ha=>?_;rw [hin a ha];rfl
   ·obtain ⟨b',hb',_,_,tb⟩:=rs.ow j w hj2;rw [z] at hb';injection hb' with hb';injection hb' with hb';injection hb' with hb';subst hb';exact tb.there (x12.s2.free hF)
theorem KO {cap:List (Option Nat)}{k:M}{ε:ME}{xs:List PV}{ls:List (List PV)}{i:Int}{y:PV}{l:List PV}(h:it ε=some xs)(hc:xt cap ts=true)(hl:xs.length<=lim)(hn:n<ε.length)(hd:i8 g c f (p6 cap ε) xs=some (ls.map .lst))(hk:k (ε.set n .no)=some (.at (.int (j:Int))))(hm:m (ε.set n .no)=some (.at (.int i)))(hx:x (ε.set n .no)=some y)(hj:j<ls.length)(h2:Qt (ls.getD j []) i y=some l):wb n cap ts it g c f k m x ε=some (.nx (ε.set n (.ow (.lst ((ls.set j l).map .lst))))):=by unfold wb;rw [h,yM,if_pos ⟨hc,hl,hn⟩,hd,yM,YE,yM,hk,yM];show (m (ε.set n .no)).bind _=_;rw [hm,yM];show (x (ε.set n .no)).bind _=_;rw [hx,yM,uA,if_pos ⟨by omega,by omega⟩,h2];rfl
end Mi
namespace L2
open PySem PySem.Spec PySem.Calls PyProof.Rows
structure wO (P:Program)(w:World)(K:Fg)(mg:Str->Option Value)(base:Heap)(k:Nat)(C:Addr)(ps:List Str)(ds:List V)(sp:Sp):Prop where
 ex:∃ f fd vs,FnOk P w K mg base (p8 P w) k f fd ps sp/\Mk K C f/\Binds K fd ps vs/\Vals ds vs
theorem YY {X:Cx}{k j:Nat}{C:Addr}{ps:List Str}{ds:List V}{sp:Sp}{x:Str}{p pos:Pos}{e:Expr}{es:List Expr}{t:TA}{E:XK}(c:wO X.prog X.w X.K X.mg X.base k C ps ds sp)(hr:Room j X.A)(hj:k+1<=j)(hx:zg (p8 X.prog X.w) X E)(hg:Gl X x)(hm:X.mg x=some (.ref C))(ha:PA X (e::es) t)(hdb:(x==("__debug__":Str))=false:=by decide)(he:starEach (e::es) X.env=(false,eval e X.env)::starEach es X.env:=by rfl)(hpl:(backTo pos (starEach es X.env)).any (·.1)=false:=by rfl):PE X (.Call (.Name x p) (e::es) [] pos) (ju C sp ds E t):=by obtain ⟨f,fd,vs,F,hm',hb,hd⟩:=c.ex;exact YX hm' F (hr.mono hj) hg hm hb hd hx ha hdb he hpl
end L2
namespace Mi
open PySem L2
variable{f:Addr}{qual:Str}{st:Stmt}{fd:FuncData}{N ps:List Str}
def wTkN (pre0:List PV->Prop)(R0:List PV->PV->Prop)(a0:MA)(f:M):W:=λε Q=>∃ xs0 m,a0 ε=some xs0/\f ε=some (.at (.int m))/\pre0 xs0/\(∀ y,R0 xs0 y->∃ n,y = .lst [.at (.int n)])/\∀ n,zI n m/\Q (.at (.int (n % m))) ε
instance {pre0:List PV->Prop}{R0:List PV->PV->Prop}{t0:TA}{a0:MA}{te:TE}{f:M}{E E':XK}[s0:o5 t0 a0][sf:SemE te f]:SemW (qO wG [] E (qR (qO (spN pre0 R0) [] E' t0) (qR te xD))) (wTkN pre0 R0 a0 f) where
 h:=λ{ε Q'} hh S Hs0 H0 Hs H σ rd Q k=>by
  obtain ⟨xs0,mm,e0,e1,hp0,hR0,h⟩:=hh;refine s0.h e0 rd.rs λvs0 Hs1 H1 x1 r1=>?_;refine ⟨Hs1,xs0,x1.s3,by rw [yC];exact r1,hp0,λy a Hs2 H2 hR x2 n n' t=>?_⟩;obtain ⟨m,rfl⟩:=hR0 y hR;have rd2:=(rd.go x1).go x2;refine sf.h e1 rd2.rs λv0 Hs3 H3 x3 r3=>?_;cases rep_at.mp r3;obtain ⟨ws,hw,rw⟩:=t;obtain ⟨v,r,rfl,p1,p2⟩:=reps_cons.mp rw;cases reps_nil.mp p2;cases rep_at.mp p1;have hw3:=x3.s2 _ _ hw;have n3:Hs3 a=none:=x3.s4 a (by rw [hw];exact λz=>nomatch z) n';obtain ⟨hc,hq⟩:=h m;refine ⟨a,m,mm,rfl,hw3,hc,?_⟩;have rd3:=rd2.go x3;have an:∀(j:Nat)(y:PV),ε[j]?=some (MSlot.ow y)->σ[j]?≠some (some (V.ref a)):=λj y hj e=>by
   obtain ⟨b,hb,_,_,tb⟩:=(rd.go x1).ow j y hj;rw [e] at hb;injection hb with hb;injection hb with hb;injection hb with hb;subst hb;exact tb.there n
  have h0a:=(rd.go x1).free0 n;have up:∀ b o,H3 b=some o->b≠a->z6 H3 a (.lst [.int (m / mm)]) b=some o:=λb o e hn=>by rw [z7 hn];exact e
  refine k _ _ _ Hs3 _ hq ⟨rd3.s1,λb o e hS=>up b o (rd3.s2 b o e hS) (λw=>by rw [w,h0a] at e;cases e),λb o e=>up b o (rd3.s3 b o e) (λw=>by rw [w,n3] at e;cases e),λb hb w=>rd3.s4 b hb w,rd3.sh,λi x hx=>?_,rd3.nd,rd3.len,rd3.pin,λb hS=>?_,rd3.str,rd3.nb⟩ (x1.s1.trans (x2.s1.trans x3.s1)) (rep_at.mpr rfl)
  ·obtain ⟨b,hb,m0,m1,tb⟩:=rd3.ow i x hx;have hne:b≠a:=λw=>an i x hx (w▸hb);exact ⟨b,hb,m0,m1,tb.mono (.refl _) λo ho=>up b o ho hne⟩
  ·have hl:=rd3.live b hS;have hne:b≠a:=λw=>by
    have:=(rd.go x1).live b hS;rw [w] at this;exact this n
   cases q:H3 b with
   |none=>exact absurd q hl
   |some o=>rw [up b o q hne];exact λz=>nomatch z
section
variable {P:Program}{w:World}{K:Fg}{mg:Str->Option Value}{base:Heap}
theorem FunD.ok2 {x:Str}{k:Nat}{sp:Sp}(F:FunD K x qual st f fd)(S:y6 N ps (j6 st))(len:∀ vs H Q E,sp vs H Q E->vs.length=ps.length)(hbody:∀(cdv:Value)(A:Around)(outer:List Env)(s:Shared)(H:Hp)(vs:List V)(Q:VK)(E:XK),Room k (A.deeper (PyProof.Rows.envOfC qual (j6 st) s.heap.objs.size f cdv))->sp vs H Q E -> ∃ t,PSs (qc (p8 P w) P w K mg base N qual (j6 st) f cdv A outer s H E) (c7 st) t/\t { nx:=λ_ H'=>Q .non H',rt:=Q } (L2.start N vs) H):FnOk P w K mg base (p8 P w) (k+1) f fd ps sp:=by obtain ⟨oc,od,dV,kV,doc,pm,an,cdv,ct,osl,rfl,lk,hcd⟩:=F.ex;exact Xe lk hcd S len λA outer s H vs Q E hr hsp=>hbody cdv A outer s H vs Q E hr hsp
end
def jt (m:List PV->Option PV)(x:List PV->Addr->XV->Prop):Sp:=λvs H Q E=>∃ Hs xs,Same Hs H/\Reps Hs xs vs/\((∃ zs,m xs=some (.lst zs)/\∀ a ps Hs' H',Ext Hs H Hs' H'->Deep H Hs' H' a ps->zs=ps.map (·.2)->Q (.ref a) H')∨∃ c y,x xs c y/\EOK E c y Hs H)
section
variable {m:List PV->Option PV}{x:List PV->Addr->XV->Prop}{ta:TA}{as:MA}{E:XK}
instance [sa:o5 ta as]:wR (qO (jt (mZ m) x) [] E ta) (z9 (mZ m) as) where
 l:=λe=>by
  obtain ⟨xs,_,e⟩:=bind_some e;obtain ⟨zs,h,_⟩:=Xm e;exact ⟨zs,h⟩
 h:=λ{ε zs} e _ _ _ _ _ rs _ q=>by
  obtain ⟨xs,ex,e1⟩:=bind_some e;exact sa.h ex rs λvs Hs1 H1 x1 r1=>⟨Hs1,xs,x1.s3,by rw [yC];exact r1,.inl ⟨zs,e1,λa ps Hs' H' x d ez=>q a ps Hs' H' (x1.trans x) ⟨d.top,d.each,d.nd,λb hb=>⟨x1.s2.free (d.new b hb).1,(d.new b hb).2⟩⟩ ez⟩⟩
instance [sa:o5 ta as]:SemE (qO (jt (mZ m) x) [] E ta) (z9 (mZ m) as) where
 h:=λ{ε y} e _ _ _ _ _ rs _ q=>by
  obtain ⟨xs,ex,e1⟩:=bind_some e;obtain ⟨zs,rfl,e2⟩:=Xm e1;refine sa.h ex rs λvs Hs1 H1 x1 r1=>⟨Hs1,xs,x1.s3,by rw [yC];exact r1,.inl ⟨zs,e1,λa ps Hs' H' x d ez=>?_⟩⟩;obtain ⟨Hp',g,x2,r2,_⟩:=d.share x λb hb=>(d.new b hb).1;subst ez;exact q _ _ _ (x1.trans x2) r2
instance [sa:o5 ta as]:zO E (qO (jt m x) [] E ta) (jz x as) where
 h:=λh _ _ _ _ _ rs q _=>by
  obtain ⟨xs,ex,h⟩:=h;exact sa.h ex rs λvs Hs1 H1 x1 r1=>⟨Hs1,xs,x1.s3,by rw [yC];exact r1,.inr ⟨_,_,h,q.ext x1⟩⟩
end
section
variable {P:Program}{w:World}{K:Fg}{mg:Str->Option Value}{base:Heap}
theorem okZY {y:Str}{k:Nat}{b:MS}{xb:YM}{m:List PV->Option PV}{x:List PV->Addr->XV->Prop}(F:Fun K y qual st f fd)(S:y6 N ps (j6 st))(hm:m=mZ (p9 N.length ps.length b))(hx:x=yFn N.length ps.length xb)(hb:∀(cdv:Value)(A:Around)(outer:List Env)(s:Shared)(H:Hp)(E:XK),Room k (A.deeper (PyProof.Rows.envOfC qual (j6 st) s.heap.objs.size f cdv)) -> ∃ t,PSs (qc (p8 P w) P w K mg base N qual (j6 st) f cdv A outer s H E) (c7 st) t/\SemN t b/\xq E t xb):FnOk P w K mg base (p8 P w) (k+1) f fd ps (jt m x):=by
 subst hm;subst hx;refine F.ok2 S (λvs H Q E h=>?_) (λcdv A outer s H vs Q E hr h=>?_)
 ·obtain ⟨Hs,xs,_,r,⟨y,e,_⟩|⟨c,y,h,_⟩⟩:=h
  ·rw [r.length];obtain ⟨zs,_,e⟩:=Xm e;unfold p9 at e;split at e
   ·rename_i hl;exact hl
   ·cases e
  ·rw [r.length];exact h.1
 ·obtain ⟨Hs,xs,sm,r,h⟩:=h;obtain ⟨t,ht,sem,semx⟩:=hb cdv A outer s H E hr;refine ⟨t,ht,?_⟩;rcases h with ⟨y,e,q⟩|⟨c,y,h,q⟩
  ·obtain ⟨zs,ez,e⟩:=Xm e;cases ez;unfold p9 at e;split at e
   ·rename_i hl;obtain ⟨o,eo,e1⟩:=bind_some e;cases o with
    |rt z=>cases e1;exact sem.h eo (GH _ _) (by rw [<- hl];exact zF sm r) q
    |nx ε=>cases e1
    |bk ε=>cases e1
    |ct ε=>cases e1
   ·cases e
  ·exact semx.h h.2 (by rw [<- h.1];exact zF sm r) q
end
section
variable {C:Addr}{m:List PV->Option PV}{x:List PV->Addr->XV->Prop}{sp:Sp}{ta:TA}{as:MA}{E:XK}
instance [sa:o5 ta as]{ds:List V}:SemE (ju C (qN (qr C m x) sp) ds E ta) (vZ m ds as) where
 h:=λe _ _ _ _ _ rs _ q=>by
  obtain ⟨xs,ex,e1⟩:=bind_some e;refine sa.h ex rs λvs Hs1 H1 x1 r1=>λx dx hx hdx hne=> .inl ?_;have s3:Same Hs1 (z6 (z6 H1 dx (.own x)) x (.ins C dx [])):=λb o e=>by
   have e':=x1.s3 _ _ e;rw [z7 (w6 e' hx),z7 (w6 e' hdx)];exact e'
  refine ⟨Hs1,x,dx,_,_,rfl,s3,v3,x1.s3.free hx,r1.append (.ofAts ds),.inl ⟨_,e1,λHs' H' g1 g2 g3 g4 r=>⟨rfl,q _ _ _ (x1.trans ⟨g1,λb o e=>?_,g3,λb hb z=>?_⟩) r⟩⟩⟩
  ·refine g2 b o ?_ (w6 e hx);rw [z7 (w6 e hx),z7 (w6 e hdx)];exact e
  ·have hbx:b≠x:=λw=>hb (by rw [w];exact hx);have hbd:b≠dx:=λw=>hb (by rw [w];exact hdx);exact g4 b (by rw [z7 hbx,z7 hbd];exact hb) hbx z
instance (priority:=1100)[sa:o5 ta as]:SemE (ju C (qN (qr C m x) sp) [] E ta) (z9 m as) where
 h:=λ{ε y} e=>SemE.h (te:=ju C (qN (qr C m x) sp) [] E ta) (f:=vZ m [] as) (by
  unfold vZ;unfold z9 at e;simpa using e)
instance [sa:o5 ta as]:zO E (ju C (qN (qr C m x) sp) [] E ta) (jz x as) where
 h:=λ{ε c y} h {Hs0 H0 Hs H σ} rs q {Q}=>by
  obtain ⟨xs,ex,hx0⟩:=h;refine sa.h ex rs λvs Hs1 H1 x1 r1=>λp dx hx hdx hne=> .inl ?_;have s3:Same Hs1 (z6 (z6 H1 dx (.own p)) p (.ins C dx [])):=λb o e=>by
   have e':=x1.s3 _ _ e;rw [z7 (w6 e' hx),z7 (w6 e' hdx)];exact e'
  refine ⟨Hs1,p,dx,xs,_,rfl,s3,v3,x1.s3.free hx,by rw [yC];exact r1,.inr ⟨c,y,hx0,λHs' H' g1 g2 g3 g4=>?_⟩⟩;have ex':Ext Hs1 H1 Hs' H':=by
   refine ⟨g1,λb o e=>?_,g3,λb hb z=>?_⟩
   ·refine g2 b o ?_ (λw=>w6 e hx (yO.mp w));rw [z7 (w6 e hx),z7 (w6 e hdx)];exact e
   ·have hbx:b≠p:=λw=>hb (by rw [w];exact hx);have hbd:b≠dx:=λw=>hb (by rw [w];exact hdx);exact g4 b (by rw [z7 hbx,z7 hbd];exact hb) z
  have q1:=q.ext x1;cases y with
  |none=>exact q1 Hs' H' ex'
  |some pv =>
   refine λdy n h=>q1 Hs' H' dy ex' ?_ h;by_cases e1:dy=p
   ·rw [e1];exact hx
   ·rw [z7 e1] at n;by_cases e2:dy=dx
    ·rw [e2];exact hdx
    ·rw [z7 e2] at n;exact n
end
end Mi
namespace Lw
open PySem L2 Mi
variable{g h m n:Nat}{rss:List (List Int)}{a:M}{H:Hp}{Aa Ab Ac Ad Ae Af Ag Ai C CH CS R c ea fI:Addr}{r:List Int}{j:Int}{ns ps:List Str}{vs:List V}{Q:VK}{E:XK}{ε:ME}{D6 D9 Ej J0:Tok}{cl l t y:PV}{xs:List PV}{as:MA}{cs:List Addr}{p0 p1 p2 p3 q x:Str}{an dx od:Option Addr}{ds:List Value}{items:Array Value}{st:Stmt}{cd ct dc oc pm:Value}{sl:Array (Option Value)}
variable {P:Program}{w:World}{K:Fg}{mg:Str->Option Value}{base:Heap}{f:Addr}{fd:FuncData}
theorem l0:0<=lim:=by decide
theorem l1:1<=lim:=by decide
theorem l2:2<=lim:=by decide
theorem l3:3<=lim:=by decide
theorem l4:4<=lim:=by decide
theorem l5:5<=lim:=by decide
theorem l6:6<=lim:=by decide
theorem l7:7<=lim:=by decide
theorem l8:8<=lim:=by decide
theorem l9:9<=lim:=by decide
structure qY (h:Nat)(rss:List (List Int)):Prop where
 len:rss.length=h+1
 row:∀ r∈rss,r.length=h/\∀ v∈r,0<=v/\v<10 ^ 30
def rin (rss:List (List Int))(f g:Int):Int:=((atI rss f).bind λr=>atI r g).getD 0
def zw (rss:List (List Int)):Int->List Int->Int
 |_,[]=>0
 |f,h::r=>rin rss f h+zw rss h r
abbrev Wy:=Int×List Int
variable{T:List (List Wy)}{onw ws:List Wy}{b:Wy}
def zB (a b:Wy):Wy:=if b.1<a.1 then b else a
def zm (a b:Wy):Wy:=(a.1+b.1,a.2++b.2)
def thr (ws:List Wy)(k:Nat)(onw:List Wy):List Wy:=List.zipWith (λw m=>zB w (zm (ws.getD k (0,[])) m)) ws onw
def qH (T:List (List Wy))(k:Nat):List (List Wy):=T.map λrow=>thr row k (T.getD k [])
def zu (row:List Int):List Wy:=row.mapIdx λi v=>(v,[(i:Int)])
def m7 (rss:List (List Int)):Nat->List (List Wy)
 |0=>rss.map zu
 |k+1=>qH (m7 rss k) k
def w9 (T:List (List Wy))(f g:Nat):Wy:=(T.getD f []).getD g (0,[])
def zX (rss:List (List Int))(h:Nat):List (List Int):=(m7 rss h).map λrow=>row.map (·.1)
structure Shp (h:Nat)(T:List (List Wy)):Prop where
 len:T.length=h+1
 row:∀ r∈T,r.length=h
theorem qd {α:Type}{l:List α}{i:Nat}{d:α}(h:i<l.length):l.getD i d=l[i]:=by rw [yb,yA h];rfl
theorem Shp.rowAt (S:Shp h T){f:Nat}(hf:f<=h):(T.getD f []).length=h:=by
 have hl:f<T.length:=by have:=S.len;omega
 rw [qd hl];exact S.row _ (yn hl)
theorem UV {k:Nat}(h:ws.length=onw.length):(thr ws k onw).length=ws.length:=by unfold thr;rw [List.length_zipWith,h,Nat.min_self]
theorem Shp.step (S:Shp h T){k:Nat}(hk:k<h):Shp h (qH T k):=by refine ⟨by unfold qH;rw [yZ];exact S.len,λr hr=>?_⟩;unfold qH at hr;obtain ⟨row,hm,rfl⟩:=yp.mp hr;have e1:=S.row row hm;rw [UV (by rw [e1,S.rowAt (by omega)]),e1]
theorem we (S:Shp h T){k f:Nat}(hk:k<h)(hf:f<=h)(hg:g<h):w9 (qH T k) f g=zB (w9 T f g) (zm (w9 T f k) (w9 T k g)):=by
 have hl:f<T.length:=by have:=S.len;omega
 have hl2:f<(qH T k).length:=by unfold qH;rw [yZ];exact hl
 have e1:(qH T k).getD f []=thr (T.getD f []) k (T.getD k []):=by unfold qH;rw [qd (by rw [yZ];exact hl),List.getElem_map,qd hl]
 have r1:=S.rowAt hf;have r2:=S.rowAt (f:=k) (by omega);unfold w9;rw [e1,qd (by rw [UV (by rw [r1,r2])];omega),qd (l:=T.getD f []) (i:=g) (by omega),qd (l:=T.getD k []) (i:=g) (by omega)];unfold thr;rw [List.getElem_zipWith]
theorem Shp.start (G:qY h rss):Shp h (m7 rss 0):=by refine ⟨by show (rss.map zu).length=_;rw [yZ];exact G.len,λr hr=>?_⟩;obtain ⟨row,hm,rfl⟩:=yp.mp hr;unfold zu;rw [List.length_mapIdx];exact (G.row row hm).1
theorem Shp.all {h:Nat}{rss:List (List Int)}(G:qY h rss):∀ k,k<=h->Shp h (m7 rss k)
 |0,_=>Shp.start G
 |k+1,hk=>(Shp.all G k (by omega)).step (by omega)
theorem Js (G:qY h rss){f:Nat}(hf:f<=h)(hg:g<h):rin rss (f:Int) (g:Int)=(rss.getD f []).getD g 0:=by
 have hl:f<rss.length:=by have:=G.len;omega
 have e1:atI rss (f:Int)=some rss[f]:=jD (yA hl);have hg2:g<rss[f].length:=by rw [(G.row _ (yn hl)).1];exact hg
 have e2:atI rss[f] (g:Int)=some rss[f][g]:=jD (yA hg2);unfold rin;rw [e1];show (atI rss[f] (g:Int)).getD 0=_;rw [e2,qd hl,qd hg2];rfl
theorem QZ (G:qY h rss){f:Nat}(hf:f<=h)(hg:g<h):w9 (m7 rss 0) f g=(rin rss (f:Int) (g:Int),[(g:Int)]):=by
 have hl:f<rss.length:=by have:=G.len;omega
 have hl2:f<(rss.map zu).length:=by rw [yZ];exact hl
 have hg2:g<rss[f].length:=by rw [(G.row _ (yn hl)).1];exact hg
 rw [Js G hf hg];unfold w9;show ((rss.map zu).getD f []).getD g (0,[])=_;rw [qd hl2,List.getElem_map,qd (by unfold zu;rw [List.length_mapIdx];exact hg2),qd hl,qd hg2];unfold zu;rw [List.getElem_mapIdx]
theorem DW (G:qY h rss){f:Nat}(hf:f<=h)(hg:g<h):0<=rin rss (f:Int) (g:Int):=by
 have hl:f<rss.length:=by have:=G.len;omega
 have hg2:g<rss[f].length:=by rw [(G.row _ (yn hl)).1];exact hg
 rw [Js G hf hg,qd hl,qd hg2];exact ((G.row _ (yn hl)).2 _ (yn hg2)).1
theorem Gr {rss:List (List Int)}:∀{xs ys:List Int}{f g:Int},xs.getLast?=some g->zw rss f (xs++ys)=zw rss f xs+zw rss g ys
 |[],_,_,_,e=>by simp at e
 |[x],ys,f,g,e=>by
  have e':x=g:=by simpa using e
  subst e';show rin rss f x+zw rss x ys=rin rss f x+0+zw rss x ys;omega
 |x::y::r,ys,f,g,e=>by
  have q:=Gr (rss:=rss) (xs:=y::r) (ys:=ys) (f:=x) (g:=g) (by simpa [List.getLast?_cons_cons] using e);show rin rss f x+zw rss x (y::r++ys)=rin rss f x+zw rss x (y::r)+zw rss g ys;rw [q];omega
structure WayOk (rss:List (List Int))(h:Nat)(f g:Nat)(w:Wy):Prop where
 sum:w.1=zw rss (f:Int) w.2
 last:w.2.getLast?=some (g:Int)
 ok:∀ x∈w.2,0<=x/\x<(h:Int)
structure FW (rss:List (List Int))(h k:Nat)(T:List (List Wy)):Prop where
 way:∀ f g,f<=h->g<h->WayOk rss h f g (w9 T f g)
 pos:∀ f g,f<=h->g<h->0<=(w9 T f g).1
 le:∀ f g,f<=h->g<h->(w9 T f g).1<=rin rss (f:Int) (g:Int)
 tri:∀ j f g,j<k->f<=h->g<h->(w9 T f g).1<=(w9 T f j).1+(w9 T j g).1
 len:∀ f g,f<=h->g<h->(w9 T f g).2.length<=2 ^ k
theorem wm (a b:Wy):(zB a b=a/\a.1<=b.1)∨(zB a b=b/\b.1<a.1):=by
 unfold zB;by_cases h:b.1<a.1
 ·rw [if_pos h];exact .inr ⟨rfl,h⟩
 ·rw [if_neg h];exact .inl ⟨rfl,by omega⟩
theorem Pf (a b:Wy):(zB a b).1<=a.1/\(zB a b).1<=b.1:=by
 rcases wm a b with ⟨e,q⟩|⟨e,q⟩
 ·rw [e];exact ⟨Int.le_refl _,q⟩
 ·rw [e];exact ⟨Int.le_of_lt q,Int.le_refl _⟩
theorem WayOk.join {f k:Nat}{a:Wy}(x:WayOk rss h f k a)(y:WayOk rss h k g b):WayOk rss h f g (zm a b):=by
 refine ⟨?_,?_,λz hz=>?_⟩
 ·show a.1+b.1=zw rss f (a.2++b.2);rw [Gr x.last,x.sum,y.sum]
 ·show (a.2++b.2).getLast?=_;rw [List.getLast?_append,y.last];rfl
 ·rcases yB.mp hz with q|q
  ·exact x.ok z q
  ·exact y.ok z q
theorem FW.start (G:qY h rss):FW rss h 0 (m7 rss 0):=by
 refine ⟨λf g hf hg=>?_,λf g hf hg=>?_,λf g hf hg=>?_,λj f g hj=>absurd hj (by omega),λf g hf hg=>?_⟩
 ·rw [QZ G hf hg];refine ⟨?_,rfl,λx hx=>?_⟩
  ·show rin rss f g=rin rss f g+0;omega
  ·have e:x=(g:Int):=by simpa using hx
   rw [e];omega
 ·rw [QZ G hf hg];exact DW G hf hg
 ·rw [QZ G hf hg];exact Int.le_refl _
 ·rw [QZ G hf hg];exact yS 1
theorem FW.step {k:Nat}(S:Shp h T)(x:FW rss h k T)(hk:k<h):FW rss h (k+1) (qH T k):=by
 have kl:k<=h:=by omega
 have toK:∀ f,f<=h->(w9 (qH T k) f k).1=(w9 T f k).1:=λf hf=>by
  rw [we S hk hf hk];rcases wm (w9 T f k) (zm (w9 T f k) (w9 T k k)) with ⟨e,q⟩|⟨e,q⟩
  ·rw [e]
  ·have p:=x.pos k k kl hk;have q':(w9 T f k).1+(w9 T k k).1<(w9 T f k).1:=q;omega
 have ofK:∀ g,g<h->(w9 (qH T k) k g).1=(w9 T k g).1:=λg hg=>by
  rw [we S hk kl hg];rcases wm (w9 T k g) (zm (w9 T k k) (w9 T k g)) with ⟨e,q⟩|⟨e,q⟩
  ·rw [e]
  ·have p:=x.pos k k kl hk;have q':(w9 T k k).1+(w9 T k g).1<(w9 T k g).1:=q;omega
 have bound:∀ f g,f<=h->g<h->(w9 (qH T k) f g).1<=(w9 T f g).1/\(w9 (qH T k) f g).1<=(w9 T f k).1+(w9 T k g).1:=λf g hf hg=>by
  rw [we S hk hf hg];exact Pf _ _
 have alt:∀ f g,f<=h->g<h->(w9 (qH T k) f g).1=(w9 T f g).1∨(w9 (qH T k) f g).1=(w9 T f k).1+(w9 T k g).1:=λf g hf hg=>by
  rw [we S hk hf hg];rcases wm (w9 T f g) (zm (w9 T f k) (w9 T k g)) with ⟨e,q⟩|⟨e,q⟩
  ·rw [e];exact .inl rfl
  ·rw [e];exact .inr rfl
 refine ⟨λf g hf hg=>?_,λf g hf hg=>?_,λf g hf hg=>Int.le_trans (bound f g hf hg).1 (x.le f g hf hg),λj f g hj hf hg=>?_,λf g hf hg=>?_⟩
 ·rw [we S hk hf hg];rcases wm (w9 T f g) (zm (w9 T f k) (w9 T k g)) with ⟨e,_⟩|⟨e,_⟩
  ·rw [e];exact x.way f g hf hg
  ·rw [e];exact (x.way f k hf hk).join (x.way k g kl hg)
 ·rcases alt f g hf hg with e|e
  ·rw [e];exact x.pos f g hf hg
  ·rw [e];have p1:=x.pos f k hf hk;have p2:=x.pos k g kl hg;omega
 ·by_cases hjk:j=k
  ·subst hjk;rw [toK f hf,ofK g hg];exact (bound f g hf hg).2
  ·have hj':j<k:=by omega
   have jl:j<=h:=by omega
   have jh:j<h:=by omega
   have b:=bound f g hf hg;have t1:=x.tri j f g hj' hf hg;have t2:=x.tri j f k hj' hf hk;have t3:=x.tri j k g hj' kl hg;have t4:=x.pos k j kl jh;have t5:=x.pos j k jl hk;rcases alt f j hf jh with e1|e1<;>rcases alt j g jl hg with e2|e2<;>rw [e1,e2]<;>omega
 ·rw [we S hk hf hg];have e:2 ^ (k+1)=2 ^ k+2 ^ k:=by rw [Nat.pow_succ];omega
  rcases wm (w9 T f g) (zm (w9 T f k) (w9 T k g)) with ⟨q,_⟩|⟨q,_⟩
  ·rw [q];have:=x.len f g hf hg;omega
  ·rw [q];have a1:=x.len f k hf hk;have a2:=x.len k g kl hg;show ((w9 T f k).2++(w9 T k g).2).length<=_;rw [yD];omega
theorem FW.all {h:Nat}{rss:List (List Int)}(G:qY h rss):∀ k,k<=h->FW rss h k (m7 rss k)
 |0,_=>FW.start G
 |k+1,hk=>FW.step (Shp.all G k (by omega)) (FW.all G k (by omega)) (by omega)
theorem Pk (G:qY h rss):qY h (zX rss h):=by
 have S:=Shp.all G h (yS _);have F:=FW.all G h (yS _);refine ⟨by unfold zX;rw [yZ];exact S.len,λr hr=>?_⟩;unfold zX at hr;obtain ⟨row,hm,rfl⟩:=yp.mp hr;refine ⟨by rw [yZ];exact S.row row hm,λv hv=>?_⟩;obtain ⟨w,hw,rfl⟩:=yp.mp hv;obtain ⟨f,hf,rfl⟩:=uK hm;obtain ⟨g,hg,rfl⟩:=uK hw;have hf':f<=h:=by have:=S.len;omega
 have hg':g<h:=by rw [<- S.row _ hm];exact hg
 have e:w9 (m7 rss h) f g=(m7 rss h)[f][g]:=by unfold w9;rw [qd hf,qd hg]
 have p:=F.pos f g hf' hg';have l:=F.le f g hf' hg';rw [e] at p l;refine ⟨p,Int.lt_of_le_of_lt l ?_⟩;have hl:f<rss.length:=by have:=G.len;omega
 have hg2:g<rss[f].length:=by rw [(G.row _ (yn hl)).1];exact hg'
 rw [Js G hf' hg',qd hl,qd hg2];exact ((G.row _ (yn hl)).2 _ (yn hg2)).2
def top (i:Nat):Stmt:=PySem.Challenge.pw_rinsework_k80_house_not_made.main.body.getD i (.Pass ⟨0,0,0,0⟩)
abbrev JS:Stmt:=top 41
abbrev XJ:Stmt:=top 42
abbrev JY:Stmt:=top 43
theorem Vc {p:Addr}(h:H p=none)(o:HO):Same H (z6 H p o):=λb u q=>by rw [z7 (w6 q h)];exact q
theorem sizes (h:n<=1000):n<=sizeLine:=uQ (Qv h)
def Vf:Sp:=λvs H Q _=>∃ c k:Int,vs=[.int c,.int k]/\0<=k/\k<=100/\∀ v:Int,0<=v->v<2147483648->Q (.int v) H
def UJ (K:Fg):Sp:=λvs H Q _=>∃(a:Addr)(ns:List Int)(k:Int),vs=[.ref a,.int k]/\SqL K H a (ns.map V.int)/\ns.length<=63/\0<=k/\k<=12 /\
 ∀(r:Addr)(n:Int)(H':Hp),H r=none->Same H H'->H' r=some (.lst [.int n])->Q (.ref r) H'
section
theorem sc_take:y6 ["stream","many","digit"] ["stream","many"] (j6 JY):=b7
theorem CA (F:Fun K "_law_take" "_law_take" JY f fd):FnOk P w K mg base v8 1 f fd ["stream","many"] wG:=by
 refine F.ok sc_take (λvs H Q E h=>?_) (λcdv A outer s H vs Q E hr h=>?_)
 ·obtain ⟨a,n,m,rfl,_⟩:=h;rfl
 obtain ⟨a,n,m,rfl,hH,hm,q⟩:=h;refine ⟨_,(j9 (qp (i:=2) sc_take.nd rfl (Or.inl rfl) (w5 zn (Xy (ZC (K:=K) rfl) (pv 0) j3 (λ_ _=>rfl)) (pv 1)))
  (j9 (XF (w5 ZU (Xy (ZC (K:=K) rfl) (pv 0) j3 (λ_ _=>rfl)) (pv 1)) (Jg (pv 0) j3 Vd))
  (v5 (u4 (pv 2))))),?_⟩
 refine ⟨_,rfl,a,_,0,_,rfl,rfl,SqL.of hH,rfl,_,rfl,n,m,rfl,rfl,hm.1,?_⟩;refine ⟨_,rfl,a,_,0,_,rfl,rfl,SqL.of hH,rfl,_,rfl,n,m,rfl,rfl,hm,?_⟩;refine ⟨_,rfl,a,_,0,0,rfl,rfl,hH,rfl,?_⟩;exact ⟨_,rfl,q⟩
theorem sc_mixed:y6 ["cell","k","one"] ["cell","k"] (j6 JS):=b7
theorem Cr (F:Fun K "_law_mixed" "_law_mixed" JS f fd):FnOk P w K mg base v8 1 f fd ["cell","k"] Vf:=by
 refine F.ok sc_mixed (λvs H Q E h=>?_) (λcdv A outer s H vs Q E hr h=>?_)
 ·obtain ⟨c,k,rfl,_⟩:=h;rfl
 obtain ⟨c,k,rfl,k0,k1,q⟩:=h;refine ⟨_,(j9 (qp (i:=2) sc_mixed.nd rfl (Or.inl rfl) (w5 zn (w5 wv (w5 op_add (w5 op_add (w5 zn (pv 0) j3) (w5 wv j3 (pv 1))) j3) j3) j3))
  (v5 (u4 (w5 zn (w5 wv (w5 zn (w5 wv (pv 2) (pv 2)) j3) j3) j3)))),?_⟩
 refine ⟨_,rfl,_,_,rfl,rfl,(by show (0:Int)<1000000007;decide),_,rfl,_,_,rfl,rfl,.inl ⟨by decide,by decide⟩,_,_,rfl,rfl,_,_,rfl,rfl,_,_,rfl,rfl,.inr ⟨by decide,by decide⟩,_,_,rfl,rfl,(by show (0:Int)<2147483647;decide),?_⟩;generalize hone:(c % 1000000007+7919*k+101)*48271 % 2147483647=one;have o0:0<=one:=by rw [<- hone];exact ye _ (by decide)
 have o1:one<2147483647:=by rw [<- hone];exact yj _ (by decide)
 refine ⟨_,rfl,_,rfl,_,_,rfl,rfl,.inl ⟨by omega,by omega⟩,_,_,rfl,rfl,(by show (0:Int)<2147483629;decide),_,_,rfl,rfl,.inr ⟨by decide,by decide⟩,_,_,rfl,rfl,(by show (0:Int)<2147483647;decide),?_⟩;exact q _ (ye _ (by decide)) (Int.lt_trans (yj _ (by decide)) (by decide))
end
def MM:Int:=10 ^ (60:Int).toNat
theorem QW:jA 10 60:=⟨by decide,by decide,by decide⟩
theorem WM:jA 10 18:=⟨by decide,by decide,by decide⟩
theorem QT:Builtin.Int.intBits MM<=2 ^ 20:=by decide +kernel
def M2:Int:=MM*MM
theorem QK:0<M2:=by decide +kernel
theorem GQ:Builtin.Int.intBits M2<=2 ^ 20:=by decide +kernel
theorem La {M c r:Int}{i:Nat}(hM:0<M)(h0:0<=c)(h:c<M ^ i)(r0:0<=r)(r1:r<M):0<=c*M+r/\c*M+r<M ^ (i+1):=by
 have e:M ^ (i+1)=M ^ i*M:=Int.pow_succ M i;have h1:(c+1)*M<=M ^ i*M:=Int.mul_le_mul_of_nonneg_right (by omega) (Int.le_of_lt hM);have h2:(c+1)*M=c*M+M:=by rw [Int.add_mul,Int.one_mul]
 have h3:0<=c*M:=Int.mul_nonneg h0 (Int.le_of_lt hM);rw [e];omega
theorem GE:∀ i:_root_.Fin 8,(M2 ^ (i:Nat)).toNat<2 ^ 2800:=by decide +kernel
theorem GR {c:Int}{i:Nat}(hi:i<=7)(h0:0<=c)(h:c<M2 ^ i):Builtin.Int.intBits c<=2 ^ 20:=by
 obtain ⟨n,rfl⟩:=uE h0;have q:=GE ⟨i,by omega⟩;have q2:n<2 ^ 2800:=by have q':(M2 ^ i).toNat<2 ^ 2800:=q;omega
 exact yd (PyProof.Rows.intBits_le (by rw [Int.natAbs_natCast];exact q2)) (by decide)
theorem DZ:∀ i:_root_.Fin 13,∀ j:_root_.Fin 64,Builtin.Range.small ((i:Nat):Int) ((j:Nat):Int) 12=true:=by decide +kernel
theorem Jt {i:Int}:Builtin.Range.rangeSize i j 12=if i<j then (j-i-1) / 12+1 else 0:=rfl
theorem DY {i:Int}(h0:0<=i)(h1:i<=12)(h2:0<=j)(h3:j<=63):0<=Builtin.Range.rangeSize i j 12/\Builtin.Range.small i j 12=true/\jp i j 12<=6/\∀ t:Nat,t<jp i j 12->i+t*12<j:=by
 refine ⟨?_,?_,?_,λt ht=>?_⟩
 ·rw [Jt];split<;>omega
 ·have q:=DZ ⟨i.toNat,by omega⟩ ⟨j.toNat,by omega⟩;have e1:((i.toNat:Nat):Int)=i:=by omega
  have e2:((j.toNat:Nat):Int)=j:=by omega
  have q':Builtin.Range.small ((i.toNat:Nat):Int) ((j.toNat:Nat):Int) 12=true:=q;rw [e1,e2] at q';exact q'
 ·unfold jp;rw [Jt];split<;>omega
 ·unfold jp at ht;rw [Jt] at ht;split at ht<;>omega
theorem GK {ns:List Int}{k:Int}(h0:0<=k)(h:k<(ns.length:Int)):∃ v:Int,atI (ns.map V.int) k=some (.int v):=by
 have hk:k.toNat<ns.length:=by omega
 have ek:k=((k.toNat:Nat):Int):=by omega
 have q:atI (ns.map V.int) ((k.toNat:Nat):Int)=some (.int ns[k.toNat]):=jD (by rw [yN,yA hk]<;>rfl);rw [<- ek] at q;exact ⟨_,q⟩
section
theorem sc_stream:y6 ["script","k","cell","j","found"] ["script","k"] (j6 XJ):=b7
theorem Cy (F:Fun K "_law_stream" "_law_stream" XJ f fd)(Ev:Fn P w K mg base 1 "_law_mixed" ["cell","k"] Vf)(Aw:mg "len"=none)(Az:mg "range"=none)(Na:mg "sum"=none):FnOk P w K mg base v8 2 f fd ["script","k"] (UJ K):=by
 refine F.ok sc_stream (λvs H Q E h=>?_) (λcdv A outer s H vs Q E hr h=>?_)
 ·obtain ⟨a,ns,k,rfl,_⟩:=h;rfl
 obtain ⟨a,ns,k,rfl,hS,h63,k0,k1,q⟩:=h;refine ⟨_,(j9 (qp (i:=2) sc_stream.nd rfl (Or.inl rfl) j3)
  (j9 (jn PassesOwn.never rfl (Dm rfl Az (z5 (pv 1) (z5 (t6 (WC (K:=K) rfl) rfl Aw PySem.boot_len (z5 (pv 0) j8)) (z5 j3 j8)))) (p5 (i:=3) sc_stream.nd rfl (Or.inl rfl))
   (v5 (qp (i:=2) sc_stream.nd rfl (Or.inl rfl) (w5 op_add (w5 ZW (pv 2) (w5 ZW (w5 vq j3 j3) (w5 vq j3 j3))) (w5 zn (Xy (ZC (K:=K) rfl) (pv 0) (pv 3) (λ_ _=>rfl)) (w5 ZW (w5 vq j3 j3) (w5 vq j3 j3)))))))
  (j9 (qe (qq Xv (pv 2) (w5 vq j3 j3) (o3 _)) (v5 (u4 (c8 (z5 (pv 2) j8)))) qf)
  (j9 (qp (i:=2) sc_stream.nd rfl (Or.inl rfl) (w5 op_add (pv 2) (t6 (Ko (K:=K) rfl rfl) rfl Na GY (z5 (qV (N':=["one"]) (cap:=[none]) (qb rfl rfl rfl) rfl (qo (K:=K) rfl (pv 0)) (λ_ _ _ _ _ _=>(p5 (i:=0) (by show (["one"]:List Str).Nodup;decide +kernel) rfl (Or.inl rfl))) (λ_ _ _ _ _ _=>qg) (λ_ _ _ _ _ _=>(w5 zn (pv 0) (w5 vq j3 j3)))) j8))))
  (j9 (qp (i:=4) sc_stream.nd rfl (Or.inl rfl) j3)
  (j9 (jn PassesOwn.never rfl (wA rfl Az (z5 j3 j8)) (p5 (i:=3) sc_stream.nd rfl (Or.inl rfl))
   (v5 (qp (i:=4) sc_stream.nd rfl (Or.inl rfl) (w5 op_add (w5 wv (pv 4) j3) (qy Ev hr (by decide) rfl (z5 (w5 op_add (w5 op_add (pv 2) (w5 wv j3 (pv 1))) (t6 (WC (K:=K) rfl) rfl Aw PySem.boot_len (z5 (pv 0) j8))) (z5 (pv 3) j8)))))))
  (v5 (u4 (c8 (z5 (pv 4) j8)))))))))),?_⟩
 have hl:(((ns.map V.int).length:Nat):Int)=(ns.length:Int):=by rw [yZ]
 obtain ⟨z1,z2,z3,z4⟩:=DY (i:=k) (j:=(((ns.map V.int).length:Nat):Int)) k0 k1 (by omega) (by omega);refine ⟨_,rfl,_,rfl,a,_,rfl,.inl hS,k,_,12,rfl,⟨by decide,by decide⟩,z1,z2,KY (λi σ H2=>∃(c:Int)(j:Option V),σ=[some (.ref a),some (.int k),some (.int c),j,none]/\H2=H/\0<=c/\c<M2 ^ i)
  ⟨0,none,rfl,rfl,Int.le_refl 0,by decide⟩ ?_ ?_⟩
 ·rintro i σ H2 hi ⟨c,j,rfl,rfl,c0,c1⟩;obtain ⟨v,hv⟩:=GK (ns:=ns) (k:=k+i*12) (by omega) (by have:=z4 i hi;omega);refine ⟨_,rfl,_,_,rfl,rfl,QW,_,_,rfl,rfl,QW,_,_,rfl,rfl,⟨QT,QT⟩,_,_,rfl,rfl,⟨GR (by omega) c0 c1,GQ⟩,_,rfl,_,rfl,a,_,_,_,rfl,rfl,hS,hv,
   _,_,rfl,rfl,QW,_,_,rfl,rfl,QW,_,_,rfl,rfl,⟨QT,QT⟩,_,_,rfl,rfl,QK,_,_,rfl,rfl,?_⟩
  have sb:=La (i:=i) QK c0 c1 (ye v (Ne.symm (Int.ne_of_lt QK))) (yj v QK);exact ⟨_,_,rfl,rfl,sb.1,sb.2⟩
 ·rintro σ H2 ⟨c,j,rfl,rfl,c0,c1⟩;refine ⟨_,rfl,_,_,rfl,rfl,WM,_,_,rfl,rfl,_,rfl,ite2 (λ_=>?_) (λ_=>?_)⟩
  ·refine ⟨_,rfl,(by show 1<=sizeLine;decide),λp hp=>?_⟩;exact q p c _ hp (Vc hp _) v3
  ·refine ⟨_,rfl,_,rfl,a,rfl,⟨_,hS⟩,Ks (K:=K) (a:=a) (xs:=ns.map V.int) (λi ys H3=>H3=H2/\∃ ms:List Int,ys=ms.map V.int/\ms.length=i) ⟨rfl,[],rfl,rfl⟩ ?_ ?_ ?_ ?_⟩
   ·rintro i ys H3 hi ⟨_,ms,rfl,rfl⟩;rw [yZ] at hi ⊢;exact sizes (by omega)
   ·rintro i ys H3 hi ⟨rfl,_⟩;exact hS
   ·rintro i x ys H3 R hx ⟨rfl,ms,rfl,rfl⟩ hR;rw [yN] at hx;obtain ⟨v,hv,rfl⟩:=yI.mp hx;refine ⟨Wk.one rfl,⟨_,rfl,_,_,rfl,rfl,WM,_,_,rfl,rfl,(by show (0:Int)<10 ^ (18:Int).toNat;decide),?_⟩⟩;exact hR _ _ ⟨rfl,ms++[_],by rw [yx];rfl,by rw [yD];rfl⟩
   ·rintro ys H3 ⟨rfl,ms,rfl,_⟩ D hD;refine ⟨D,ms,rfl,SqL.of v3,_,_,rfl,rfl,?_⟩;have g1:Same H3 (z6 H3 D (.lst (ms.map V.int))):=Vc hD _;refine ⟨12,rfl,by decide,by decide,KZ (n:=12) (λi σ H4=>∃(f:Int)(j:Option V),σ=[some (.ref a),some (.int k),some (.int (c+ms.sum)),j,some (.int f)]/\H4=z6 H3 D (.lst (ms.map V.int))) ⟨0,_,rfl,rfl⟩ ?_ ?_⟩
    ·rintro i σ H4 hi ⟨f,j,rfl,rfl⟩;refine ⟨_,rfl,_,_,rfl,rfl,.inr ⟨by decide,by decide⟩,_,rfl,_,rfl,_,_,rfl,rfl,.inl ⟨by decide,by decide⟩,_,_,rfl,rfl,_,rfl,a,_,rfl,.inl (g1.seq hS),_,_,rfl,rfl,_,rfl,_,_,rfl,by omega,by omega,λv v0 v1=>?_⟩;exact ⟨_,_,rfl,rfl,_,_,rfl,rfl⟩
    ·rintro σ H4 ⟨f,j,rfl,rfl⟩;refine ⟨_,rfl,(by show 1<=sizeLine;decide),λp hp=>?_⟩;exact q p f _ (g1.free hp) (g1.trans (Vc hp _)) v3
end
def wB (K:Fg):List PV->Prop:=λxs=>∃(ns:List Int)(k:Int),xs=[scr K ns,.at (.int k)]/\ns.length<=63/\0<=k/\k<=12
def vP:List PV->PV->Prop:=λ_ y=>∃ n:Int,y = .lst [.at (.int n)]
theorem Lb {K:Fg}(h:spN (wB K) vP vs H Q E):UJ K vs H Q E:=by obtain ⟨Hs,xs,sm,r,⟨ns,k,rfl,h63,k0,k1⟩,q⟩:=h;obtain ⟨v,w,rfl,p1,p2⟩:=reps_cons.mp r;obtain ⟨u,z,rfl,p3,p4⟩:=reps_cons.mp p2;cases reps_nil.mp p4;cases rep_at.mp p3;obtain ⟨a,rfl,hS⟩:=MJ sm p1;exact ⟨a,ns,k,rfl,hS,h63,k0,k1,λb n H' nb g e=>q _ b Hs H' ⟨n,rfl⟩ ⟨.refl _,g,sm.trans g,λ_ _ z=>z⟩ nb (sm.free nb) ⟨_,e,.one (rep_at.mpr rfl)⟩⟩
section
theorem Cw (F:Fun K "_law_stream" "_law_stream" XJ f fd)(Ev:Fn P w K mg base 1 "_law_mixed" ["cell","k"] Vf)(Aw:mg "len"=none)(Az:mg "range"=none)(Na:mg "sum"=none):FnOk P w K mg base v8 2 f fd ["script","k"] (spN (wB K) vP):=(Cy F Ev Aw Az Na).imp λ_ _ _ _ h=>Lb h
end
def BIG:Int:=10 ^ 30
theorem Pi {k:Int}(h0:0<=k)(h1:k<=2*BIG):k.natAbs.log2<9000:=by
 have hb:(2*BIG).toNat<2 ^ 9000:=yE (show (2*BIG).toNat<2 ^ 110 by decide +kernel) (Nat.pow_le_pow_right (by decide) (by decide));have:k.natAbs<2 ^ 9000:=by omega
 by_cases hz:k.natAbs=0
 ·rw [hz];decide
 ·exact (Nat.log2_lt hz).mpr this
theorem cdiv {n k:Int}(h0:0<k)(h1:k<=2*BIG):zI n k:=⟨h0,Pi (by omega) h1⟩
theorem QJ:(1000:Int)<=BIG:=by decide +kernel
def v6 (rss:List (List Int)):PV:= .lst (rss.map λr=> .lst (r.map λn=> .at (.int n)))
def Qp:List PV->Prop:=λxs=>∃ s:Int,xs=[.at (.int s)]/\4<=s/\s<=BIG
def QO:List PV->PV->Prop:=λxs y=>∃ s r:Int,xs=[.at (.int s)]/\y = .at (.int r)/\0<=r/\r<s
abbrev JV:Stmt:=top 44
abbrev Wl (K:Fg):WS:=(wSeq (xE 2 (wTk 0 (wP (dC (.int 3)))))
  (wSeq (xR (wPT (dT (j4 pEq (z8 2) (dC (.int 0))))) (ze (wP (dC (.int 0)))) jx)
  (ze (wTk 0 (wP (j4 u9 (k7 (q0 (dC (.int 4)) (q0 (x9 1) x0))) (j4 xN (z8 2) (dC (.int 1)))))))))
theorem sc_rinse:y6 ["stream","scale","way"] ["stream","scale"] (j6 JV):=b7
theorem Bm:∀ xs,Qp xs->xs.length+1=(["stream","scale"]:List Str).length:=by rintro xs ⟨h,rfl,_⟩;rfl
theorem Bq {K:Fg}:∀ xs n,Qp xs->Wl K (i5 n::xs.map .sh++List.replicate ((["stream","scale","way"]:List Str).length-(xs.length+1)) .no) (λ_=>False) λy ε=>QO xs y/\QD 0 ε:=by
 rintro xs n ⟨s,rfl,h1,h4⟩;have hB:=QJ;have a0:0<=n % 3:=ye _ (by decide);have a1:n % 3<3:=yj _ (by decide);refine ⟨⟨n,rfl⟩,_,rfl,n,3,rfl,rfl,⟨by decide,by decide⟩,?_⟩;have c:n % 3=0∨n % 3=1∨n % 3=2:=by omega
 generalize n / 3=n1;rcases c with e|e|e<;>rw [e]
 ·refine LO (p7 (v:=true) rfl) ?_;exact ⟨_,rfl,⟨s,0,rfl,rfl,by omega,by omega⟩,_,rfl⟩
 ·refine QG (p7 (v:=false) rfl) ?_;have d0:0<=n1 % 4:=ye _ (by decide);have d1:n1 % 4<4:=yj _ (by decide);exact ⟨⟨n1,rfl⟩,_,y7 (r9 rfl l2) rfl rfl,n1,4,rfl,rfl,⟨by decide,by decide⟩,⟨s,n1 % 4,rfl,rfl,d0,by omega⟩,_,rfl⟩
 ·refine QG (p7 (v:=false) rfl) ?_;have d0:0<=n1 % s:=ye _ (by omega);have d1:n1 % s<s:=yj _ (by omega);exact ⟨⟨n1,rfl⟩,_,y7 (r9 rfl l2) rfl rfl,n1,s,rfl,rfl,cdiv (by omega) (by omega),⟨s,n1 % s,rfl,rfl,d0,d1⟩,_,rfl⟩
theorem Cu (F:Fun K "_law_rinse" "_law_rinse" JV f fd)(A8:Fn P w K mg base 1 "_law_take" ["stream","many"] wG):FnOk P w K mg base v8 2 f fd ["stream","scale"] (spD Qp QO) :=
 okD (k:=1) (b:=Wl K) F sc_rinse Bm (λcdv A outer s H E hr=>⟨_,(@j9 _ _ _ _ _ (@qp _ _ 2 _ _ _ _ sc_rinse.nd rfl (Or.inl rfl) (qy A8 hr (by decide) rfl (@z5 _ _ _ _ _ (pv 0) (@z5 _ _ _ _ _ j3 j8 (by rfl)) (by rfl))) (by rfl) (.inl rfl))
  (@j9 _ _ _ _ _ (qe (qq (YN (K:=K) (hu6 hr) rfl) (pv 2) j3 (o3 _)) (@v5 _ _ _ (u4 j3)) qf)
  (@v5 _ _ _ (u4 (qy A8 hr (by decide) rfl (@z5 _ _ _ _ _ (pv 0) (@z5 _ _ _ _ _ (iW (K:=K) rfl (@c8 _ _ _ _ (@z5 _ _ _ _ _ j3 (@z5 _ _ _ _ _ (pv 1) j8 (by rfl)) (by rfl))) (w5 (je) (pv 2) j3)) j8 (by rfl)) (by rfl))))))),
  (by repeat' first|infer_instance|(refine @Mi.instSemWSTSeqWSeq _ _ _ _ ?_ ?_)|(apply @Mi.instSemWSTForWForOfSemWIOfSemWG))⟩) Bq
def Low (x:Str):Prop:=∀ c∈x.cps.toList,97<=c/\c<=122
structure VD (x:Str):Prop where
 low:Low x
 one:1<=x.length
 eight:x.length<=8
def wI (ss:List Str):List PV:=ss.map λs=> .at (.str s)
def letN (k m:Nat):Str:=jo ⟨#[97+k]⟩ m
theorem GJ {k:Int}{j:Nat}(e0:k=j)(h1:j<26):u9 (.at (.str "abcdefghijklmnopqrstuvwxyz")) (.at (.int k))=some (.at (.str ⟨#[97+j]⟩)):=by
 subst e0;have q:∀ j:_root_.Fin 26,L2.atI (("abcdefghijklmnopqrstuvwxyz":Str).cps.toList) ((j:Nat):Int)=some (97+(j:Nat)):=by decide +kernel
 have e:=q ⟨j,h1⟩;show (if ("abcdefghijklmnopqrstuvwxyz":Str).length<=lim then (L2.atI (("abcdefghijklmnopqrstuvwxyz":Str).cps.toList) (j:Int)).map _ else none)=_;rw [if_pos (by decide +kernel),e];rfl
theorem Pu {c:Nat}{k:Int}(e:k=m)(h1:1<=m)(h8:m<=8):Xx (.at (.str ⟨#[c]⟩)) (.at (.int k))=some (.at (.str (jo ⟨#[c]⟩ m))):=by subst e;show (if _ then _ else none)=_;rw [if_pos ⟨by omega,by omega,(show 1<=1 from yS 1),(show 1<=1000 by decide)⟩];rw [uA]
structure Cl where
 name:Str
 hue:Nat
 len:Int
 due:Int
 wt:Int
def Cl.pv (c:Cl):PV:= .tup [.at (.str c.name),.at (.int c.hue),.at (.int c.len),.at (.int c.due),.at (.int c.wt)]
structure Cl.Ok (h:Nat)(c:Cl):Prop where
 nm:VD c.name
 hu:c.hue<h
 l1:1<=c.len
 l2:c.len<=BIG
 d1:-BIG<=c.due
 d2:c.due<=BIG
 w1:1<=c.wt
 w2:c.wt<=BIG
structure Dr where
 h:Nat
 rss:List (List Int)
 cls:List Cl
 last:Int
 time:Int
variable{d:Dr}
structure Dr.Ok (d:Dr):Prop where
 h1:1<=d.h
 h4:d.h<=4
 rin:qY d.h d.rss
 ten:d.cls.length<=10
 cl:∀ c∈d.cls,c.Ok d.h
 nd:(d.cls.map Cl.name).Nodup
 l1:-1<=d.last
 l2:d.last<d.h
 t1:0<=d.time
 t2:d.time<60*BIG
theorem Qs {a:MA}{k:Nat}(h:a ε=some [.at (.int (k:Int))])(hk:k<=lim):zT a ε=some (zE 0 k):=by have hlim:(lim:Int)=1000000:=rfl;have hl:lim=1000000:=rfl;unfold zT;rw [h];show (if -(lim:Int)<=(k:Int)/\(k:Int)<=(lim:Int) then some (zE 0 (k:Int).toNat) else none)=_;rw [if_pos ⟨by omega,by omega⟩,uA]
def S26:Int:=10 ^ 26
theorem GG:1000<=S26:=by decide +kernel
theorem GF:50*S26<=BIG:=by decide +kernel
theorem Kt:jA 10 26:=⟨by decide,by decide,by decide⟩
theorem pow26:pPow (.at (.int 10)) (.at (.int 26))=some (.at (.int S26)):=by show (if jA 10 26 then some (V.int (10 ^ (26:Int).toNat)) else none).map PV.at=_;rw [if_pos Kt];rfl
def Dr.hp (d:Dr)(sc:Int)(ns:List Str):PV:= .tup [v6 d.rss,.at (.int d.last),.at (.int d.time),.at (.int sc),.lst (wI ns)]
def Qo (K:Fg):List PV->Prop:=λxs=>∃ ns:List Int,xs=[scr K ns]/\ns.length<=63
def QN:List PV->PV->Prop:=λ_ y=>∃(d:Dr)(sc:Int)(ns:List Str),y=d.hp sc ns/\d.Ok/\d.cls=[]
abbrev JG:Stmt:=top 45
abbrev VV (K:Fg):WS:=(wSeq (Gp 1 (wB K) vP (qj (wP (x9 0)) (qj (wP (dC (.int 0))) zv)))
  (wSeq (xE 2 (zd qG (wP (dC (.int 1))) (wTk 1 (wP (dC (.int 4))))))
  (wSeq (xE 3 (zd u9 (wP (k7 (q0 (dC (.int 4)) (q0 (dC (.int 10)) (q0 (dC (.int 10)) (q0 (dC (.int 1000)) (q0 (j4 pPow (dC (.int 10)) (dC (.int 26))) x0))))))) (wTk 1 (wP (dC (.int 5))))))
  (wSeq (xE 4 (wTk 1 (wP (dC (.int 26)))))
  (wSeq (xE 5 (zd xN (wTk 1 (wP (j4 qG (z8 2) (dC (.int 1))))) (wP (dC (.int 1)))))
  (wSeq (xE 6 (wTk 1 (zd u9 (wP (k7 (q0 (dC (.int 1)) (q0 (dC (.int 10)) (q0 (x9 3) x0))))) (wTk 1 (wP (dC (.int 3)))))))
  (wSeq (xE 7 (XU [none,some 2,some 1,some 3] [0] (wIp (zT (q0 (j4 qG (z8 2) (dC (.int 1))) x0))) (v9 0) QF (XU [none,some 2,some 3] [0] (wIp (zT (q0 (x9 1) x0))) (v9 0) QF (Vv 1 Qp QO (qj (wP (x9 2)) zv)))))
  (wSeq (xE 8 (wP (dC (.str "abcdefghijklmnopqrstuvwxyz"))))
  (wSeq (xE 9 (wP (c5 [none,some 8,some 4] [0] (zT (q0 (dC (.int 14)) x0)) (v9 0) k8 (j4 Xx (j4 u9 (z8 1) (j4 jM (j4 qG (z8 2) (j4 pDiv (z8 0) (dC (.int 8)))) (dC (.int 26)))) (j4 qG (dC (.int 1)) (j4 jM (z8 0) (dC (.int 8))))))))
  (ze (wP (c4 (q0 (x9 7) (q0 (x9 5) (q0 (x9 6) (q0 (x9 3) (q0 (x9 9) x0)))))))))))))))))
theorem sc_house:y6 ["script","stream","hues","scale","letter","last","time","rinses","letters","names"] ["script"] (j6 JG):=b7
theorem Bl {K:Fg}:∀ xs,Qo K xs->xs.length=(["script"]:List Str).length:=by rintro xs ⟨ns,rfl,_⟩;rfl
theorem Bo {K:Fg}:∀ xs,Qo K xs->VV K (xs.map .sh++List.replicate ((["script","stream","hues","scale","letter","last","time","rinses","letters","names"]:List Str).length-xs.length) .no) (λ_=>False) λy _=>QN xs y:=by
 rintro xs ⟨ns,rfl,h63⟩;have hB:=QJ;have hS:=GG;have hb:=GF;have hlim:lim=1000000:=rfl;refine ⟨_,rfl,_,rfl,⟨ns,0,rfl,h63,by decide,by decide⟩,?_⟩;rintro y ⟨n,rfl⟩
 -- hues
 refine ⟨_,rfl,⟨n,rfl⟩,_,rfl,n,4,rfl,rfl,⟨by decide,by decide⟩,_,rfl,?_⟩;have a0:0<=n % 4:=ye _ (by decide);have a1:n % 4<4:=yj _ (by decide);obtain ⟨h,hh⟩:=uE (show 0<=1+n % 4 by omega);generalize n / 4=n1;have hh1:1<=h:=by omega
 have hh4:h<=4:=by omega
 rw [hh];clear a0 a1 hh
 -- scale
 show wSeq _ _ [.sh (scr K ns),i5 n1,.sh (.at (.int (h:Int))),.no,.no,.no,.no,.no,.no,.no] _ _;have c0:0<=n1 % 5:=ye _ (by decide);have c1:n1 % 5<5:=yj _ (by decide);have ixt:∃ k:Int,u9 (.lst [.at (.int 4),.at (.int 10),.at (.int 10),.at (.int 1000),.at (.int S26)]) (.at (.int (n1 % 5)))=some (.at (.int k))/\4<=k/\k<=S26:=by
  have c:n1 % 5=0∨n1 % 5=1∨n1 % 5=2∨n1 % 5=3∨n1 % 5=4:=by omega
  rcases c with e|e|e|e|e<;>rw [e]
  ·exact ⟨4,rfl,by decide,by omega⟩
  ·exact ⟨10,rfl,by decide,by omega⟩
  ·exact ⟨10,rfl,by decide,by omega⟩
  ·exact ⟨1000,rfl,by decide,by omega⟩
  ·exact ⟨S26,rfl,by omega,by omega⟩
 obtain ⟨sc,esc,sc4,sc26⟩:=ixt;refine ⟨_,r9 (j0 rfl (j0 rfl (j0 rfl (j0 rfl (j0 (y7 rfl rfl pow26) rfl))))) l5,⟨n1,rfl⟩,_,rfl,n1,5,rfl,rfl,⟨by decide,by decide⟩,_,esc,?_⟩;clear esc c0 c1;generalize n1 / 5=n4
 -- letter
 refine ⟨⟨n4,rfl⟩,_,rfl,n4,26,rfl,rfl,⟨by decide,by decide⟩,?_⟩;have d0:0<=n4 % 26:=ye _ (by decide);have d1:n4 % 26<26:=yj _ (by decide);obtain ⟨le,hle⟩:=uE d0;rw [hle] at d1 ⊢;generalize n4 / 26=n5
 -- last
 refine ⟨⟨n5,rfl⟩,_,rfl,n5,(h:Int)+1,rfl,rfl,cdiv (by omega) (by omega),_,rfl,_,rfl,?_⟩;have e0:0<=n5 % ((h:Int)+1):=ye _ (by omega);have e1:n5 % ((h:Int)+1)<(h:Int)+1:=yj _ (by omega);generalize n5 % ((h:Int)+1)=la at e0 e1;generalize n5 / ((h:Int)+1)=n6
 -- time
 show wSeq _ _ [.sh (scr K ns),i5 n6,.sh (.at (.int (h:Int))),.sh (.at (.int sc)),.sh (.at (.int (le:Int))),.sh (.at (.int (la-1))),.no,.no,.no,.no] _ _;have f0:0<=n6 % 3:=ye _ (by decide);have f1:n6 % 3<3:=yj _ (by decide);have ixt:∃ k:Int,u9 (.lst [.at (.int 1),.at (.int 10),.at (.int sc)]) (.at (.int (n6 % 3)))=some (.at (.int k))/\0<k/\k<=S26:=by
  have c:n6 % 3=0∨n6 % 3=1∨n6 % 3=2:=by omega
  rcases c with e|e|e<;>rw [e]
  ·exact ⟨1,rfl,by decide,by omega⟩
  ·exact ⟨10,rfl,by decide,by omega⟩
  ·exact ⟨sc,rfl,by omega,sc26⟩
 obtain ⟨k,ek,k0,k1⟩:=ixt;refine ⟨⟨n6,rfl⟩,_,r9 rfl l3,⟨n6,rfl⟩,_,rfl,n6,3,rfl,rfl,⟨by decide,by decide⟩,_,ek,n6 / 3,k,rfl,rfl,cdiv k0 (by omega),?_⟩;have t0:0<=n6 / 3 % k:=ye _ (by omega);have t1:n6 / 3 % k<k:=yj _ k0;generalize n6 / 3 % k=ti at t0 t1;generalize n6 / 3 / k=n7
 -- rinses
 show wSeq _ _ [.sh (scr K ns),i5 n7,.sh (.at (.int (h:Int))),.sh (.at (.int sc)),.sh (.at (.int (le:Int))),.sh (.at (.int (la-1))),.sh (.at (.int ti)),.no,.no,.no] _ _;refine ⟨zE 0 (h+1),Qs rfl (by omega),rfl,by rw [wE];omega,?_⟩;refine WK (λrest zs ε=>∃(m:Int)(rss:List (List Int)),ε=[.no,.sh (.at (.int (h:Int))),i5 m,.sh (.at (.int sc))]/\zs=rss.map (λr=>PV.lst (r.map λn=> .at (.int n)))/\rss.length+rest.length=h+1/\(∀ r∈rss,r.length=h)/\(∀ r∈rss,∀ n∈r,0<=n/\n<BIG)) ?_ ?_ _ [] _ ⟨n7,[],rfl,rfl,by rw [wE];simp,(λ_ z=>nomatch z),(λ_ z=>nomatch z)⟩
 rotate_left
 ·rintro x rest zs ε ⟨m,rss,rfl,rfl,e1,e2,e3⟩;simp only [yz] at e1;refine ⟨_,rfl,zE 0 h,Qs rfl (by omega),rfl,by rw [wE];omega,?_⟩;refine WK (λrest2 zs2 ε=>∃(m:Int)(r:List Int),ε=[.no,i5 m,.sh (.at (.int sc))]/\zs2=r.map (λn=>PV.at (.int n))/\r.length+rest2.length=h/\(∀ n∈r,0<=n/\n<BIG)) ?_ ?_ _ [] _ ⟨m,[],rfl,rfl,by rw [wE];simp,(λ_ z=>nomatch z)⟩
  ·rintro zs2 ε ⟨m2,r,rfl,rfl,g1,g2⟩;refine ⟨(λz=>by obtain ⟨y,z⟩:=z;cases z),m2,rss++[r],rfl,by rw [yx];rfl,by rw [yD];simp;omega,?_,?_⟩
   ·intro q hq;rcases yB.mp hq with hq|hq
    ·exact e2 q hq
    ·rw [yO.mp hq];simpa using g1
   ·intro q hq;rcases yB.mp hq with hq|hq
    ·exact e3 q hq
    ·rw [yO.mp hq];exact g2
  ·rintro x2 rest2 zs2 ε ⟨m2,r,rfl,rfl,g1,g2⟩;simp only [yz] at g1;refine ⟨_,rfl,⟨_,rfl⟩,_,rfl,⟨_,rfl⟩,⟨sc,rfl,sc4,by omega⟩,?_⟩;rintro y n8 ⟨s,z,ex,rfl,z0,z1⟩;have ex:sc=s:=by injection ex with ex _;injection ex with ex;injection ex
   refine ⟨n8,r++[z],rfl,by rw [yx];rfl,by rw [yD];simp;omega,λq hq=>?_⟩;rcases yB.mp hq with hq|hq
   ·exact g2 q hq
   ·rw [yO.mp hq];exact ⟨z0,by omega⟩
 rintro zs ε ⟨m,rss,rfl,rfl,e1,e2,e3⟩;refine ⟨(λz=>by obtain ⟨y,z⟩:=z;cases z),?_⟩;rw [List.length_nil,Nat.add_zero] at e1;have hr:qY h rss:=⟨e1,λr hr=>⟨e2 r hr,e3 r hr⟩⟩
 -- names
 show wSeq _ _ [.sh (scr K ns),i5 m,.sh (.at (.int (h:Int))),.sh (.at (.int sc)),.sh (.at (.int (le:Int))),.sh (.at (.int (la-1))),.sh (.at (.int ti)),.sh (v6 rss),.no,.no] _ _;refine ⟨_,rfl,?_⟩;refine ⟨.lst (wI ((List.range 14).map λj=>letN ((le+j / 8) % 26) (1+j % 8))),?_,?_⟩
 ·refine (qm (λk:Nat=>PV.at (.int ((0:Int)+k))) (λk=>PV.at (.str (letN ((le+k / 8) % 26) (1+k % 8)))) (List.range 14) (Qs (k:=14) rfl (by decide)) rfl (by decide) λk _=>⟨_,rfl,y7 (y7 rfl rfl (GJ (j:=(le+k / 8) % 26) (by omega) (by omega))) rfl (Pu (m:=1+k % 8) (by omega) (by omega) (by omega))⟩).trans ?_;unfold wI;rw [yq];rfl
 ·exact ⟨_,rfl,⟨h,rss,[],la-1,ti⟩,sc,_,rfl,⟨hh1,hh4,hr,(by show 0<=10;decide),(λ_ z=>nomatch z),uy,(by show -1<=la-1;omega),(by show la-1<(h:Int);omega),t0,(by show ti<60*BIG;omega)⟩,rfl⟩
theorem Cd (F:Fun K "_law_house" "_law_house" JG f fd)(J1:Fn P w K mg base 2 "_law_rinse" ["stream","scale"] (spD Qp QO))(Ec:Fn P w K mg base 2 "_law_stream" ["script","k"] (spN (wB K) vP))(A8:Fn P w K mg base 1 "_law_take" ["stream","many"] wG)(Az:mg "range"=none):FnOk P w K mg base v8 3 f fd ["script"] (spV (Qo K) QN) :=
 okV (k:=2) (b:=VV K) F sc_house Bl (λcdv A outer s H E hr=>⟨_,(@j9 _ _ _ _ _ (@qp _ _ 1 _ _ _ _ sc_house.nd rfl (Or.inr rfl) (qy Ec hr (by decide) rfl (@z5 _ _ _ _ _ (pv 0) (@z5 _ _ _ _ _ j3 j8 (by rfl)) (by rfl))) (by rfl) (.inl rfl))
  (@j9 _ _ _ _ _ (@qp _ _ 2 _ _ _ _ sc_house.nd rfl (Or.inr rfl) (w5 (xW (K:=K) rfl) j3 (qy A8 hr (by decide) rfl (@z5 _ _ _ _ _ (pv 1) (@z5 _ _ _ _ _ j3 j8 (by rfl)) (by rfl)))) (by rfl) (.inl rfl))
  (@j9 _ _ _ _ _ (@qp _ _ 3 _ _ _ _ sc_house.nd rfl (Or.inr rfl) (iW (K:=K) rfl (@c8 _ _ _ _ (@z5 _ _ _ _ _ j3 (@z5 _ _ _ _ _ j3 (@z5 _ _ _ _ _ j3 (@z5 _ _ _ _ _ j3 (@z5 _ _ _ _ _ (w5 (vq) j3 j3) j8 (by rfl)) (by rfl)) (by rfl)) (by rfl)) (by rfl))) (qy A8 hr (by decide) rfl (@z5 _ _ _ _ _ (pv 1) (@z5 _ _ _ _ _ j3 j8 (by rfl)) (by rfl)))) (by rfl) (.inl rfl))
  (@j9 _ _ _ _ _ (@qp _ _ 4 _ _ _ _ sc_house.nd rfl (Or.inr rfl) (qy A8 hr (by decide) rfl (@z5 _ _ _ _ _ (pv 1) (@z5 _ _ _ _ _ j3 j8 (by rfl)) (by rfl))) (by rfl) (.inl rfl))
  (@j9 _ _ _ _ _ (@qp _ _ 5 _ _ _ _ sc_house.nd rfl (Or.inl rfl) (w5 (je) (qy A8 hr (by decide) rfl (@z5 _ _ _ _ _ (pv 1) (@z5 _ _ _ _ _ (w5 (xW (K:=K) rfl) (pv 2) j3) j8 (by rfl)) (by rfl))) j3) (by rfl) (.inl rfl))
  (@j9 _ _ _ _ _ (@qp _ _ 6 _ _ _ _ sc_house.nd rfl (Or.inl rfl) (qy A8 hr (by decide) rfl (@z5 _ _ _ _ _ (pv 1) (@z5 _ _ _ _ _ (iW (K:=K) rfl (@c8 _ _ _ _ (@z5 _ _ _ _ _ j3 (@z5 _ _ _ _ _ j3 (@z5 _ _ _ _ _ (pv 3) j8 (by rfl)) (by rfl)) (by rfl))) (qy A8 hr (by decide) rfl (@z5 _ _ _ _ _ (pv 1) (@z5 _ _ _ _ _ j3 j8 (by rfl)) (by rfl)))) j8 (by rfl)) (by rfl))) (by rfl) (.inl rfl))
  (@j9 _ _ _ _ _ (wC (i:=7) (N':=["row","hues","stream","scale"]) (cap:=[none,some 2,some 1,some 3]) (qb rfl rfl rfl) rfl sc_house.nd rfl rfl (wA rfl Az (@z5 _ _ _ _ _ (w5 (xW (K:=K) rfl) (pv 2) j3) j8 (by rfl))) (λ_ _ _ _ _ _=>(p5 (i:=0) (by show (["row","hues","stream","scale"]:List Str).Nodup;decide +kernel) rfl (Or.inl rfl))) (λ_ _ _ _ _ _=>qg) (λ_ _ _ _ _ _=>(qV (N':=["hue","stream","scale"]) (cap:=[none,some 2,some 3]) (qb rfl rfl rfl) rfl (wA rfl Az (@z5 _ _ _ _ _ (pv 1) j8 (by rfl))) (λ_ _ _ _ _ _=>(p5 (i:=0) (by show (["hue","stream","scale"]:List Str).Nodup;decide +kernel) rfl (Or.inl rfl))) (λ_ _ _ _ _ _=>qg) (λ_ _ _ _ _ _=>(qy J1 hr (by decide) rfl (@z5 _ _ _ _ _ (pv 1) (@z5 _ _ _ _ _ (pv 2) j8 (by rfl)) (by rfl)))))))
  (@j9 _ _ _ _ _ (@qp _ _ 8 _ _ _ _ sc_house.nd rfl (Or.inr rfl) xj (by rfl) (.inl rfl))
  (@j9 _ _ _ _ _ (wC (i:=9) (N':=["j","letters","letter"]) (cap:=[none,some 8,some 4]) (qb rfl rfl rfl) rfl sc_house.nd rfl rfl (wA rfl Az (@z5 _ _ _ _ _ j3 j8 (by rfl))) (λ_ _ _ _ _ _=>(p5 (i:=0) (by show (["j","letters","letter"]:List Str).Nodup;decide +kernel) rfl (Or.inl rfl))) (λ_ _ _ _ _ _=>qg) (λ_ _ _ _ _ _=>(w5 (CK) (iW (K:=K) rfl (pv 1) (w5 (zn) (w5 (xW (K:=K) rfl) (pv 2) (w5 (ZU) (pv 0) j3)) j3)) (w5 (xW (K:=K) rfl) j3 (w5 (zn) (pv 0) j3)))))
  (@v5 _ _ _ (u4 (@m9 _ _ _ _ _ (@z5 _ _ _ _ _ (pv 7) (@z5 _ _ _ _ _ (pv 5) (@z5 _ _ _ _ _ (pv 6) (@z5 _ _ _ _ _ (pv 3) (@z5 _ _ _ _ _ (pv 9) j8 (by rfl)) (by rfl)) (by rfl)) (by rfl)) (by rfl)))))))))))))),
  (by repeat' first|infer_instance|(refine @Mi.instSemWSTSeqWSeq _ _ _ _ ?_ ?_)|(apply @Mi.instSemWSTForWForOfSemWIOfSemWG))⟩) Bo
abbrev JM:Stmt:=top 4
abbrev Wb:MS:=(b8 (zz (z9 i4 (q0 (z8 0) (q0 (dC (.ty "int")) x0))) (QX (z9 i4 (q0 (z8 0) (q0 (dC (.ty "bool")) x0))))))
def jc:List PV->Option PV:=p9 1 1 Wb
theorem Mv:y6 ["thing"] ["thing"] (j6 JM):=b7
theorem Cj (F:Fun K "is_whole" "is_whole" JM f fd)(Ng:mg "bool"=none)(N2:mg "int"=none)(Ah:mg "isinstance"=none):FnOk P w K mg base v8 1 f fd ["thing"] (y8 jc) :=
 okP (k:=0) (b:=Wb) F Mv rfl λcdv A outer s H E hr=>⟨_,(v5 (u4 (Qm (t6 (vW (K:=K) rfl) rfl Ah zx (aC (pv 0) (aW (vy (v:= .ty "int") rfl N2 GV rfl)))) (Xz (De (t6 (vW (K:=K) rfl) rfl Ah zx (aC (pv 0) (aW (vy (v:= .ty "bool") rfl Ng GT rfl))))))))),
  inferInstance⟩
abbrev JT:Stmt:=top 7
abbrev Wi:MS:=(b8 (j4 u9 (z8 0) (dC (.int 0))))
def qE:List PV->Option PV:=p9 1 1 Wi
theorem MC:y6 ["cloth"] ["cloth"] (j6 JT):=b7
theorem Cs (F:Fun K "name_of" "name_of" JT f fd):FnOk P w K mg base v8 1 f fd ["cloth"] (y8 qE) :=
 okP (k:=0) (b:=Wi) F MC rfl λcdv A outer s H E hr=>⟨_,(v5 (u4 (iW (K:=K) rfl (pv 0) j3))),
  inferInstance⟩
abbrev JH:Stmt:=top 8
abbrev VW:MS:=(b8 (j4 u9 (z8 0) (dC (.int 1))))
def Xn:List PV->Option PV:=p9 1 1 VW
theorem Mp:y6 ["cloth"] ["cloth"] (j6 JH):=b7
theorem Ce (F:Fun K "hue_of" "hue_of" JH f fd):FnOk P w K mg base v8 1 f fd ["cloth"] (y8 Xn) :=
 okP (k:=0) (b:=VW) F Mp rfl λcdv A outer s H E hr=>⟨_,(v5 (u4 (iW (K:=K) rfl (pv 0) j3))),
  inferInstance⟩
abbrev JQ:Stmt:=top 9
abbrev Wg:MS:=(b8 (j4 u9 (z8 0) (dC (.int 2))))
def ZM:List PV->Option PV:=p9 1 1 Wg
theorem My:y6 ["cloth"] ["cloth"] (j6 JQ):=b7
theorem Cp (F:Fun K "length_of" "length_of" JQ f fd):FnOk P w K mg base v8 1 f fd ["cloth"] (y8 ZM) :=
 okP (k:=0) (b:=Wg) F My rfl λcdv A outer s H E hr=>⟨_,(v5 (u4 (iW (K:=K) rfl (pv 0) j3))),
  inferInstance⟩
abbrev JF:Stmt:=top 10
abbrev VU:MS:=(b8 (j4 u9 (z8 0) (dC (.int 3))))
def ZL:List PV->Option PV:=p9 1 1 VU
theorem Mo:y6 ["cloth"] ["cloth"] (j6 JF):=b7
theorem Cc (F:Fun K "due_of" "due_of" JF f fd):FnOk P w K mg base v8 1 f fd ["cloth"] (y8 ZL) :=
 okP (k:=0) (b:=VU) F Mo rfl λcdv A outer s H E hr=>⟨_,(v5 (u4 (iW (K:=K) rfl (pv 0) j3))),
  inferInstance⟩
abbrev Va:Stmt:=top 11
abbrev Wp:MS:=(b8 (j4 u9 (z8 0) (dC (.int 4))))
def ZN:List PV->Option PV:=p9 1 1 Wp
theorem MI:y6 ["cloth"] ["cloth"] (j6 Va):=b7
theorem CD (F:Fun K "weight_of" "weight_of" Va f fd):FnOk P w K mg base v8 1 f fd ["cloth"] (y8 ZN) :=
 okP (k:=0) (b:=Wp) F MI rfl λcdv A outer s H E hr=>⟨_,(v5 (u4 (iW (K:=K) rfl (pv 0) j3))),
  inferInstance⟩
abbrev JJ:Stmt:=top 12
abbrev VY:MS:=(b8 (zz (z9 jc (q0 (x9 0) x0)) (j4 pGe (z8 0) (z8 1))))
def qD:List PV->Option PV:=p9 2 2 VY
theorem Mr:y6 ["thing","least"] ["thing","least"] (j6 JJ):=b7
theorem Cg (F:Fun K "is_from" "is_from" JJ f fd)(A0:Fn P w K mg base 1 "is_whole" ["thing"] (y8 jc)):FnOk P w K mg base v8 2 f fd ["thing","least"] (y8 qD) :=
 okP (k:=1) (b:=VY) F Mr rfl λcdv A outer s H E hr=>⟨_,(v5 (u4 (Qm (fW A0 hr (aW (pv 0))) (Xz (Ja (Xv) (pv 0) (pv 1) (o3 _)))))),
  inferInstance⟩
abbrev JK:Stmt:=top 3
abbrev VZ:MS:=(u6 (m5 (dOr (c6 (i9 (z9 i4 (q0 (z8 0) (q0 (dC (.ty "str")) x0))))) (c6 (dT (zj pLe pLe (dC (.int 1)) (z9 qK (q0 (z8 0) x0)) (dC (.int 8)))))) (b8 (dC (.bl false))) n9)
  (b8 (z9 jf (q0 (c5 [none] [0] (dItS (x9 0)) (v9 0) k8 (zj pLeS pLeS (dC (.str "a")) (z8 0) (dC (.str "z")))) x0))))
def Xo:List PV->Option PV:=p9 1 1 VZ
theorem Ms:y6 ["thing"] ["thing"] (j6 JK):=b7
theorem Ch (F:Fun K "is_name" "is_name" JK f fd)(Ex:mg "all"=none)(Ah:mg "isinstance"=none)(Aw:mg "len"=none)(Nq:mg "str"=none)(D5:mg "LONGEST_NAME"=some (.int 8 D6)):FnOk P w K mg base v8 1 f fd ["thing"] (y8 Xo) :=
 okP (k:=0) (b:=VZ) F Ms rfl λcdv A outer s H E hr=>⟨_,(j9 (qe (PW.pt (jP (xP (zr (K:=K) rfl (t6 (vW (K:=K) rfl) rfl Ah zx (aC (pv 0) (aW (vy (v:= .ty "str") rfl Nq GX rfl)))) (λ_=>rfl))) (vC (xP (Ub (Xw) (Xw) j3 (t6 (zR (K:=K) rfl) rfl Aw PySem.boot_len (aW (pv 0))) (jO (v:= .int 8) rfl D5 ⟨_,rfl⟩)))))) (v5 (u4 qU)) qf)
  (v5 (u4 (t6 (Zf (K:=K) rfl rfl) rfl Ex Ze (aW (qV (N':=["sign"]) (cap:=[none]) (qb rfl rfl rfl) rfl (Dn (pv 0)) (λ_ _ _ _ _ _=>(p5 (i:=0) (by show (["sign"]:List Str).Nodup;decide +kernel) rfl (Or.inl rfl))) (λ_ _ _ _ _ _=>qg) (λ_ _ _ _ _ _=>(Da (YO) (YO) xj (pv 0) xj)))))))),
  inferInstance⟩
abbrev JI:Stmt:=top 13
abbrev VX:MS:=(u6 (m5 (dOr (c6 (i9 (z9 i4 (q0 (z8 0) (q0 (dC (.ty "tuple")) x0))))) (dT (j4 pNe (z9 qK (q0 (z8 0) x0)) (dC (.int 5))))) (b8 (dC (.bl false))) n9)
  (u6 (m5 (dOr (c6 (i9 (z9 Xo (q0 (z9 qE (q0 (x9 0) x0)) x0)))) (dOr (c6 (i9 (z9 qD (q0 (z9 Xn (q0 (x9 0) x0)) (q0 (dC (.int 0)) x0))))) (dT (j4 pGe (z9 Xn (q0 (x9 0) x0)) (z8 1))))) (b8 (dC (.bl false))) n9)
  (b8 (zz (z9 qD (q0 (z9 ZM (q0 (x9 0) x0)) (q0 (dC (.int 1)) x0))) (zz (z9 jc (q0 (z9 ZL (q0 (x9 0) x0)) x0)) (z9 qD (q0 (z9 ZN (q0 (x9 0) x0)) (q0 (dC (.int 1)) x0))))))))
def vo:List PV->Option PV:=p9 2 2 VX
theorem Mq:y6 ["thing","hues"] ["thing","hues"] (j6 JI):=b7
theorem Cf (F:Fun K "is_cloth" "is_cloth" JI f fd)(E9:Fn P w K mg base 1 "due_of" ["cloth"] (y8 ZL))(Ew:Fn P w K mg base 1 "hue_of" ["cloth"] (y8 Xn))(A6:Fn P w K mg base 2 "is_from" ["thing","least"] (y8 qD))(Ez:Fn P w K mg base 1 "is_name" ["thing"] (y8 Xo))(A0:Fn P w K mg base 1 "is_whole" ["thing"] (y8 jc))(Ei:Fn P w K mg base 1 "length_of" ["cloth"] (y8 ZM))(An:Fn P w K mg base 1 "name_of" ["cloth"] (y8 qE))(Ek:Fn P w K mg base 1 "weight_of" ["cloth"] (y8 ZN))(Ah:mg "isinstance"=none)(Aw:mg "len"=none)(Ip:mg "tuple"=none)(Iw:mg "PARTS"=some (.int 5 J0)):FnOk P w K mg base v8 3 f fd ["thing","hues"] (y8 vo) :=
 okP (k:=2) (b:=VX) F Mq rfl λcdv A outer s H E hr=>⟨_,(j9 (qe (PW.pt (jP (xP (zr (K:=K) rfl (t6 (vW (K:=K) rfl) rfl Ah zx (aC (pv 0) (aW (vy (v:= .ty "tuple") rfl Ip GZ rfl)))) (λ_=>rfl))) (vC (qq (zo (K:=K) (hu6 hr) rfl) (t6 (zR (K:=K) rfl) rfl Aw PySem.boot_len (aW (pv 0))) (jO (v:= .int 5) rfl Iw ⟨_,rfl⟩) (o3 _))))) (v5 (u4 qU)) qf)
  (j9 (qe (PW.pt (jP (xP (zr (K:=K) rfl (fW Ez hr (aW (fW An hr (aW (pv 0))))) (λ_=>rfl))) (jP (xP (zr (K:=K) rfl (fW A6 hr (aC (fW Ew hr (aW (pv 0))) (aW j3))) (λ_=>rfl))) (vC (qq (Xv) (fW Ew hr (aW (pv 0))) (pv 1) (o3 _)))))) (v5 (u4 qU)) qf)
  (v5 (u4 (Qm (fW A6 hr (aC (fW Ei hr (aW (pv 0))) (aW j3))) (Qm (fW A0 hr (aW (fW E9 hr (aW (pv 0))))) (Xz (fW A6 hr (aC (fW Ek hr (aW (pv 0))) (aW j3)))))))))),
  inferInstance⟩
abbrev JL:Stmt:=top 24
abbrev Wa:MS:=(u6 (m5 (dOr (c6 (i9 (z9 i4 (q0 (z8 0) (q0 (dC (.ty "list")) x0))))) (dT (j4 pNe (z9 qK (q0 (z8 0) x0)) (z8 1)))) (b8 (dC (.bl false))) n9)
  (b8 (z9 jf (q0 (c5 [none] [0] (k6 (x9 0)) (v9 0) k8 (zz (z9 jc (q0 (x9 0) x0)) (j4 pGe (z8 0) (dC (.int 0))))) x0))))
def jb:List PV->Option PV:=p9 2 2 Wa
theorem Mu:y6 ["row","hues"] ["row","hues"] (j6 JL):=b7
theorem Ci (F:Fun K "is_rinse_row" "is_rinse_row" JL f fd)(A0:Fn P w K mg base 1 "is_whole" ["thing"] (y8 jc))(Ex:mg "all"=none)(Ah:mg "isinstance"=none)(Aw:mg "len"=none)(Ap:mg "list"=none):FnOk P w K mg base v8 2 f fd ["row","hues"] (y8 jb) :=
 okP (k:=1) (b:=Wa) F Mu rfl λcdv A outer s H E hr=>⟨_,(j9 (qe (PW.pt (jP (xP (zr (K:=K) rfl (t6 (vW (K:=K) rfl) rfl Ah zx (aC (pv 0) (aW (vy (v:= .ty "list") rfl Ap zQ rfl)))) (λ_=>rfl))) (vC (qq (zo (K:=K) (hu6 hr) rfl) (t6 (zR (K:=K) rfl) rfl Aw PySem.boot_len (aW (pv 0))) (pv 1) (o3 _))))) (v5 (u4 qU)) qf)
  (v5 (u4 (t6 (Zf (K:=K) rfl rfl) rfl Ex Ze (aW (qV (N':=["number"]) (cap:=[none]) (qb rfl rfl rfl) rfl (@qo _ K _ _ _ rfl (pv 0)) (λ_ _ _ _ _ _=>(p5 (i:=0) (by show (["number"]:List Str).Nodup;decide +kernel) rfl (Or.inl rfl))) (λ_ _ _ _ _ _=>qg) (λ_ _ _ _ _ _=>(Qm (fW A0 hr (aW (pv 0))) (Xz (Ja (Xv) (pv 0) j3 (o3 _))))))))))),
  inferInstance⟩
abbrev JD:Stmt:=top 25
abbrev VS:MS:=(u6 (m5 (c6 (i9 (z9 i4 (q0 (z8 0) (q0 (dC (.ty "list")) x0))))) qx n9)
  (u6 (xJ 1 (j4 xN (z9 qK (q0 (z8 0) x0)) (dC (.int 1))))
  (u6 (m5 (c6 (dT (zj pLe pLe (dC (.int 1)) (z8 1) (dC (.int 4))))) qx n9)
  (m5 (c6 (i9 (z9 jf (q0 (c5 [none,some 1] [0] (k6 (x9 0)) (v9 0) k8 (z9 jb (q0 (x9 0) (q0 (x9 1) x0)))) x0)))) qx n9))))
abbrev Gw (Ab:Addr):YM:=(xn false (m5 (c6 (i9 (z9 i4 (q0 (z8 0) (q0 (dC (.ty "list")) x0))))) qx n9) (yIf (c6 (i9 (z9 i4 (q0 (z8 0) (q0 (dC (.ty "list")) x0))))) (jU Ab) yNo)
  (xn false (xJ 1 (j4 xN (z9 qK (q0 (z8 0) x0)) (dC (.int 1)))) yNo
  (xn false (m5 (c6 (dT (zj pLe pLe (dC (.int 1)) (z8 1) (dC (.int 4))))) qx n9) (yIf (c6 (dT (zj pLe pLe (dC (.int 1)) (z8 1) (dC (.int 4))))) (jU Ab) yNo)
  (yIf (c6 (i9 (z9 jf (q0 (c5 [none,some 1] [0] (k6 (x9 0)) (v9 0) k8 (z9 jb (q0 (x9 0) (q0 (x9 1) x0)))) x0)))) (jU Ab) yNo))))
def wq:List PV->Option PV:=p9 2 1 VS
def jy (Ab:Addr):List PV->Addr->XV->Prop:=yFn 2 1 (Gw Ab)
theorem sc_check_rinses:y6 ["rinses","hues"] ["rinses"] (j6 JD):=b7
theorem Ca (F:Fun K "check_rinses" "check_rinses" JD f fd)(D3:Fn P w K mg base 2 "is_rinse_row" ["row","hues"] (y8 jb))(Ex:mg "all"=none)(Ah:mg "isinstance"=none)(Aw:mg "len"=none)(Ap:mg "list"=none)(En:mg "MOST_HUES"=some (.int 4 Ej))(A5:mg "NoRinses"=some (.ref Ab))(D4:PySem.W.excIn K Ab veMro "ValueError.__new__"=true):FnOk P w K mg base (p8 P w) 3 f fd ["rinses"] (qW wq (jy Ab)) :=
 okPY (k:=2) (b:=VS) (xb:=(Gw Ab)) F sc_check_rinses rfl rfl λcdv A outer s H E hr=>⟨_,(j9 (qe (xP (zr (K:=K) rfl (t6 (vW (K:=K) rfl) rfl Ah zx (aC (pv 0) (aW (vy (v:= .ty "list") rfl Ap zQ rfl)))) (λ_=>rfl))) (v5 (vB rfl rfl rfl A5 D4 jR)) qf)
  (j9 (sW 1 sc_check_rinses.nd (w5 (je) (t6 (zR (K:=K) rfl) rfl Aw PySem.boot_len (aW (pv 0))) j3))
  (j9 (qe (xP (Ub (Xw) (Xw) j3 (pv 1) (jO (v:= .int 4) rfl En ⟨_,rfl⟩))) (v5 (vB rfl rfl rfl A5 D4 jR)) qf)
  (v5 (qe (xP (zr (K:=K) rfl (t6 (Zf (K:=K) rfl rfl) rfl Ex Ze (aW (qV (N':=["row","hues"]) (cap:=[none,some 1]) (qb rfl rfl rfl) rfl (@qo _ K _ _ _ rfl (pv 0)) (λ_ _ _ _ _ _=>(p5 (i:=0) (by show (["row","hues"]:List Str).Nodup;decide +kernel) rfl (Or.inl rfl))) (λ_ _ _ _ _ _=>qg) (λ_ _ _ _ _ _=>(fW D3 hr (aC (pv 0) (aW (pv 1)))))))) (λ_=>rfl))) (v5 (vB rfl rfl rfl A5 D4 jR)) qf))))),
  inferInstance,inferInstance⟩
abbrev JW:Stmt:=top 26
abbrev Wm:MS:=(b8 (c5 [none,none] [0,1] (Zm (q0 (x9 0) x0)) (zZ 2 (qJ (v9 0) (qJ (v9 1) zY))) k8 (c4 (q0 (x9 1) (q0 (k7 (q0 (x9 0) x0)) x0)))))
def Qi:List PV->Option PV:=xT 1 1 Wm
theorem MD:y6 ["row"] ["row"] (j6 JW):=b7
theorem Cv (F:Fun K "straight_ways" "straight_ways" JW f fd)(El:mg "enumerate"=none):FnOk P w K mg base v8 1 f fd ["row"] (qz Qi) :=
 okO (k:=0) (b:=Wm) F MD rfl λcdv A outer s H E hr=>⟨_,(v5 (u4 (qV (N':=["hue","number"]) (cap:=[none,none]) (qb rfl rfl rfl) rfl (Dk (K:=K) rfl rfl El (aW (pv 0))) (λ_ _ _ _ _ _=>(Jh (K:=K) (n:=2) rfl rfl (jj (p5 (i:=0) (by show (["hue","number"]:List Str).Nodup;decide +kernel) rfl (Or.inl rfl)) (jj (p5 (i:=1) (by show (["hue","number"]:List Str).Nodup;decide +kernel) rfl (Or.inl rfl)) Ji)))) (λ_ _ _ _ _ _=>qg) (λ_ _ _ _ _ _=>(@m9 _ _ _ _ _ (aC (pv 1) (aW (@c8 _ _ _ _ (aW (pv 0)))))))))),
  inferInstance⟩
abbrev JN:Stmt:=top 27
abbrev Wc:MS:=(b8 (c4 (q0 (j4 qG (j4 u9 (z8 0) (dC (.int 0))) (j4 u9 (z8 1) (dC (.int 0)))) (q0 (j4 qG (j4 u9 (z8 0) (dC (.int 1))) (j4 u9 (z8 1) (dC (.int 1)))) x0))))
def Qg:List PV->Option PV:=p9 2 2 Wc
theorem Mw:y6 ["way","onward"] ["way","onward"] (j6 JN):=b7
theorem Ck (F:Fun K "joined" "joined" JN f fd):FnOk P w K mg base v8 1 f fd ["way","onward"] (y8 Qg) :=
 okP (k:=0) (b:=Wc) F Mw rfl λcdv A outer s H E hr=>⟨_,(v5 (u4 (@m9 _ _ _ _ _ (aC (w5 (xW (K:=K) rfl) (iW (K:=K) rfl (pv 0) j3) (iW (K:=K) rfl (pv 1) j3)) (aW (w5 (xW (K:=K) rfl) (iW (K:=K) rfl (pv 0) j3) (iW (K:=K) rfl (pv 1) j3))))))),
  inferInstance⟩
abbrev JR:Stmt:=top 28
abbrev Wh:MS:=(b8 (dIf (dT (j4 pLt (j4 u9 (z8 1) (dC (.int 0))) (j4 u9 (z8 0) (dC (.int 0))))) (x9 1) (x9 0)))
def Qh:List PV->Option PV:=p9 2 2 Wh
theorem Mz:y6 ["way","other"] ["way","other"] (j6 JR):=b7
theorem Cq (F:Fun K "lesser" "lesser" JR f fd):FnOk P w K mg base v8 1 f fd ["way","other"] (y8 Qh) :=
 okP (k:=0) (b:=Wh) F Mz rfl λcdv A outer s H E hr=>⟨_,(v5 (u4 (Jb (qq (YQ) (iW (K:=K) rfl (pv 1) j3) (iW (K:=K) rfl (pv 0) j3) (o3 _)) (pv 1) (pv 0)))),
  inferInstance⟩
abbrev JZ:Stmt:=top 29
abbrev Wo:MS:=(b8 (c5 [none,none,some 0,some 1] [0,1] (dZip (q0 (x9 0) (q0 (x9 2) x0))) (zZ 2 (qJ (v9 0) (qJ (v9 1) zY))) k8 (z9 Qh (q0 (x9 0) (q0 (z9 Qg (q0 (j4 u9 (z8 2) (z8 3)) (q0 (x9 1) x0))) x0)))))
def wu:List PV->Option PV:=xT 3 3 Wo
theorem MH:y6 ["ways","hue","onward"] ["ways","hue","onward"] (j6 JZ):=b7
theorem CB (F:Fun K "ways_through" "ways_through" JZ f fd)(Ia:Fn P w K mg base 1 "joined" ["way","onward"] (y8 Qg))(E6:Fn P w K mg base 1 "lesser" ["way","other"] (y8 Qh))(N0:mg "zip"=none):FnOk P w K mg base v8 2 f fd ["ways","hue","onward"] (qz wu) :=
 okO (k:=1) (b:=Wo) F MH rfl λcdv A outer s H E hr=>⟨_,(v5 (u4 (qV (N':=["way","more","ways","hue"]) (cap:=[none,none,some 0,some 1]) (qb rfl rfl rfl) rfl (Dp (K:=K) rfl rfl N0 (aC (pv 0) (aW (pv 2)))) (λ_ _ _ _ _ _=>(Jh (K:=K) (n:=2) rfl rfl (jj (p5 (i:=0) (by show (["way","more","ways","hue"]:List Str).Nodup;decide +kernel) rfl (Or.inl rfl)) (jj (p5 (i:=1) (by show (["way","more","ways","hue"]:List Str).Nodup;decide +kernel) rfl (Or.inl rfl)) Ji)))) (λ_ _ _ _ _ _=>qg) (λ_ _ _ _ _ _=>(fW E6 hr (aC (pv 0) (aW (fW Ia hr (aC (iW (K:=K) rfl (pv 2) (pv 3)) (aW (pv 1))))))))))),
  inferInstance⟩
abbrev JP:Stmt:=top 30
abbrev Wf:MS:=(u6 (xJ 1 (c5 [none] [0] (k6 (x9 0)) (v9 0) k8 (z9 Qi (q0 (x9 0) x0))))
  (u6 (wc (zT (q0 (j4 xN (z9 qK (q0 (z8 0) x0)) (dC (.int 1))) x0)) (v9 2) (u6 (xJ 3 (j4 u9 (z8 1) (z8 2)))
  (xJ 1 (c5 [none,some 2,some 3] [0] (k6 (x9 1)) (v9 0) k8 (z9 wu (q0 (x9 0) (q0 (x9 1) (q0 (x9 2) x0))))))))
  (b8 (x9 1))))
def Xp:List PV->Option PV:=p9 4 1 Wf
theorem sc_least_ways:y6 ["rinses","table","hue","onward"] ["rinses"] (j6 JP):=b7
theorem Co (F:Fun K "least_ways" "least_ways" JP f fd)(B6:Fn P w K mg base 1 "straight_ways" ["row"] (qz Qi))(D1:Fn P w K mg base 2 "ways_through" ["ways","hue","onward"] (qz wu))(Aw:mg "len"=none)(Az:mg "range"=none):FnOk P w K mg base v8 3 f fd ["rinses"] (y8 Xp) :=
 okP (k:=2) (b:=Wf) F sc_least_ways rfl λcdv A outer s H E hr=>⟨_,(j9 (wC (i:=1) (N':=["row"]) (cap:=[none]) (qb rfl rfl rfl) rfl sc_least_ways.nd rfl rfl (@qo _ K _ _ _ rfl (pv 0)) (λ_ _ _ _ _ _=>(p5 (i:=0) (by show (["row"]:List Str).Nodup;decide +kernel) rfl (Or.inl rfl))) (λ_ _ _ _ _ _=>qg) (λ_ _ _ _ _ _=>(fW B6 hr (aW (pv 0)))))
  (j9 (jn PassesOwn.never rfl (wA rfl Az (aW (w5 (je) (t6 (zR (K:=K) rfl) rfl Aw PySem.boot_len (aW (pv 0))) j3))) (gW 2 sc_least_ways.nd)
   (j9 (sW 3 sc_least_ways.nd (iW (K:=K) rfl (pv 1) (pv 2)))
  (v5 (wC (i:=1) (N':=["ways","hue","onward"]) (cap:=[none,some 2,some 3]) (qb rfl rfl rfl) rfl sc_least_ways.nd rfl rfl (@qo _ K _ _ _ rfl (pv 1)) (λ_ _ _ _ _ _=>(p5 (i:=0) (by show (["ways","hue","onward"]:List Str).Nodup;decide +kernel) rfl (Or.inl rfl))) (λ_ _ _ _ _ _=>qg) (λ_ _ _ _ _ _=>(fW D1 hr (aC (pv 0) (aC (pv 1) (aW (pv 2))))))))))
  (v5 (u4 (pv 1))))),
  inferInstance⟩
abbrev JX:Stmt:=top 31
abbrev Wn:MS:=(b8 (c5 [none] [0] (k6 (x9 0)) (v9 0) k8 (j4 u9 (z8 0) (dC (.int 0)))))
def Xr:List PV->Option PV:=xT 1 1 Wn
theorem MF:y6 ["ways"] ["ways"] (j6 JX):=b7
theorem Cz (F:Fun K "sums_of" "sums_of" JX f fd):FnOk P w K mg base v8 1 f fd ["ways"] (qz Xr) :=
 okO (k:=0) (b:=Wn) F MF rfl λcdv A outer s H E hr=>⟨_,(v5 (u4 (qV (N':=["way"]) (cap:=[none]) (qb rfl rfl rfl) rfl (@qo _ K _ _ _ rfl (pv 0)) (λ_ _ _ _ _ _=>(p5 (i:=0) (by show (["way"]:List Str).Nodup;decide +kernel) rfl (Or.inl rfl))) (λ_ _ _ _ _ _=>qg) (λ_ _ _ _ _ _=>(iW (K:=K) rfl (pv 0) j3))))),
  inferInstance⟩
abbrev JO:Stmt:=top 32
abbrev We:MS:=(u6 (xS (z9 wq (q0 (x9 0) x0)))
  (b8 (c5 [none] [0] (k6 (z9 Xp (q0 (x9 0) x0))) (v9 0) k8 (z9 Xr (q0 (x9 0) x0)))))
abbrev Gy (Ab:Addr):YM:=(xn false (xS (z9 wq (q0 (x9 0) x0))) (yX (jz (jy Ab) (q0 (x9 0) x0)))
  yNo)
abbrev jd:List PV->Option PV:=mZ (p9 1 1 We)
def wL (Ab:Addr):List PV->Addr->XV->Prop:=yFn 1 1 (Gy Ab)
theorem Mx:y6 ["rinses"] ["rinses"] (j6 JO):=b7
theorem Cn (F:Fun K "least_rinses" "least_rinses" JO f fd)(D2:Fy P w K mg base 3 "check_rinses" ["rinses"] (qW wq (jy Ab)))(Ed:Fn P w K mg base 3 "least_ways" ["rinses"] (y8 Xp))(E1:Fn P w K mg base 1 "sums_of" ["ways"] (qz Xr)):FnOk P w K mg base (p8 P w) 4 f fd ["rinses"] (jt jd (wL Ab)) :=
 okZY (k:=3) (b:=We) (xb:=(Gy Ab)) F Mx rfl rfl λcdv A outer s H E hr=>⟨_,(j9 (vA (vz D2 hr (by decide) jg rfl (aW (pv 0))))
  (v5 (u4 (qV (N':=["ways"]) (cap:=[none]) (qb rfl rfl rfl) rfl (@qo _ K _ _ _ rfl (fW Ed hr (aW (pv 0)))) (λ_ _ _ _ _ _=>(p5 (i:=0) (by show (["ways"]:List Str).Nodup;decide +kernel) rfl (Or.inl rfl))) (λ_ _ _ _ _ _=>qg) (λ_ _ _ _ _ _=>(fW E1 hr (aW (pv 0)))))))),
  inferInstance,inferInstance⟩
abbrev JE:Stmt:=top 35
abbrev VT:MS:=(u6 (m5 (zi (dT (j4 wz (z8 0) (dC .non))) (c6 (zi (i9 (z9 qD (q0 (x9 0) (q0 (dUn xz (dC (.int 1))) x0)))) (dT (j4 pLt (z8 0) (z8 2)))))) qx n9)
  (m5 (c6 (i9 (z9 qD (q0 (x9 1) (q0 (dC (.int 0)) x0))))) qx n9))
abbrev Gx (Ad:Addr):YM:=(xn false (m5 (zi (dT (j4 wz (z8 0) (dC .non))) (c6 (zi (i9 (z9 qD (q0 (x9 0) (q0 (dUn xz (dC (.int 1))) x0)))) (dT (j4 pLt (z8 0) (z8 2)))))) qx n9) (yIf (zi (dT (j4 wz (z8 0) (dC .non))) (c6 (zi (i9 (z9 qD (q0 (x9 0) (q0 (dUn xz (dC (.int 1))) x0)))) (dT (j4 pLt (z8 0) (z8 2)))))) (jU Ad) yNo)
  (yIf (c6 (i9 (z9 qD (q0 (x9 1) (q0 (dC (.int 0)) x0))))) (jU Ad) yNo))
def zD:List PV->Option PV:=p9 3 3 VT
def zf (Ad:Addr):List PV->Addr->XV->Prop:=yFn 3 3 (Gx Ad)
theorem Mn:y6 ["last","time","hues"] ["last","time","hues"] (j6 JE):=b7
theorem Cb (F:Fun K "check_start" "check_start" JE f fd)(A6:Fn P w K mg base 2 "is_from" ["thing","least"] (y8 qD))(B0:mg "NoStart"=some (.ref Ad))(Eo:PySem.W.excIn K Ad veMro "ValueError.__new__"=true):FnOk P w K mg base (p8 P w) 3 f fd ["last","time","hues"] (qW zD (zf Ad)) :=
 okPY (k:=2) (b:=VT) (xb:=(Gx Ad)) F Mn rfl rfl λcdv A outer s H E hr=>⟨_,(j9 (qe (PW.pt (Ud (qq (CN) (pv 0) xX (o3 _)) (Ue (xP (PW.pt (Ud (zr (K:=K) rfl (fW A6 hr (aC (pv 0) (aW (xY zc j3)))) (λ_=>rfl)) (Ue (qq (YQ) (pv 0) (pv 2) (o3 _))))))))) (v5 (vB rfl rfl rfl B0 Eo jR)) qf)
  (v5 (qe (xP (zr (K:=K) rfl (fW A6 hr (aC (pv 1) (aW j3))) (λ_=>rfl))) (v5 (vB rfl rfl rfl B0 Eo jR)) qf))),
  inferInstance,inferInstance⟩
abbrev XI:Stmt:=zA (top 20) 0
theorem Mg:y6 ["self","name"] ["self","name"] (j6 XI):=b7
theorem PP {P:Program}{w:World}{K:Fg}{mg:Str->Option Value}{base:Heap}{f:Addr}{fd:FuncData}(F:Fun K "__init__" "Twice.__init__" XI f fd)(q:zH K C R fI=true)(hs:PySem.W.findIn K (.ref C) "__setattr__"=some (some (.builtin "object.__setattr__")))(hn:PySem.W.findIn K (.ref C) "name"=some none):FnOk P w K mg base v8 1 f fd ["self","name"] (wH C "name") :=
 okXI F Mg rfl q hs hn λcdv A outer s H E=>⟨pv 0,pv 1,rfl⟩
abbrev JC:Stmt:=top 36
abbrev VR:MS:=(u6 (m5 (dT (j4 pGt (z9 qK (q0 (z8 0) x0)) (dC (.int 10)))) qx n9)
  (u6 (wd 2 Zo)
  (wc (k6 (x9 0)) (v9 3) (u6 (m5 (c6 (i9 (z9 vo (q0 (x9 3) (q0 (x9 1) x0))))) qx n9)
  (u6 (m5 (dT (wV (z9 qE (q0 (x9 3) x0)) (z8 2))) qx n9)
  (dPut 2 (z9 qE (q0 (x9 3) x0)) (dC (.bl true))))))))
abbrev Gv (Af:Addr)(Ae:Addr)(Ag:Addr):YM:=(xn false (m5 (dT (j4 pGt (z9 qK (q0 (z8 0) x0)) (dC (.int 10)))) qx n9) (yIf (dT (j4 pGt (z9 qK (q0 (z8 0) x0)) (dC (.int 10)))) (jU Ae) yNo)
  (xn false (wd 2 Zo) yNo
  (yFor false (k6 (x9 0)) (v9 3) (u6 (m5 (c6 (i9 (z9 vo (q0 (x9 3) (q0 (x9 1) x0))))) qx n9)
  (u6 (m5 (dT (wV (z9 qE (q0 (x9 3) x0)) (z8 2))) qx n9)
  (dPut 2 (z9 qE (q0 (x9 3) x0)) (dC (.bl true))))) (xn false (m5 (c6 (i9 (z9 vo (q0 (x9 3) (q0 (x9 1) x0))))) qx n9) (yIf (c6 (i9 (z9 vo (q0 (x9 3) (q0 (x9 1) x0))))) (jU Af) yNo)
  (xn false (m5 (dT (wV (z9 qE (q0 (x9 3) x0)) (z8 2))) qx n9) (yIf (dT (wV (z9 qE (q0 (x9 3) x0)) (z8 2))) (Gz Ag "name" (z9 qE (q0 (x9 3) x0))) yNo)
  yNo)))))
def ja:List PV->Option PV:=p9 4 2 VR
def wK (Af:Addr)(Ae:Addr)(Ag:Addr):List PV->Addr->XV->Prop:=yFn 4 2 (Gv Af Ae Ag)
theorem sc_check_cloths:y6 ["cloths","hues","seen","cloth"] ["cloths","hues"] (j6 JC):=b7
theorem PZ (F:Fun K "check_cloths" "check_cloths" JC f fd)(Eu:Fn P w K mg base 3 "is_cloth" ["thing","hues"] (y8 vo))(An:Fn P w K mg base 1 "name_of" ["cloth"] (y8 qE))(Aw:mg "len"=none)(D8:mg "MOST_CLOTHS"=some (.int 10 D9))(B8:mg "NoCloth"=some (.ref Af))(B7:mg "TooMany"=some (.ref Ae))(Iv:XMk P w K mg base 1 "Twice" Ag "name")(E2:PySem.W.excIn K Af veMro "ValueError.__new__"=true)(E3:PySem.W.excIn K Ae veMro "ValueError.__new__"=true):FnOk P w K mg base (p8 P w) 4 f fd ["cloths","hues"] (qW ja (wK Af Ae Ag)) :=
 okPY (k:=3) (b:=VR) (xb:=(Gv Af Ae Ag)) F sc_check_cloths rfl rfl λcdv A outer s H E hr=>⟨_,(j9 (qe (qq (op_gt) (t6 (zR (K:=K) rfl) rfl Aw PySem.boot_len (aW (pv 0))) (jO (v:= .int 10) rfl D8 ⟨_,rfl⟩) (o3 _)) (v5 (vB rfl rfl rfl B7 E3 jR)) qf)
  (j9 (sW 2 sc_check_cloths.nd Db)
  (v5 (jn PassesOwn.leaving rfl (@qo _ K _ _ _ rfl (pv 0)) (gW 3 sc_check_cloths.nd)
   (j9 (qe (xP (zr (K:=K) rfl (fW Eu hr (aC (pv 3) (aW (pv 1)))) (λ_=>rfl))) (v5 (vB rfl rfl rfl B8 E2 jR)) qf)
  (j9 (qe (DC (CW (Yl hr) (fW An hr (aW (pv 3))) (pv 2))) (v5 (Dy rfl rfl Iv hr (by decide) rfl (z5 (fW An hr (aW (pv 3))) j8) jR)) qf)
  (v5 (Dv (Yl hr) (pv 2) (fW An hr (aW (pv 3))) qU rfl)))))))),
  inferInstance,inferInstance⟩
abbrev Jy:Stmt:=zA (top 37) 1
abbrev VN (Aa:Addr):MS:=(b8 (j4 xN (z9 qK (q0 (xH Aa "least" (x9 0)) x0)) (dC (.int 1))))
def xy (Aa:Addr):List PV->Option PV:=p9 1 1 (VN Aa)
theorem Mh:y6 ["self"] ["self"] (j6 Jy):=b7
theorem PQ (F:Fun K "hues" "Works.hues" Jy f fd)(Aw:mg "len"=none)[qa K Aa][u7 K Aa "least"]:FnOk P w K mg base v8 1 f fd ["self"] (y8 (xy Aa)) :=
 okP (k:=0) (b:=(VN Aa)) F Mh rfl λcdv A outer s H E hr=>⟨_,(v5 (u4 (w5 (je) (t6 (zR (K:=K) rfl) rfl Aw PySem.boot_len (aW (jN (K:=K) rfl (pv 0) rfl))) j3))),
  inferInstance⟩
abbrev js:Stmt:=zA (top 37) 0
abbrev vU (Aa:Addr):MS:=(u6 (xu Aa "least" (z9 jd (q0 (x9 1) x0)))
  (u6 (xS (z9 zD (q0 (x9 3) (q0 (x9 4) (q0 (xU Aa "hues" (xy Aa) 0 x0) x0)))))
  (u6 (xS (z9 ja (q0 (x9 2) (q0 (xU Aa "hues" (xy Aa) 0 x0) x0))))
  (u6 (xu Aa "given" (c5 [none] [0] (k6 (x9 1)) (v9 0) k8 (z9 xi (q0 (z8 0) x0))))
  (u6 (xu Aa "held" (z9 vt (q0 (c5 [none] [0] (k6 (x9 2)) (v9 0) k8 (c4 (q0 (z9 qE (q0 (x9 0) x0)) (q0 (x9 0) x0)))) x0)))
  (u6 (xu Aa "last" (dIf (dT (j4 wx (z8 3) (dC .non))) (dUn xz (dC (.int 1))) (x9 3)))
  (xu Aa "time" (x9 4))))))))
abbrev Gu (Af:Addr)(Ab:Addr)(Ad:Addr)(Ae:Addr)(Ag:Addr)(Aa:Addr):YM:=(xn false (xu Aa "least" (z9 jd (q0 (x9 1) x0))) (yX (jz (wL Ab) (q0 (x9 1) x0)))
  (xn false (xS (z9 zD (q0 (x9 3) (q0 (x9 4) (q0 (xU Aa "hues" (xy Aa) 0 x0) x0))))) (yX (jz (zf Ad) (q0 (x9 3) (q0 (x9 4) (q0 (xU Aa "hues" (xy Aa) 0 x0) x0)))))
  (xn false (xS (z9 ja (q0 (x9 2) (q0 (xU Aa "hues" (xy Aa) 0 x0) x0)))) (yX (jz (wK Af Ae Ag) (q0 (x9 2) (q0 (xU Aa "hues" (xy Aa) 0 x0) x0))))
  yNo)))
def xM (Aa:Addr):List PV->Option PV:=jF 5 5 Aa (vU Aa)
def zG (Af:Addr)(Ab:Addr)(Ad:Addr)(Ae:Addr)(Ag:Addr)(Aa:Addr):List PV->Addr->XV->Prop:=Vz 5 5 Aa (Gu Af Ab Ad Ae Ag Aa)
theorem UF:y6 ["self","rinses","cloths","last","time"] ["self","rinses","cloths","last","time"] (j6 js):=b7
theorem PH (F:FunD K "__init__" "Works.__init__" js f fd)(Au:Fy P w K mg base 4 "check_cloths" ["cloths","hues"] (qW ja (wK Af Ae Ag)))(Ay:Fy P w K mg base 3 "check_start" ["last","time","hues"] (qW zD (zf Ad)))(Ar:Fy P w K mg base 4 "least_rinses" ["rinses"] (jt jd (wL Ab)))(An:Fn P w K mg base 1 "name_of" ["cloth"] (y8 qE))(Eh:mg "dict"=none)(Ap:mg "list"=none)[qa K Aa][u7 K Aa "given"][u7 K Aa "held"][u7 K Aa "last"][u7 K Aa "least"][u7 K Aa "time"](Aq:Mt P w K mg base 1 Aa "hues" ["self"] (y8 (xy Aa))):FnOk P w K mg base (p8 P w) 5 f fd ["self","rinses","cloths","last","time"] (qr Aa (xM Aa) (zG Af Ab Ad Ae Ag Aa)) :=
 okIY (k:=4) (b:=vU Aa) (xb:=Gu Af Ab Ad Ae Ag Aa) F UF rfl rfl (λcdv A outer s H E hr=>⟨_,(j9 (xC (K:=K) rfl (pv 0) (vz Ar hr (by decide) jg rfl (aW (pv 1))))
  (j9 (vA (vz Ay hr (by decide) jg rfl (aC (pv 3) (aC (pv 4) (aW (qL Aq hr (by decide) (pv 0)))))))
  (j9 (vA (vz Au hr (by decide) jg rfl (aC (pv 2) (aW (qL Aq hr (by decide) (pv 0))))))
  (j9 (xC (K:=K) rfl (pv 0) (qV (N':=["row"]) (cap:=[none]) (qb rfl rfl rfl) rfl (@qo _ K _ _ _ rfl (pv 1)) (λ_ _ _ _ _ _=>(p5 (i:=0) (by show (["row"]:List Str).Nodup;decide +kernel) rfl (Or.inl rfl))) (λ_ _ _ _ _ _=>qg) (λ_ _ _ _ _ _=>(ji (va (K:=K) rfl) rfl Ap zQ (aW (pv 0))))))
  (j9 (xC (K:=K) rfl (pv 0) (ji (WB (K:=K) rfl rfl) rfl Eh Wz (aW (qV (N':=["cloth"]) (cap:=[none]) (qb rfl rfl rfl) rfl (@qo _ K _ _ _ rfl (pv 2)) (λ_ _ _ _ _ _=>(p5 (i:=0) (by show (["cloth"]:List Str).Nodup;decide +kernel) rfl (Or.inl rfl))) (λ_ _ _ _ _ _=>qg) (λ_ _ _ _ _ _=>(@m9 _ _ _ _ _ (aC (fW An hr (aW (pv 0))) (aW (pv 0)))))))))
  (j9 (xC (K:=K) rfl (pv 0) (Jb (qq (ZV) (pv 3) xX (o3 _)) (xY zc j3) (pv 3)))
  (v5 (xC (K:=K) rfl (pv 0) (pv 4))))))))),
  (by repeat' first|infer_instance|(refine @Mi.XL _ _ _ _ ?_ ?_)),(by repeat' first|infer_instance|(refine @Mi.UG _ _ _ _ _ _ ?_ ?_ ?_)|(refine @Mi.XL _ _ _ _ ?_ ?_))⟩)
abbrev Jz:Stmt:=zA (top 37) 6
abbrev VO (Aa:Addr):MS:=(b8 (z9 ZX (q0 (xH Aa "held" (x9 0)) x0)))
def Qf (Aa:Addr):List PV->Option PV:=xT 1 1 (VO Aa)
theorem Mj:y6 ["self"] ["self"] (j6 Jz):=b7
theorem PU (F:Fun K "names" "Works.names" Jz f fd)(E7:mg "sorted"=none)[qa K Aa][u7 K Aa "held"]:FnOk P w K mg base v8 1 f fd ["self"] (qz (Qf Aa)) :=
 okO (k:=0) (b:=(VO Aa)) F Mj rfl λcdv A outer s H E hr=>⟨_,(v5 (u4 (t6 (Km (K:=K) rfl rfl) rfl E7 GW (aW (jN (K:=K) rfl (pv 0) rfl))))),
  inferInstance⟩
abbrev JB:Stmt:=zA (top 37) 5
abbrev VQ (Aa:Addr):MS:=(b8 (c4 (q0 (xH Aa "last" (x9 0)) (q0 (xH Aa "time" (x9 0)) x0))))
def vm (Aa:Addr):List PV->Option PV:=p9 1 1 (VQ Aa)
theorem Mm:y6 ["self"] ["self"] (j6 JB):=b7
theorem PY (F:Fun K "start" "Works.start" JB f fd)[qa K Aa][u7 K Aa "last"][u7 K Aa "time"]:FnOk P w K mg base v8 1 f fd ["self"] (y8 (vm Aa)) :=
 okP (k:=0) (b:=(VQ Aa)) F Mm rfl λcdv A outer s H E hr=>⟨_,(v5 (u4 (@m9 _ _ _ _ _ (aC (jN (K:=K) rfl (pv 0) rfl) (aW (jN (K:=K) rfl (pv 0) rfl)))))),
  inferInstance⟩
abbrev JA:Stmt:=zA (top 37) 2
abbrev VP (Aa:Addr):MS:=(b8 (c5 [none] [0] (k6 (xH Aa "given" (x9 0))) (v9 0) k8 (z9 xi (q0 (z8 0) x0))))
def wp (Aa:Addr):List PV->Option PV:=xT 1 1 (VP Aa)
theorem Ml:y6 ["self"] ["self"] (j6 JA):=b7
theorem PX (F:Fun K "rinses" "Works.rinses" JA f fd)(Ap:mg "list"=none)[qa K Aa][u7 K Aa "given"]:FnOk P w K mg base v8 1 f fd ["self"] (qz (wp Aa)) :=
 okO (k:=0) (b:=(VP Aa)) F Ml rfl λcdv A outer s H E hr=>⟨_,(v5 (u4 (qV (N':=["row"]) (cap:=[none]) (qb rfl rfl rfl) rfl (@qo _ K _ _ _ rfl (jN (K:=K) rfl (pv 0) rfl)) (λ_ _ _ _ _ _=>(p5 (i:=0) (by show (["row"]:List Str).Nodup;decide +kernel) rfl (Or.inl rfl))) (λ_ _ _ _ _ _=>qg) (λ_ _ _ _ _ _=>(ji (va (K:=K) rfl) rfl Ap zQ (aW (pv 0))))))),
  inferInstance⟩
theorem XS (n:Int):jc [.at (.int n)]=some (.at (.bl true)):=qB rfl (m6 (vc (j7 rfl Bv) (Yc (v:=false) (j7 rfl Bw))))
theorem Ga (n k:Int):qD [.at (.int n),.at (.int k)]=some (.at (.bl (decide (k<=n)))):=qB rfl (m6 (vc (j7 rfl (XS n)) rfl))
theorem jv {n k:Int}(h:k<=n):qD [.at (.int n),.at (.int k)]=some (.at (.bl true)):=(Ga n k).trans (by rw [yo h])
theorem LA {s:Str}(h:VD s):Xo [.at (.str s)]=some (.at (.bl true)):=by
 have hl:lim=1000000:=rfl;have l1:=h.one;have l8:=h.eight;have ln:qK [.at (.str s)]=some (.at (.int s.length)):=if_pos (by omega);refine qB rfl (k9 (o8 (jG (ql (o7 (j7 rfl By))) (ql (p7 (wX (r:=true) rfl (j7 rfl ln) ?_ rfl ?_)))) o9) (m6 (j7 (j0 (qm (λc:Nat=>PV.at (.str ⟨#[c]⟩)) (λ_=>PV.at (.bl true)) s.cps.toList rfl rfl ?_ ?_) rfl) (Zb _))))
 ·show some (PV.at (.bl (decide ((1:Int)<=(s.length:Int)))))=_;rw [yo (by omega)]
 ·show some (PV.at (.bl (decide ((s.length:Int)<=8))))=_;rw [yo (by omega)]
 ·have:s.cps.toList.length=s.length:=by simp [Str.length]
  omega
 ·intro c hc;obtain ⟨c1,c2⟩:=h.low c hc;refine ⟨_,rfl,wX rfl rfl ?_ rfl ?_⟩
  ·show some (PV.at (.bl (!decide ([c]<("a":Str).cps.toList))))=_;have e:¬ ([c]<[97]):=by rw [List.cons_lt_cons_iff];simp;omega
   rw [show ("a":Str).cps.toList=[97] by decide +kernel,yL e];rfl
  ·show some (PV.at (.bl (!decide (("z":Str).cps.toList<[c]))))=_;have e:¬ ([122]<[c]):=by rw [List.cons_lt_cons_iff];simp;omega
   rw [show ("z":Str).cps.toList=[122] by decide +kernel,yL e];rfl
theorem Lz {c:Cl}(ok:c.Ok h):vo [c.pv,.at (.int h)]=some (.at (.bl true)):=by refine qB rfl (k9 (o8 (jG (ql (o7 (j7 rfl Bz))) (p7 (v:=false) rfl)) o9) (k9 (o8 (jG (ql (o7 (j7 (j0 (j7 rfl rfl) rfl) (LA ok.nm)))) (jG (ql (o7 (j7 (j0 (j7 rfl rfl) rfl) (jv (n:=(c.hue:Int)) (k:=0) (by omega))))) (p7 (v:=false) (y7 (j7 rfl rfl) rfl ?_)))) o9) (m6 (vc (j7 (j0 (j7 rfl rfl) rfl) (jv ok.l1)) (vc (j7 (j0 (j7 rfl rfl) rfl) (XS _)) (j7 (j0 (j7 rfl rfl) rfl) (jv ok.w1)))))));show some (PV.at (.bl (decide ((h:Int)<=(c.hue:Int)))))=_;have:=ok.hu;rw [yL (by omega)]
theorem UZ {l t:Int}(h1:-1<=l)(h2:l<(h:Int))(h3:0<=t):zD [.at (.int l),.at (.int t),.at (.int h)]=some (.at .non):=by refine Xc rfl (k9 (o8 (vY (v:=false) (p7 (v:=true) rfl) (ql (vY (v:=true) (o7 (j7 rfl (jv h1))) (p7 (v:=true) ?_)))) o9) (o8 (ql (o7 (j7 rfl (jv h3)))) o9));show some (PV.at (.bl (decide (l<(h:Int)))))=_;rw [yo h2]
def keysOf (cs:List Cl):List v7:=cs.map λc=>Sum.inr c.name
theorem YB {x:Str}{α:Type}(f:Cl->PV):∀{cs:List Cl},x∉cs.map Cl.name->xx (.inr x) (keysOf cs) (cs.map f)=none
 |[],_=>rfl
 |c::cs,h=>by
  rw [yF] at h;show (if (Sum.inr c.name:v7) = .inr x then _ else xx (.inr x) (keysOf cs) (cs.map f))=_;rw [if_neg (λe=>h (by injection e with e;rw [e];exact yR)),YB (α:=α) f λz=>h (yT _ z)]
theorem Vo {cls:List Cl}(hok:∀ c∈cls,c.Ok h)(nd:(cls.map Cl.name).Nodup)(ten:cls.length<=10):ja [.lst (cls.map Cl.pv),.at (.int h)]=some (.at .non):=by
 have hl:lim=1000000:=rfl;refine Xc rfl (k9 (o8 (p7 (v:=false) (y7 (j7 rfl rfl) rfl ?_)) o9) (k9 (Ye rfl) (Zu rfl (ZK Cl.pv (λl ε=>∃(done:List Cl)(s3:MSlot),done++l=cls/\ε=[.sh (.lst (cls.map Cl.pv)),.sh (.at (.int h)),.ow (.dk (keysOf done) (done.map λ_=>PV.at (.bl true))),s3]) ?_ cls _ ⟨[],.no,rfl,rfl⟩).choose_spec.1)))
 ·show some (PV.at (.bl (decide ((10:Int)<((cls.map Cl.pv).length:Int)))))=_;rw [yZ,yL (by omega)]
 ·rintro c l ε ⟨done,s3,e,rfl⟩;have hc:c∈cls:=by rw [<- e];exact yy _ yR
  have hn:c.name∉done.map Cl.name:=λz=>by
   rw [<- e,yx,yF] at nd;exact (List.nodup_append.mp nd).2.2 _ z _ yR rfl
  have ln:=YB (α:=Unit) (λ_=>PV.at (.bl true)) hn;have hd:done.length<=10:=by rw [<- e] at ten;rw [yD] at ten;omega
  refine ⟨_,_,rfl,k9 (o8 (ql (o7 (j7 rfl (Lz (hok c hc))))) o9) (k9 (o8 (p7 (v:=false) ?_) o9) ?_),done++[c],.sh c.pv,by rw [<- e,uS];rfl,rfl⟩
  ·show some (PV.at (.bl (xx (.inr c.name) (keysOf done) (done.map λ_=>PV.at (.bl true))).isSome))=_;rw [ln];rfl
  ·show (if (keysOf done).length<=lim then some (Out.nx [_,_,.ow (XG (.inr c.name) (.at (.bl true)) (keysOf done) (done.map λ_=>PV.at (.bl true))),_]) else none)=_;unfold XG;rw [if_pos (by unfold keysOf;rw [yZ];omega),ln];simp only [Option.isSome_none,uD,if_false];unfold keysOf;rw [yx,yx];rfl
def m8 (n:Int):PV:= .at (.int n)
def u3 (r:List Int):PV:= .lst (r.map m8)
def wyP (w:Wy):PV:= .tup [.at (.int w.1),.lst (w.2.map m8)]
def qA (ws:List Wy):PV:= .lst (ws.map wyP)
theorem LH (hl:r.length=h)(h4:h<=4)(hv:∀ v∈r,0<=v):jb [u3 r,.at (.int h)]=some (.at (.bl true)):=by
 have hlim:lim=1000000:=rfl;refine qB rfl (k9 (o8 (jG (ql (o7 (j7 rfl vg))) (p7 (v:=false) (y7 (j7 rfl rfl) rfl ?_))) o9) (m6 (j7 (j0 (qm m8 (λ_=>PV.at (.bl true)) r rfl rfl (by omega) λv hvm=>?_) rfl) (Zb _))))
 ·show (peq 6 (.at (.int ((r.map m8).length:Int))) (.at (.int (h:Int)))).bind _=_;rw [yZ,hl];exact vx (x:= .at (.int (h:Int))) rfl
 ·refine ⟨_,rfl,vc (j7 rfl (XS v)) ?_⟩;show some (PV.at (.bl (decide ((0:Int)<=v))))=_;rw [yo (hv v hvm)]
theorem Lq (G:qY h rss)(h1:1<=h)(h4:h<=4):wq [v6 rss]=some (.at .non):=by
 have hlim:lim=1000000:=rfl;have hlen:=G.len;have eh:((rss.map u3).length:Int)-1=(h:Int):=by rw [yZ,hlen];omega
 have step:∀(k:Int),k=(h:Int)->u6 (m5 (c6 (dT (zj pLe pLe (dC (.int 1)) (z8 1) (dC (.int 4))))) qx n9)
  (m5 (c6 (i9 (z9 jf (q0 (c5 [none,some 1] [0] (k6 (x9 0)) (v9 0) k8 (z9 jb (q0 (x9 0) (q0 (x9 1) x0)))) x0)))) qx n9) [.sh (v6 rss),.sh (.at (.int k))]=some (.nx [.sh (v6 rss),.sh (.at (.int k))]):=by
  rintro k rfl;refine k9 (o8 (ql (p7 (wX (r:=true) rfl rfl ?_ rfl ?_))) o9) (o8 (ql (o7 (j7 (j0 (qm u3 (λ_=>PV.at (.bl true)) rss rfl rfl (by omega) λr hr=>⟨_,rfl,j7 rfl (LH (G.row r hr).1 h4 λv hv=>((G.row r hr).2 v hv).1)⟩) rfl) (Zb _)))) o9)
  ·show some (PV.at (.bl (decide ((1:Int)<=(h:Int)))))=_;rw [yo (by omega)]
  ·show some (PV.at (.bl (decide ((h:Int)<=4))))=_;rw [yo (by omega)]
 exact Xc rfl (k9 (o8 (ql (o7 (j7 rfl vg))) o9) (k9 (zl rfl) (step _ eh)))
theorem WZ {α:Type}(f:α->PV):∀(l:List α)(n:Nat),xV n (l.map f)=(l.zipIdx n).map λp=>PV.tup [.at (.int ((p.2:Nat):Int)),f p.1]
 |[],_=>rfl
 |x::l,n=>by
  rw [yF,List.zipIdx_cons,yF];show PV.tup [.at (.int n),f x]::xV (n+1) (l.map f)=_;rw [WZ f l (n+1)]
theorem LJ (h:r.length<=4):Qi [u3 r]=some (qA (zu r)):=by
 have hlim:lim=1000000:=rfl;refine vd rfl (m6 ?_);have e:=qm (cap:=[none,none]) (ts:=[0,1]) (it:=Zm (q0 (x9 0) x0)) (g:=zZ 2 (qJ (v9 0) (qJ (v9 1) zY))) (f:=c4 (q0 (x9 1) (q0 (k7 (q0 (x9 0) x0)) x0))) (ε:=[.sh (u3 r)])
  (λp:Int×Nat=>PV.tup [.at (.int ((p.2:Nat):Int)),m8 p.1]) (λp:Int×Nat=>wyP (p.1,[(p.2:Int)])) (r.zipIdx 0) (by show some (xV 0 (r.map m8))=_;rw [WZ]) rfl (by rw [List.length_zipIdx];omega) λp _=>⟨_,rfl,rfl⟩
 refine e.trans ?_;unfold qA zu;rw [List.mapIdx_eq_zipIdx_map,yq];rfl
theorem LB {a:Wy}(h:a.2.length+b.2.length<=1000):Qg [wyP a,wyP b]=some (wyP (zm a b)):=by have hlim:lim=1000000:=rfl;refine qB rfl (m6 (i0 (j0 (y7 rfl rfl rfl) (j0 (y7 rfl rfl (YS (by rw [yZ,yZ];omega))) rfl)) (by first|decide|(show 1<=lim;decide)|(show 2<=lim;decide)|(show 3<=lim;decide))) |>.trans ?_);unfold wyP zm;rw [yx]
theorem LD (a b:Wy):Qh [wyP a,wyP b]=some (wyP (zB a b)):=by
 unfold zB;by_cases h:b.1<a.1
 ·rw [if_pos h];exact qB rfl (m6 (Yb (p7 (v:=true) (y7 rfl rfl (show some (PV.at (.bl (decide (b.1<a.1))))=_ by rw [yo h]))) rfl))
 ·rw [if_neg h];exact qB rfl (m6 (Zv (p7 (v:=false) (y7 rfl rfl (show some (PV.at (.bl (decide (b.1<a.1))))=_ by rw [yL h]))) rfl))
theorem GC {α β:Type}(f:α->PV)(g:β->PV):∀(l:List α)(m:List β),qX (l.map f) (m.map g)=(l.zip m).map λp=>PV.tup [f p.1,g p.2]
 |[],_=>by cases ‹List β›<;>rfl
 |_::_,[]=>rfl
 |x::l,y::m=>by
  show PV.tup [f x,g y]::qX (l.map f) (m.map g)=_;rw [GC f g l m];rfl
theorem GD {α β γ:Type}(f:α->β->γ):∀(l:List α)(m:List β),List.zipWith f l m=(l.zip m).map λp=>f p.1 p.2
 |[],_=>by simp
 |_::_,[]=>rfl
 |x::l,y::m=>by
  show f x y::List.zipWith f l m=_;rw [GD f l m];rfl
theorem LL {k:Nat}(hk:k<ws.length)(h4:ws.length<=4)(l1:∀ w∈ws,w.2.length<=100)(l2:∀ w∈onw,w.2.length<=100):wu [qA ws,.at (.int (k:Int)),qA onw]=some (qA (thr ws k onw)):=by
 have hlim:lim=1000000:=rfl;have hg:ws.getD k (0,[])=ws[k]:=qd hk;have hw:=yn hk;refine vd rfl (m6 ?_);have e:=qm (cap:=[none,none,some 0,some 1]) (ts:=[0,1]) (it:=dZipT false false (q0 (x9 0) (q0 (x9 2) x0))) (g:=zZ 2 (qJ (v9 0) (qJ (v9 1) zY))) (f:=z9 Qh (q0 (x9 0) (q0 (z9 Qg (q0 (j4 u9 (z8 2) (z8 3)) (q0 (x9 1) x0))) x0))) (ε:=[.sh (qA ws),.sh (.at (.int (k:Int))),.sh (qA onw)])
  (λp:Wy×Wy=>PV.tup [wyP p.1,wyP p.2]) (λp:Wy×Wy=>wyP (zB p.1 (zm ws[k] p.2))) (ws.zip onw) (by show some (qX (ws.map wyP) (onw.map wyP))=_;rw [GC]) rfl (by rw [List.length_zip];omega) λp hp=>⟨_,rfl,j7 (j0 rfl (j0 (j7 (j0 (y7 rfl rfl (jD (v:=wyP ws[k]) (by rw [yN,yA hk];rfl))) (j0 rfl rfl)) (LB (by
   have q1:=l1 _ hw;have q2:=l2 p.2 (List.of_mem_zip hp).2;omega))) rfl)) (LD _ _)⟩
 refine e.trans ?_;unfold qA thr;rw [hg,GD,yq];rfl
theorem LN {k:Nat}(G:qY h rss)(hk:k<=h)(h4:h<=4):∀ r∈m7 rss k,∀ w∈r,w.2.length<=100:=by
 intro r hr w hw;have S:=Shp.all G k hk;have F:=FW.all G k hk;obtain ⟨f,hf,rfl⟩:=uK hr;obtain ⟨g,hg,rfl⟩:=uK hw;have hf':f<=h:=by have:=S.len;omega
 have hg':g<h:=by rw [<- S.row _ hr];exact hg
 have e:w9 (m7 rss k) f g=(m7 rss k)[f][g]:=by unfold w9;rw [qd hf,qd hg]
 have q:=F.len f g hf' hg';rw [e] at q;have:2 ^ k<=2 ^ 4:=Nat.pow_le_pow_right (by decide) (by omega);omega
def QA (T:List (List Wy)):PV:= .lst (T.map qA)
theorem LC (G:qY h rss)(h1:1<=h)(h4:h<=4):Xp [v6 rss]=some (QA (m7 rss h)):=by
 have hlim:lim=1000000:=rfl;have hlimI:(lim:Int)=1000000:=rfl;have hlen:=G.len;have st:c5 [none] [0] (k6 (x9 0)) (v9 0) k8 (z9 Qi (q0 (x9 0) x0)) [.sh (v6 rss),.no,.no,.no]=some (QA (m7 rss 0)):=by refine (qm u3 (λr=>qA (zu r)) rss rfl rfl (by omega) λr hr=>⟨_,rfl,j7 rfl (LJ (by rw [(G.row r hr).1];exact h4))⟩).trans ?_;show _=some (PV.lst ((rss.map zu).map qA));rw [yq];rfl
 have rg:zT (q0 (j4 xN (z9 qK (q0 (z8 0) x0)) (dC (.int 1))) x0) [.sh (v6 rss),.sh (QA (m7 rss 0)),.no,.no]=some ((List.range h).map λ(i:Nat)=>PV.at (.int ((0:Int)+i))):=by refine Qs (k:=h) (j0 (y7 (j7 rfl rfl) rfl ?_) rfl) (by omega);show some (PV.at (.int (((rss.map u3).length:Int)-1)))=_;rw [yZ,hlen,show ((h+1:Nat):Int)-1=(h:Int) by omega]
 have lp:=ZK (g:=v9 2) (f:=u6 (xJ 3 (j4 u9 (z8 1) (z8 2))) (xJ 1 (c5 [none,some 2,some 3] [0] (k6 (x9 1)) (v9 0) k8 (z9 wu (q0 (x9 0) (q0 (x9 1) (q0 (x9 2) x0)))))))
  (λ(i:Nat)=>PV.at (.int ((0:Int)+i))) (λl ε=>∃(k:Nat)(s2 s3:MSlot),l=(List.range h).drop k/\k<=h/\ε=[.sh (v6 rss),.sh (QA (m7 rss k)),s2,s3]) (by
   rintro i l ε ⟨k,s2,s3,el,hk,rfl⟩;have hkl:k<h:=by
    have e5:(i::l).length=((List.range h).drop k).length:=by rw [<- el]
    rw [uw,List.length_range,yz] at e5;omega
   have ei:i=k:=by
    have:((List.range h).drop k)[0]?=some i:=by rw [<- el];rfl
    rw [List.getElem?_drop,List.getElem?_range (by omega)] at this;simpa using this.symm
   have er:l=(List.range h).drop (k+1):=by
    have:((List.range h).drop k).tail=l:=by rw [<- el];rfl
    rw [<- this,List.tail_drop]
   subst ei;have S:=Shp.all G i hk;have hT:i<(m7 rss i).length:=by rw [S.len];omega
   have gD:(m7 rss i).getD i []=(m7 rss i)[i]:=qd hT;have wl:=LN G hk h4;refine ⟨_,_,rfl,k9 (zl (x:=qA (m7 rss i)[i]) (y7 rfl rfl ?_)) (zl (x:=QA (m7 rss (i+1))) ?_),i+1,_,_,er,hkl,rfl⟩
   ·show atI ((m7 rss i).map qA) (0+(i:Int))=_;rw [Int.zero_add];exact jD (by rw [yN,yA hT];rfl)
   ·refine (qm qA (λrow=>qA (thr row i (m7 rss i)[i])) (m7 rss i) rfl rfl (by rw [S.len];omega) λrow hr=>⟨_,rfl,j7 rfl ?_⟩).trans ?_
    ·show wu [qA row,.at (.int (0+(i:Int))),qA (m7 rss i)[i]]=_;rw [Int.zero_add];exact LL (by rw [S.row row hr];exact hkl) (by rw [S.row row hr];exact h4) (wl row hr) (wl _ (yn hT))
    ·show _=some (PV.lst ((qH (m7 rss i) i).map qA));unfold qH;rw [yq,gD];rfl) (List.range h) _ ⟨0,.no,.no,rfl,uZ _,rfl⟩
 obtain ⟨ε',e',k,s2,s3,el,hk,rfl⟩:=lp;have ek:k=h:=by have:=congrArg List.length el;rw [uw,List.length_range] at this;simp at this;omega
 subst ek;exact qB rfl (k9 (zl st) (k9 (Zu rg e') (m6 rfl)))
theorem LK (h4:ws.length<=4):Xr [qA ws]=some (u3 (ws.map (·.1))):=by have hlim:lim=1000000:=rfl;refine vd rfl (m6 ((qm wyP (λw=>m8 w.1) ws rfl rfl (by omega) λw _=>⟨_,rfl,rfl⟩).trans ?_));unfold u3;rw [yq];rfl
theorem XR (G:qY h rss)(h1:1<=h)(h4:h<=4):jd [v6 rss]=some (v6 (zX rss h)):=by have hlim:lim=1000000:=rfl;have S:=Shp.all G h (yS _);show mZ _ _=some (.lst ((zX rss h).map u3));refine mZ_of (qB rfl (k9 (wg (j7 rfl (Lq G h1 h4))) (m6 ((qm qA (λws=>u3 (ws.map (·.1))) (m7 rss h) (wY (j7 rfl (LC G h1 h4))) rfl (by rw [S.len];omega) λws hw=>⟨_,rfl,j7 rfl (LK (by rw [S.row ws hw];exact h4))⟩).trans ?_))));show _=some (PV.lst ((zX rss h).map u3));unfold zX;rw [yq];rfl
def Dr.low (d:Dr):List (List Int):=zX d.rss d.h
def KU:List Str:=["least","given","held","last","time"]
def Dr.ob (C:Addr)(d:Dr):PV:= .ob C KU [v6 d.low,v6 d.rss,.fk (keysOf d.cls) (d.cls.map Cl.pv),.at (.int d.last),.at (.int d.time)]
def Dr.names (d:Dr):List Str:=d.cls.map Cl.name
theorem Pw (a b:Int):pNe (.at (.int a)) (.at (.int b))=some (.at (.bl (!decide (a=b)))):=by show some (PV.at (.bl (!t9 (.int a) (.int b))))=_;have:t9 (.int a) (.int b)=decide (a=b):=rfl;rw [this]
section
variable {C:Addr}{d:Dr}
theorem BT (cs:List Cl):jK (keysOf cs)=some (cs.map Cl.name):=by
 induction cs with
 |nil=>rfl
 |cons c cs ih=>show (jK (keysOf cs)).map (c.name::·)=_;rw [ih];rfl
theorem LF (ok:d.Ok):Qf C [d.ob C]=some (.lst (wI (jQ d.names))):=by refine vd rfl (m6 (j7 (j0 (jH rfl rfl) rfl) ?_));show (jK (keysOf d.cls)).bind _=_;rw [BT,yM,if_pos (by rw [yZ];have:=ok.ten;omega)];rfl
end
section
variable {C:Addr}{d:Dr}
theorem xK {f:Str}(h1:a ε=some y)(h0:ε[0]?=some (.ow (.ob C ns xs)))(hf:f∉ns)(hl:ns.length<1000):xu C f a ε=some (.nx (ε.set 0 (.ow (.ob C (ns++[f]) (xs++[y]))))):=by unfold xu;rw [h1,yM,h0];exact if_pos ⟨rfl,hf,hl⟩
theorem ve {nm:Str}{m:List PV->Option PV}{i:Nat}{fs:List PV}{u:V}(h0:ε[i]?=some (.ow (.ob C ns fs)))(hn:nm∉ns)(k:as ε=some xs)(e:m (.ob C ns fs::xs)=some (.at u)):xU C nm m i as ε=some (.at u):=by unfold xU;rw [h0];show (if C=C/\nm∉ns then _ else _)=_;rw [if_pos ⟨rfl,hn⟩,k,yM,e];rfl
theorem vI (ok:d.Ok):xy C [.ob C ["least"] [v6 d.low]]=some (.at (.int d.h)):=by have G:=Pk ok.rin;refine qB rfl (m6 (y7 (j7 (j0 (jH rfl rfl) rfl) rfl) rfl ?_));show some (PV.at (.int (((d.low.map u3).length:Int)-1)))=_;rw [yZ,show d.low.length=d.h+1 from G.len,show ((d.h+1:Nat):Int)-1=(d.h:Int) by omega]
theorem XE:∀ cs:List Cl,jm (cs.map λc=>PV.tup [.at (.str c.name),c.pv])=some (cs.map λc=>((.inr c.name:v7),c.pv))
 |[]=>rfl
 |c::cs=>by
  show Option.bind (some (Sum.inr c.name)) (λkk=>(jm (cs.map λc=>PV.tup [.at (.str c.name),c.pv])).map ((kk,c.pv)::·))=_;rw [yM,XE cs];rfl
theorem ZF {cs:List Cl}(h:(cs.map Cl.name).Nodup):(keysOf cs).Nodup:=by
 induction cs with
 |nil=>exact uy
 |cons c cs ih=>rw [yF] at h;have h':=yk.mp h;refine yk.mpr ⟨λz=>?_,ih h'.2⟩;obtain ⟨y,hy,e⟩:=yp.mp z;injection e with e;exact h'.1 (yp.mpr ⟨y,hy,e⟩)
theorem Lx (ok:d.Ok):xM C [v6 d.rss,.lst (d.cls.map Cl.pv),.at (.int d.last),.at (.int d.time)]=some (d.ob C):=by
 have hlim:lim=1000000:=rfl;have ten:=ok.ten;have glen:=ok.rin.len;have h4:=ok.h4;have cp:∀(s0 s2 s3 s4:MSlot),c5 [none] [0] (k6 (x9 1)) (v9 0) k8 (z9 xi (q0 (z8 0) x0)) [s0,.sh (v6 d.rss),s2,s3,s4]=some (v6 d.rss):=λs0 s2 s3 s4 =>
  qm u3 u3 d.rss rfl rfl (by omega) λr _=>⟨_,rfl,rfl⟩
 have dk:∀(s0 s1 s3 s4:MSlot),z9 vt (q0 (c5 [none] [0] (k6 (x9 2)) (v9 0) k8 (c4 (q0 (z9 qE (q0 (x9 0) x0)) (q0 (x9 0) x0)))) x0) [s0,s1,.sh (.lst (d.cls.map Cl.pv)),s3,s4]=some (.fk (keysOf d.cls) (d.cls.map Cl.pv)):=λs0 s1 s3 s4=>by
  refine j7 (j0 (qm Cl.pv (λc=>PV.tup [.at (.str c.name),c.pv]) d.cls rfl rfl (by omega) λc _=>⟨_,rfl,i0 (j0 (j7 rfl rfl) (j0 rfl rfl)) l2⟩) rfl) ?_;show (jm (d.cls.map λc=>PV.tup [.at (.str c.name),c.pv])).bind _=_;have k1:(d.cls.map λc=>((.inr c.name:v7),c.pv)).map (·.1)=keysOf d.cls:=by rw [yq];rfl
  have k2:(d.cls.map λc=>((.inr c.name:v7),c.pv)).map (·.2)=d.cls.map Cl.pv:=by rw [yq];rfl
  rw [XE,yM,k1,k2];exact if_pos ⟨ZF ok.nd,by rw [yZ];omega⟩
 have run:vU C [.ow (.ob C [] []),.sh (v6 d.rss),.sh (.lst (d.cls.map Cl.pv)),.sh (.at (.int d.last)),.sh (.at (.int d.time))]=some (.nx [.ow (d.ob C),.sh (v6 d.rss),.sh (.lst (d.cls.map Cl.pv)),.sh (.at (.int d.last)),.sh (.at (.int d.time))]) :=
  k9 (xK (j7 rfl (XR ok.rin ok.h1 ok.h4)) rfl (by decide) (by decide)) (k9 (wg (j7 (j0 rfl (j0 rfl (j0 (ve rfl (by decide) rfl (vI ok)) rfl))) (UZ ok.l1 ok.l2 ok.t1)))
   (k9 (wg (j7 (j0 rfl (j0 (ve rfl (by decide) rfl (vI ok)) rfl)) (Vo ok.cl ok.nd ok.ten)))
   (k9 (xK (cp _ _ _ _) rfl (by decide) (by decide)) (k9 (xK (dk _ _ _ _) rfl (by decide) (by decide)) (k9 (xK (y:= .at (.int d.last)) (f:="last") (ns:=["least","given","held"]) (Zv (p7 (v:=false) (y7 rfl rfl rfl)) rfl) rfl (by decide) (by decide)) (xK (y:= .at (.int d.time)) (f:="time") (ns:=["least","given","held","last"]) (xs:=[v6 d.low,v6 d.rss,.fk (keysOf d.cls) (d.cls.map Cl.pv),.at (.int d.last)]) rfl rfl (by decide) (by decide)))))))
 unfold xM jF;refine (if_pos rfl).trans ?_;show (vU C [.ow (.ob C [] []),.sh (v6 d.rss),.sh (.lst (d.cls.map Cl.pv)),.sh (.at (.int d.last)),.sh (.at (.int d.time))]).bind _=_;rw [run];rfl
end
def vG (C:Addr):Sp:=λvs H Q _=>∃(d:Dr)(Hs HR:Hp)(x dx:Addr)(v1:V)(a2:Addr),d.Ok/\vs=[.ref x,v1,.ref a2,.int d.last,.int d.time]/\Same Hs H/\H x=some (.ins C dx [])/\Hs x=none/\Same HR H/\(∀ b,HR b≠none->Hs b=none/\b≠x)/\Rep HR (v6 d.rss) v1/\HR a2≠none/\Top Hs H a2 (.lst (d.cls.map Cl.pv)) /\
 ∀ Hs' H',Same Hs Hs'->(∀ b o,H b=some o->b≠x->H' b=some o)->Same Hs' H'->(∀ b,H b≠none->b≠x->Hs b=none->Hs' b=none)->Rep Hs' (d.ob C) (.ref x)->Q .non H'
theorem Bj (h:vG C vs H Q E):vs.length=(["self","rinses","cloths","last","time"]:List Str).length:=by obtain ⟨d,Hs,HR,x,dx,v1,a2,_,rfl,_⟩:=h;rfl
theorem vD (rss:List (List Int)):v6 rss = .lst ((rss.map (List.map V.int)).map λl=> .lst (l.map .at)):=by
 unfold v6;rw [yq]
 congr 1
 refine List.map_congr_left λr _=>?_;show _=PV.lst ((r.map V.int).map .at);rw [yq];rfl
theorem PK (F:FunD K "__init__" "Works.__init__" js f fd)(Au:Fy P w K mg base 4 "check_cloths" ["cloths","hues"] (qW ja (wK Af Ae Ag)))(Ay:Fy P w K mg base 3 "check_start" ["last","time","hues"] (qW zD (zf Ad)))(Ar:Fy P w K mg base 4 "least_rinses" ["rinses"] (jt jd (wL Ab)))(An:Fn P w K mg base 1 "name_of" ["cloth"] (y8 qE))(Eh:mg "dict"=none)(Ap:mg "list"=none)[qa K Aa][u7 K Aa "given"][u7 K Aa "held"][u7 K Aa "last"][u7 K Aa "least"][u7 K Aa "time"](Aq:Mt P w K mg base 1 Aa "hues" ["self"] (y8 (xy Aa))):FnOk P w K mg base (p8 P w) 5 f fd ["self","rinses","cloths","last","time"] (vG Aa):=by
 refine F.ok2 (k:=4) UF (λvs H Q E h=>Bj h) (λcdv A outer s H vs Q E hr h=>⟨_,(j9 (xC (K:=K) rfl (pv 0) (vz Ar hr (by decide) jg rfl (aW (pv 1))))
  (j9 (vA (vz Ay hr (by decide) jg rfl (aC (pv 3) (aC (pv 4) (aW (qL Aq hr (by decide) (pv 0)))))))
  (j9 (vA (vz Au hr (by decide) jg rfl (aC (pv 2) (aW (qL Aq hr (by decide) (pv 0))))))
  (j9 (xC (K:=K) rfl (pv 0) (qV (N':=["row"]) (cap:=[none]) (qb rfl rfl rfl) rfl (@qo _ K _ _ _ rfl (pv 1)) (λ_ _ _ _ _ _=>(p5 (i:=0) (by show (["row"]:List Str).Nodup;decide +kernel) rfl (Or.inl rfl))) (λ_ _ _ _ _ _=>qg) (λ_ _ _ _ _ _=>(ji (va (K:=K) rfl) rfl Ap zQ (aW (pv 0))))))
  (j9 (xC (K:=K) rfl (pv 0) (ji (WB (K:=K) rfl rfl) rfl Eh Wz (aW (qV (N':=["cloth"]) (cap:=[none]) (qb rfl rfl rfl) rfl (@qo _ K _ _ _ rfl (pv 2)) (λ_ _ _ _ _ _=>(p5 (i:=0) (by show (["cloth"]:List Str).Nodup;decide +kernel) rfl (Or.inl rfl))) (λ_ _ _ _ _ _=>qg) (λ_ _ _ _ _ _=>(@m9 _ _ _ _ _ (aC (fW An hr (aW (pv 0))) (aW (pv 0)))))))))
  (j9 (xC (K:=K) rfl (pv 0) (Jb (qq (ZV) (pv 3) xX (o3 _)) (xY zc j3) (pv 3)))
  (v5 (xC (K:=K) rfl (pv 0) (pv 4))))))))),?_⟩)
 obtain ⟨d,Hs,HR,x,dx,v1,a2,ok,rfl,sm,hx,hs,r1,r2,rv,ha2,t2,q⟩:=h;have hlim:lim=1000000:=rfl;have ten:=ok.ten;have glen:=ok.rin.len;have h4:=ok.h4;have L:Lent [x] Hs H HR:=⟨r1,λb hb=>⟨(r2 b hb).1,λz=>(r2 b hb).2 (yO.mp z)⟩⟩;have rd0:=Jm (N:=["self","rinses","cloths","last","time"]) (a:=x) (y:= .ob Aa [] []) (xs:=[.op λ_ v=>v=v1,.op λ_ v=>v = .ref a2,.at (.int d.last),.at (.int d.time)]) (ws:=[v1,.ref a2,.int d.last,.int d.time]) sm hs ⟨dx,[],hx,rfl,.nil⟩ (.cons (rep_op.mpr ⟨Hs,.refl _,rfl⟩) (.cons (rep_op.mpr ⟨Hs,.refl _,rfl⟩) (.cons (rep_at.mpr rfl) (.cons (rep_at.mpr rfl) .nil))));have cp:∀ (s0 s2 s3 s4:MSlot),c5 [none] [0] (k6 (x9 1)) (v9 0) k8 (z9 xi (q0 (z8 0) x0)) [s0,.sh (v6 d.rss),s2,s3,s4]=some (v6 d.rss):=λs0 s2 s3 s4 =>
  qm u3 u3 d.rss rfl rfl (by omega) λr _=>⟨_,rfl,rfl⟩
 have dk:∀(s0 s1 s3 s4:MSlot),z9 vt (q0 (wa [none] [0] (k6 (z8 2)) (v9 0) k8 (c4 (q0 (z9 qE (q0 (x9 0) x0)) (q0 (x9 0) x0)))) x0) [s0,s1,.bo (.lst (d.cls.map Cl.pv)),s3,s4]=some (.fk (keysOf d.cls) (d.cls.map Cl.pv)):=λs0 s1 s3 s4=>by
  refine j7 (j0 (KL Cl.pv (λc=>PV.tup [.at (.str c.name),c.pv]) d.cls rfl rfl (by omega) λc _=>⟨_,rfl,i0 (j0 (j7 rfl rfl) (j0 rfl rfl)) l2⟩) rfl) ?_;show (jm (d.cls.map λc=>PV.tup [.at (.str c.name),c.pv])).bind _=_;have k1:(d.cls.map λc=>((.inr c.name:v7),c.pv)).map (·.1)=keysOf d.cls:=by rw [yq];rfl
  have k2:(d.cls.map λc=>((.inr c.name:v7),c.pv)).map (·.2)=d.cls.map Cl.pv:=by rw [yq];rfl
  rw [XE,yM,k1,k2];exact if_pos ⟨ZF ok.nd,by rw [yZ];omega⟩
 have vl:=XR ok.rin ok.h1 ok.h4;rw [show zX d.rss d.h=d.low from rfl,vD d.low] at vl;refine Yv (f:=z9 jd (q0 (x9 1) x0)) (i:=1) (x:=v6 d.rss) (ls:=d.low.map (List.map V.int)) L rd0 rfl rv (j7 rfl vl) rfl (by decide) (by decide) λHs1 H1 rd1 g1=>?_;rw [<- vD] at rd1;refine Yw (b:=Vw (wP (z9 zD (q0 (x9 3) (q0 (x9 4) (q0 (xU Aa "hues" (xy Aa) 0 x0) x0)))))) (ε':=[.ow (.ob Aa ["least"] [v6 d.low]),.sh (.op λ_ v=>v=v1),.sh (.op λ_ v=>v = .ref a2),.sh (.at (.int d.last)),.sh (.at (.int d.time))]) rd1 ⟨_,j7 (j0 rfl (j0 rfl (j0 (ve rfl (by decide) rfl (vI ok)) rfl))) (UZ ok.l1 ok.l2 ok.t1),rfl⟩ λHs2 H2 σ2 rd2 g2=>?_;have tp:∀ {Hs' H':Hp} {σ':St} {ε':ME},RD [x] Hs H Hs' H' σ' ε'->Top Hs' H' a2 (.lst (d.cls.map Cl.pv)):=λrd=>t2.mono rd.s1 λo e=>rd.s2 _ _ e λz=>(L.out a2 ha2).2 z;have sl:∀ {Hs' H':Hp} {σ':St} {s0:MSlot},RD [x] Hs H Hs' H' σ' [s0,.sh (.op λ_ v=>v=v1),.sh (.op λ_ v=>v = .ref a2),.sh (.at (.int d.last)),.sh (.at (.int d.time))]->σ'[1]?=some (some v1)/\σ'[2]?=some (some (.ref a2)):=λrd=>by
  obtain ⟨w1,e1,c1⟩:=rd.sh 1 _ rfl;obtain ⟨_,_,rfl⟩:=rep_op.mp c1;obtain ⟨w2,e2,c2⟩:=rd.sh 2 _ rfl;obtain ⟨_,_,rfl⟩:=rep_op.mp c2;exact ⟨e1,e2⟩
 have rb:∀{Hs' H':Hp}{σ':St}{ε':ME},RD [x] Hs H Hs' H' σ' ε'->Rep (o6 Hs' HR) (.lst (d.cls.map Cl.pv)) (.ref a2):=λrd=>by
  obtain ⟨vs,hv,rvs⟩:=tp rd;refine rep_lst.mpr ⟨a2,vs,rfl,?_,rvs.mono (L.s1 rd)⟩;cases e:HR a2 with
  |none=>exact absurd e ha2
  |some o=>rw [QU e];have:=L.at rd _ _ e;rw [hv] at this;exact this.symm
 refine Pd (f:=z9 ja (q0 (x9 2) (q0 (xU Aa "hues" (xy Aa) 0 x0) x0))) (i:=2) (x:= .lst (d.cls.map Cl.pv)) L rd2 (sl rd2).2 (rb rd2) (j7 (j0 rfl (j0 (ve rfl (by decide) rfl (vI ok)) rfl)) (Vo ok.cl ok.nd ok.ten)) λH3 rd3=>?_;refine Yv (f:=c5 [none] [0] (k6 (x9 1)) (v9 0) k8 (z9 xi (q0 (z8 0) x0))) (i:=1) (x:=v6 d.rss) (ls:=d.rss.map (List.map V.int)) L rd3 (sl rd3).1 rv ((cp _ _ _ _).trans (by rw [vD d.rss])) rfl (by decide) (by decide) λHs4 H4 rd4 g4=>?_;rw [<- vD] at rd4;refine Pe (f:=z9 vt (q0 (wa [none] [0] (k6 (z8 2)) (v9 0) k8 (c4 (q0 (z9 qE (q0 (x9 0) x0)) (q0 (x9 0) x0)))) x0)) (i:=2) (x:= .lst (d.cls.map Cl.pv)) L rd4 (sl rd4).2 ha2 (tp rd4) (dk _ _ _ _) rfl (by decide) (by decide) λHs5 H5 rd5 g5=>?_;refine Yw (b:=QE Aa "last" (wP (dIf (dT (j4 wx (z8 3) (dC .non))) (dUn xz (dC (.int 1))) (x9 3)))) (ε':=[.ow (.ob Aa ["least","given","held","last"] [v6 d.low,v6 d.rss,.fk (keysOf d.cls) (d.cls.map Cl.pv),.at (.int d.last)]),.sh (.op λ_ v=>v=v1),.sh (.op λ_ v=>v = .ref a2),.sh (.at (.int d.last)),.sh (.at (.int d.time))]) rd5 ⟨.at (.int d.last),Zv (p7 (v:=false) (y7 rfl rfl rfl)) rfl,_,_,rfl,by decide,by decide,rfl⟩ λHs6 H6 σ6 rd6 g6=>?_;refine SemWS.h (w:=QE Aa "time" (wP (x9 4))) (N:=λε=>ε=[.ow (d.ob Aa),.sh (.op λ_ v=>v=v1),.sh (.op λ_ v=>v = .ref a2),.sh (.at (.int d.last)),.sh (.at (.int d.time))]) (R:=λ_ _=>False) ⟨.at (.int d.time),rfl,_,_,rfl,by decide,by decide,rfl⟩ rd6 (λε7 σ7 Hs7 H7 e7 rd g7=>?_) λ_ _ _ _ _ _ z _ _ _=>z.elim;subst e7;obtain ⟨a,ha,_,n,tpx⟩:=rd.ow 0 _ rfl;rw [rd.pin x (yO.mpr rfl)] at ha;injection ha with ha;injection ha with ha;injection ha with ha;subst ha;obtain ⟨o,ho,ro⟩:=tpx.rep n;have g2:Same Hs7 (z6 Hs7 x o):=λb u e=>by rw [z7 (w6 e n)];exact e
 refine q (z6 Hs7 x o) H7 (rd.s1.trans g2) (λb u e hb=>rd.s2 b u e λw=>hb (yO.mp w)) (λb u e=>?_) (λb hb hbx w=>?_) ro
 ·by_cases hbx:b=x
  ·subst hbx;rw [v3] at e;cases e;exact ho
  ·rw [z7 hbx] at e;exact rd.s3 _ _ e
 ·rw [z7 hbx];exact rd.s4 b hb w
theorem PR (F:FunD K "__init__" "Works.__init__" js f fd)(Au:Fy P w K mg base 4 "check_cloths" ["cloths","hues"] (qW ja (wK Af Ae Ag)))(Ay:Fy P w K mg base 3 "check_start" ["last","time","hues"] (qW zD (zf Ad)))(Ar:Fy P w K mg base 4 "least_rinses" ["rinses"] (jt jd (wL Ab)))(An:Fn P w K mg base 1 "name_of" ["cloth"] (y8 qE))(Eh:mg "dict"=none)(Ap:mg "list"=none)[qa K Aa][u7 K Aa "given"][u7 K Aa "held"][u7 K Aa "last"][u7 K Aa "least"][u7 K Aa "time"](Aq:Mt P w K mg base 1 Aa "hues" ["self"] (y8 (xy Aa))):FnOk P w K mg base (p8 P w) 5 f fd ["self","rinses","cloths","last","time"] (qN (qr Aa (xM Aa) (zG Af Ab Ad Ae Ag Aa)) (vG Aa)):=FnOk.or (PH F Au Ay Ar An Eh Ap Aq) (PK F Au Ay Ar An Eh Ap Aq)
abbrev jr:Stmt:=zA (top 39) 0
abbrev QS (Ac:Addr)(Aa:Addr):MS:=(u6 (xu Ac "now" (c4 (q0 (z9 (xM Aa) (q0 (x9 1) (q0 (k7 x0) (q0 (x9 2) (q0 (x9 3) x0))))) (q0 (k7 x0) (q0 (dC .non) x0)))))
  (xu Ac "past" (k7 x0)))
abbrev Gs (Ac:Addr)(Af:Addr)(Ab:Addr)(Ad:Addr)(Ae:Addr)(Ag:Addr)(Aa:Addr):YM:=(xn false (xu Ac "now" (c4 (q0 (z9 (xM Aa) (q0 (x9 1) (q0 (k7 x0) (q0 (x9 2) (q0 (x9 3) x0))))) (q0 (k7 x0) (q0 (dC .non) x0))))) (yX (jz (zG Af Ab Ad Ae Ag Aa) (q0 (x9 1) (q0 (k7 x0) (q0 (x9 2) (q0 (x9 3) x0))))))
  yNo)
def qQ (Ac:Addr)(Aa:Addr):List PV->Option PV:=jF 4 4 Ac (QS Ac Aa)
def xG (Ac:Addr)(Af:Addr)(Ab:Addr)(Ad:Addr)(Ae:Addr)(Ag:Addr)(Aa:Addr):List PV->Addr->XV->Prop:=Vz 4 4 Ac (Gs Ac Af Ab Ad Ae Ag Aa)
theorem UE:y6 ["self","rinses","last","time"] ["self","rinses","last","time"] (j6 jr):=b7
theorem PF (F:FunD K "__init__" "House.__init__" jr f fd)(B4:mg "Works"=some (.ref Aa))[qa K Ac][u7 K Ac "now"][u7 K Ac "past"](B5:zK P w K mg base 5 Aa ["self","rinses","cloths","last","time"] (qN (qr Aa (xM Aa) (zG Af Ab Ad Ae Ag Aa)) (vG Aa))):FnOk P w K mg base (p8 P w) 7 f fd ["self","rinses","last","time"] (qr Ac (qQ Ac Aa) (xG Ac Af Ab Ad Ae Ag Aa)) :=
 okIY (k:=6) (b:=QS Ac Aa) (xb:=Gs Ac Af Ab Ad Ae Ag Aa) F UE rfl rfl (λcdv A outer s H E hr=>⟨_,(j9 (xC (K:=K) rfl (pv 0) (@m9 _ _ _ _ _ (aC (Jc B5 hr (by decide) jg rfl B4 (aC (pv 1) (aC (@c8 _ _ _ _ j8) (aC (pv 2) (aW (pv 3)))))) (aC (@c8 _ _ _ _ j8) (aW xX)))))
  (v5 (xC (K:=K) rfl (pv 0) (@c8 _ _ _ _ j8)))),
  (by repeat' first|infer_instance|(refine @Mi.XL _ _ _ _ ?_ ?_)),(by repeat' first|infer_instance|(refine @Mi.UG _ _ _ _ _ _ ?_ ?_ ?_)|(refine @Mi.XL _ _ _ _ ?_ ?_))⟩)
abbrev Jw:Stmt:=zA (top 39) 7
abbrev VL (Ac:Addr):MS:=(b8 (j4 u9 (xH Ac "now" (x9 0)) (dC (.int 0))))
def zC (Ac:Addr):List PV->Option PV:=p9 1 1 (VL Ac)
theorem Me:y6 ["self"] ["self"] (j6 Jw):=b7
theorem PM (F:Fun K "works" "House.works" Jw f fd)[qa K Ac][u7 K Ac "now"]:FnOk P w K mg base v8 1 f fd ["self"] (y8 (zC Ac)) :=
 okP (k:=0) (b:=(VL Ac)) F Me rfl λcdv A outer s H E hr=>⟨_,(v5 (u4 (iW (K:=K) rfl (jN (K:=K) rfl (pv 0) rfl) j3))),
  inferInstance⟩
abbrev Jv:Stmt:=zA (top 39) 8
abbrev VJ (Ac:Addr):MS:=(b8 (z9 xi (q0 (j4 u9 (xH Ac "now" (x9 0)) (dC (.int 1))) x0)))
def Qd (Ac:Addr):List PV->Option PV:=xT 1 1 (VJ Ac)
theorem Md:y6 ["self"] ["self"] (j6 Jv):=b7
theorem PL (F:Fun K "done" "House.done" Jv f fd)(Ap:mg "list"=none)[qa K Ac][u7 K Ac "now"]:FnOk P w K mg base v8 1 f fd ["self"] (qz (Qd Ac)) :=
 okO (k:=0) (b:=(VJ Ac)) F Md rfl λcdv A outer s H E hr=>⟨_,(v5 (u4 (ji (va (K:=K) rfl) rfl Ap zQ (aW (iW (K:=K) rfl (jN (K:=K) rfl (pv 0) rfl) j3))))),
  inferInstance⟩
abbrev Jx:Stmt:=zA (top 39) 9
abbrev VM (Ac:Addr):MS:=(b8 (j4 u9 (xH Ac "now" (x9 0)) (dC (.int 2))))
def Qe (Ac:Addr):List PV->Option PV:=p9 1 1 (VM Ac)
theorem Mf:y6 ["self"] ["self"] (j6 Jx):=b7
theorem PN (F:Fun K "worst" "House.worst" Jx f fd)[qa K Ac][u7 K Ac "now"]:FnOk P w K mg base v8 1 f fd ["self"] (y8 (Qe Ac)) :=
 okP (k:=0) (b:=(VM Ac)) F Mf rfl λcdv A outer s H E hr=>⟨_,(v5 (u4 (iW (K:=K) rfl (jN (K:=K) rfl (pv 0) rfl) j3))),
  inferInstance⟩
section
variable {C CH:Addr}{d:Dr}
theorem Lr {t:Int}(t1:0<=t):zD [.at .non,.at (.int t),.at (.int h)]=some (.at .non) :=
 Xc rfl (k9 (o8 (Zk (p7 (v:=false) (y7 rfl rfl rfl))) o9) (o8 (ql (o7 (j7 rfl (jv t1)))) o9))
theorem Ly (ok:d.Ok)(hl:d.last=-1):xM C [v6 d.rss,.lst (d.cls.map Cl.pv),.at .non,.at (.int d.time)]=some (d.ob C):=by
 have hlim:lim=1000000:=rfl;have ten:=ok.ten;have glen:=ok.rin.len;have h4:=ok.h4;have cp:∀(s0 s2 s3 s4:MSlot),c5 [none] [0] (k6 (x9 1)) (v9 0) k8 (z9 xi (q0 (z8 0) x0)) [s0,.sh (v6 d.rss),s2,s3,s4]=some (v6 d.rss):=λs0 s2 s3 s4 =>
  qm u3 u3 d.rss rfl rfl (by omega) λr _=>⟨_,rfl,rfl⟩
 have dk:∀(s0 s1 s3 s4:MSlot),z9 vt (q0 (c5 [none] [0] (k6 (x9 2)) (v9 0) k8 (c4 (q0 (z9 qE (q0 (x9 0) x0)) (q0 (x9 0) x0)))) x0) [s0,s1,.sh (.lst (d.cls.map Cl.pv)),s3,s4]=some (.fk (keysOf d.cls) (d.cls.map Cl.pv)):=λs0 s1 s3 s4=>by
  refine j7 (j0 (qm Cl.pv (λc=>PV.tup [.at (.str c.name),c.pv]) d.cls rfl rfl (by omega) λc _=>⟨_,rfl,i0 (j0 (j7 rfl rfl) (j0 rfl rfl)) l2⟩) rfl) ?_;show (jm (d.cls.map λc=>PV.tup [.at (.str c.name),c.pv])).bind _=_;have k1:(d.cls.map λc=>((.inr c.name:v7),c.pv)).map (·.1)=keysOf d.cls:=by rw [yq];rfl
  have k2:(d.cls.map λc=>((.inr c.name:v7),c.pv)).map (·.2)=d.cls.map Cl.pv:=by rw [yq];rfl
  rw [XE,yM,k1,k2];exact if_pos ⟨ZF ok.nd,by rw [yZ];omega⟩
 have run:vU C [.ow (.ob C [] []),.sh (v6 d.rss),.sh (.lst (d.cls.map Cl.pv)),.sh (.at .non),.sh (.at (.int d.time))]=some (.nx [.ow (d.ob C),.sh (v6 d.rss),.sh (.lst (d.cls.map Cl.pv)),.sh (.at .non),.sh (.at (.int d.time))]) :=
  k9 (xK (j7 rfl (XR ok.rin ok.h1 ok.h4)) rfl (by decide) (by decide)) (k9 (wg (j7 (j0 rfl (j0 rfl (j0 (ve rfl (by decide) rfl (vI ok)) rfl))) (Lr ok.t1)))
   (k9 (wg (j7 (j0 rfl (j0 (ve rfl (by decide) rfl (vI ok)) rfl)) (Vo ok.cl ok.nd ok.ten)))
   (k9 (xK (cp _ _ _ _) rfl (by decide) (by decide)) (k9 (xK (dk _ _ _ _) rfl (by decide) (by decide)) (k9 (xK (y:= .at (.int d.last)) (f:="last") (ns:=["least","given","held"]) (Yb (p7 (v:=true) (y7 rfl rfl rfl)) (show some (PV.at (.int (-1)))=some (PV.at (.int d.last)) by rw [hl])) rfl (by decide) (by decide)) (xK (y:= .at (.int d.time)) (f:="time") (ns:=["least","given","held","last"]) (xs:=[v6 d.low,v6 d.rss,.fk (keysOf d.cls) (d.cls.map Cl.pv),.at (.int d.last)]) rfl rfl (by decide) (by decide)))))))
 unfold xM jF;refine (if_pos rfl).trans ?_;show (vU C [.ow (.ob C [] []),.sh (v6 d.rss),.sh (.lst (d.cls.map Cl.pv)),.sh (.at .non),.sh (.at (.int d.time))]).bind _=_;rw [run];rfl
def xw (CH C:Addr)(d:Dr):PV:= .ob CH ["now","past"] [.tup [d.ob C,.lst [],.at .non],.lst []]
theorem Gb (h:xM C [v6 d.rss,.lst [],l,t]=some y):qQ CH C [v6 d.rss,l,t]=some (.ob CH ["now","past"] [.tup [y,.lst [],.at .non],.lst []]):=by
 have run:QS CH C [.ow (.ob CH [] []),.sh (v6 d.rss),.sh l,.sh t]=some (.nx [.ow (.ob CH ["now","past"] [.tup [y,.lst [],.at .non],.lst []]),.sh (v6 d.rss),.sh l,.sh t]) :=
  k9 (xK (ns:=[]) (xs:=[]) (y:= .tup [y,.lst [],.at .non]) (i0 (j0 (j7 (j0 rfl (j0 (r9 rfl l0) (j0 rfl (j0 rfl rfl)))) h) (j0 (r9 rfl l0) (j0 rfl rfl))) l3) rfl (by decide) (by decide)) (xK (f:="past") (ns:=["now"]) (xs:=[.tup [y,.lst [],.at .non]]) (y:= .lst []) (r9 rfl l0) rfl (by decide) (by decide))
 unfold qQ jF;refine (if_pos rfl).trans ?_;show (QS CH C [.ow (.ob CH [] []),.sh (v6 d.rss),.sh l,.sh t]).bind _=_;rw [run];rfl
theorem Lu (ok:d.Ok)(hc:d.cls=[]):qQ CH C [v6 d.rss,.at (.int d.last),.at (.int d.time)]=some (xw CH C d):=by have h:=Lx (C:=C) ok;rw [hc] at h;exact Gb h
theorem Gc (ok:d.Ok)(hc:d.cls=[])(hl:d.last=-1):qQ CH C [v6 d.rss,.at .non,.at (.int d.time)]=some (xw CH C d):=by have h:=Ly (C:=C) ok hl;rw [hc] at h;exact Gb h
theorem wJ:zC CH [xw CH C d]=some (d.ob C):=qB rfl (m6 (y7 (jH rfl rfl) rfl rfl))
theorem Ls:Qd CH [xw CH C d]=some (.lst []):=vd rfl (m6 (j7 (j0 (y7 (jH rfl rfl) rfl rfl) rfl) rfl))
theorem Lv:Qe CH [xw CH C d]=some (.at .non):=qB rfl (m6 (y7 (jH rfl rfl) rfl rfl))
theorem Vp:vm C [d.ob C]=some (.tup [.at (.int d.last),.at (.int d.time)]):=qB rfl (m6 (i0 (j0 (jH rfl rfl) (j0 (jH rfl rfl) rfl)) l2))
theorem Gd (ok:d.Ok):wp C [d.ob C]=some (v6 d.rss):=by have hlim:lim=1000000:=rfl;have gl:=ok.rin.len;have g4:=ok.h4;exact vd rfl (m6 (qm u3 u3 d.rss (by unfold k6;rw [jH rfl rfl];rfl) rfl (by omega) λr _=>⟨_,rfl,rfl⟩))
end
def zt (CH C:Addr):Sp:=λvs H Q _=>∃(d:Dr)(Hs HR:Hp)(x dx:Addr)(v1:V),d.Ok/\d.cls=[]/\vs=[.ref x,v1,.int d.last,.int d.time]/\Same Hs H/\H x=some (.ins CH dx [])/\Hs x=none/\Same HR H/\(∀ b,HR b≠none->Hs b=none/\b≠x)/\Rep HR (v6 d.rss) v1 /\
 ∀ Hs' H',Same Hs Hs'->(∀ b o,H b=some o->b≠x->H' b=some o)->Same Hs' H'->(∀ b,H b≠none->b≠x->Hs b=none->Hs' b=none)->Rep Hs' (xw CH C d) (.ref x)->Q .non H'
theorem Bi (h:zt CH C vs H Q E):vs.length=(["self","rinses","last","time"]:List Str).length:=by obtain ⟨d,Hs,HR,x,dx,v1,_,_,rfl,_⟩:=h;rfl
theorem PJ (F:FunD K "__init__" "House.__init__" jr f fd)(B4:mg "Works"=some (.ref Aa))[qa K Ac][u7 K Ac "now"][u7 K Ac "past"](B5:zK P w K mg base 5 Aa ["self","rinses","cloths","last","time"] (qN (qr Aa (xM Aa) (zG Af Ab Ad Ae Ag Aa)) (vG Aa))):FnOk P w K mg base (p8 P w) 7 f fd ["self","rinses","last","time"] (zt Ac Aa):=by
 refine F.ok2 (k:=6) UE (λvs H Q E h=>Bi h) (λcdv A outer s H vs Q E hr h=>⟨_,(j9 (xC (K:=K) rfl (pv 0) (@m9 _ _ _ _ _ (aC (Jc B5 hr (by decide) jg rfl B4 (aC (pv 1) (aC (@c8 _ _ _ _ j8) (aC (pv 2) (aW (pv 3)))))) (aC (@c8 _ _ _ _ j8) (aW xX)))))
  (v5 (xC (K:=K) rfl (pv 0) (@c8 _ _ _ _ j8)))),?_⟩)
 obtain ⟨d,Hs,HR,x,dx,v1,ok,hc,rfl,sm,hx,hs,r1,r2,rv,q⟩:=h;have rd0:=Jm (N:=["self","rinses","last","time"]) (a:=x) (y:= .ob Ac [] []) (xs:=[.op λ_ v=>v=v1,.at (.int d.last),.at (.int d.time)]) (ws:=[v1,.int d.last,.int d.time]) sm hs ⟨dx,[],hx,rfl,.nil⟩ (.cons (rep_op.mpr ⟨Hs,.refl _,rfl⟩) (.cons (rep_at.mpr rfl) (.cons (rep_at.mpr rfl) .nil)));refine ⟨v1,rfl,(by show 0<=sizeLine;decide),λp hp=>⟨_,rfl,_,rfl,λy dy hy hdy hne=> .inr ?_⟩⟩;have hp1:z6 H p (.lst []) p=some (.lst []):=v3;have s1:∀ b u,H b=some u->z6 H p (.lst []) b=some u:=λb u e=>by rw [z7 (w6 e hp)];exact e
 generalize z6 H p (.lst [])=H1 at hy hdy hp1 s1;have keep:∀ b u,H1 b=some u->z6 (z6 H1 dy (.own y)) y (.ins Aa dy []) b=some u:=λb u e=>by rw [z7 (w6 e hy),z7 (w6 e hdy)];exact e
 have hHy:H y=none:=by
  cases e:H y with
  |none=>rfl
  |some u=>rw [s1 y u e] at hy;cases hy
 have hHd:H dy=none:=by
  cases e:H dy with
  |none=>rfl
  |some u=>rw [s1 dy u e] at hdy;cases hdy
 have hpy:p≠y:=λz=>by rw [z,hy] at hp1;cases hp1
 have hpd:p≠dy:=λz=>by rw [z,hdy] at hp1;cases hp1
 have hRp:HR p=none:=by
  cases e:HR p with
  |none=>rfl
  |some u=>rw [r1 p u e] at hp;cases hp
 have sR:Same HR (z6 HR p (.lst [])):=λb u e=>by rw [z7 (w6 e hRp)];exact e
 refine ⟨d,Hs,z6 HR p (.lst []),y,dy,v1,p,ok,rfl,λb u e=>keep b u (s1 b u (sm b u e)),v3,sm.free hHy,λb u e=>?_,λb hb=>?_,rv.mono sR,by rw [v3];exact (λz=>nomatch z),⟨[],keep _ _ hp1,by rw [hc];exact .nil⟩,λHs' H' g1 g2 g3 g4 rob=>⟨rfl,?_⟩⟩
 ·by_cases z:b=p
  ·rw [z,v3] at e;rw [z,<- e];exact keep _ _ hp1
  ·rw [z7 z] at e;exact keep b u (s1 b u (r1 b u e))
 ·by_cases z:b=p
  ·rw [z];exact ⟨sm.free hp,hpy⟩
  ·rw [z7 z] at hb;refine ⟨(r2 b hb).1,λw=>?_⟩;cases e:HR b with
   |none=>exact hb e
   |some u=>rw [w] at e;rw [r1 y u e] at hHy;cases hHy
 have x5:Ext Hs H Hs' H':=by
  refine ⟨g1,λb u e=>g2 b u (keep b u (s1 b u e)) (w6 e hHy),g3,λb hb z=>?_⟩;have hbx:b≠y:=λq=>hb (by rw [q];exact hHy);have hbd:b≠dy:=λq=>hb (by rw [q];exact hHd);refine g4 b ?_ hbx z;rw [z7 hbx,z7 hbd];cases e:H b with
  |none=>exact absurd e hb
  |some u=>rw [s1 b u e];exact λz=>nomatch z
 have rd5:=rd0.go x5;refine ⟨(by show 0<=sizeLine;decide),λp2 hp2=>⟨(by show 3<=sizeLine;decide),λp3 hp3=>?_⟩⟩;have x6:Ext Hs' H' (z6 Hs' p2 (.lst [])) (z6 H' p2 (.lst [])):= .new g3 hp2;have x7:Ext _ _ (z6 (z6 Hs' p2 (.lst [])) p3 (.tup [.ref y,.ref p2,.non])) (z6 (z6 H' p2 (.lst [])) p3 (.tup [.ref y,.ref p2,.non])):= .new x6.s3 hp3;have rt:Rep (z6 (z6 Hs' p2 (.lst [])) p3 (.tup [.ref y,.ref p2,.non])) (.tup [d.ob Aa,.lst [],.at .non]) (.ref p3) :=
  rep_tup.mpr ⟨p3,_,rfl,v3,.cons ((rob.mono x6.s1).mono x7.s1) (.cons (rep_lst.mpr ⟨p2,[],rfl,x7.s1 _ _ v3,.nil⟩) (.one (rep_at.mpr rfl)))⟩
 have rd7:=(rd5.go x6).go x7;obtain ⟨p4,hp4,h04,hs4,dx4,fs4,hH4,hk4,hr4⟩:=rd7.ow 0 (.ob Ac [] []) rfl;have hf':("now":Str)∉fs4.map (·.1):=by rw [hk4];exact λz=>nomatch z
 have hl':fs4.length<1000:=by rw [<- yZ (f:=(·.1)),hk4];decide
 refine ⟨_,hp4,p4,Ac,dx4,fs4,rfl,hH4,(inferInstance:qa K Ac).c,(inferInstance:u7 K Ac "now").n,hl',?_⟩;rw [Qq hf'];have rd8:=rd7.change (i:=0) (o:= .ins Ac dx4 (fs4++[(("now":Str),V.ref p3)])) (y:= .ob Ac ["now"] [.tup [d.ob Aa,.lst [],.at .non]]) rfl hp4 ⟨dx4,_,v3,by rw [yx,hk4];rfl,by rw [yx];exact hr4.append (.one rt)⟩;show jq K (qh 0) (tLst xD) "past" _ _ _;refine SemWS.h (w:=QE Ac "past" (wP (k7 x0))) (N:=λε=>ε=[.ow (xw Ac Aa d),.sh (.op λ_ v=>v=v1),.sh (.at (.int d.last)),.sh (.at (.int d.time))]) (R:=λ_ _=>False) ⟨.lst [],r9 rfl l0,_,_,rfl,by decide,by decide,rfl⟩ rd8 (λε7 σ7 Hs7 H7 e7 rd g7=>?_) λ_ _ _ _ _ _ z _ _ _=>z.elim;subst e7;obtain ⟨a,ha,_,n,tpx⟩:=rd.ow 0 _ rfl;rw [rd.pin x (yO.mpr rfl)] at ha;injection ha with ha;injection ha with ha;injection ha with ha;subst ha;obtain ⟨o,ho,ro⟩:=tpx.rep n;have g2:Same Hs7 (z6 Hs7 x o):=λb u e=>by rw [z7 (w6 e n)];exact e
 refine q (z6 Hs7 x o) H7 (rd.s1.trans g2) (λb u e hb=>rd.s2 b u e λw=>hb (yO.mp w)) (λb u e=>?_) (λb hb hbx w=>?_) ro
 ·by_cases hbx:b=x
  ·subst hbx;rw [v3] at e;cases e;exact ho
  ·rw [z7 hbx] at e;exact rd.s3 _ _ e
 ·rw [z7 hbx];exact rd.s4 b hb w
theorem ZT (F:FunD K "__init__" "House.__init__" jr f fd)(B4:mg "Works"=some (.ref Aa))[qa K Ac][u7 K Ac "now"][u7 K Ac "past"](B5:zK P w K mg base 5 Aa ["self","rinses","cloths","last","time"] (qN (qr Aa (xM Aa) (zG Af Ab Ad Ae Ag Aa)) (vG Aa))):FnOk P w K mg base (p8 P w) 7 f fd ["self","rinses","last","time"] (qN (qr Ac (qQ Ac Aa) (xG Ac Af Ab Ad Ae Ag Aa)) (zt Ac Aa)):=FnOk.or (PF F B4 B5) (PJ F B4 B5)
abbrev Vb:Stmt:=top 46
abbrev Jl (K:Fg)(Ac:Addr)(Af:Addr)(Ab:Addr)(Ad:Addr)(Ai:Addr)(Ae:Addr)(Ag:Addr)(Aa:Addr):RM:=(rSeq (rP (xJ 3 (dC .non)))
  (Ur K Ai [Ab,Ad] 4 3 (xS (z9 (qQ Ac Aa) (q0 (x9 0) (q0 (x9 1) (q0 (x9 2) x0))))) (yX (jz (xG Ac Af Ab Ad Ae Ag Aa) (q0 (x9 0) (q0 (x9 1) (q0 (x9 2) x0)))))
   (λea c dx=>(rP (u6 (m5 (dT (j4 (wy ea c dx) (z8 3) (dC .non))) (b8 (dC (.str ""))) n9)
  (u6 (xJ 5 (k7 (q0 (z9 (vw K [Ab,Ad] ea c dx) (q0 (z8 3) (q0 (dC (.ref Ab)) x0))) (q0 (z9 (vw K [Ab,Ad] ea c dx) (q0 (z8 3) (q0 (dC (.ref Ad)) x0))) (q0 (z9 (Ql K [Ab,Ad] ea c dx) (q0 (z8 3) (q0 (c4 (q0 (dC (.ref Af)) (q0 (dC (.ref Ae)) x0))) x0))) x0)))))
  (u6 (m5 (dOr (dT (j4 pNe (Zl (z8 5) (dC (.bl true))) (dC (.int 1)))) (c6 (i9 (z9 (vw K [Ab,Ad] ea c dx) (q0 (z8 3) (q0 (dC (.ty "ValueError")) x0)))))) (b8 (dC (.str "another"))) n9)
  (b8 (j4 u9 (k7 (q0 (dC (.str "NoRinses")) (q0 (dC (.str "NoStart")) (q0 (dC (.str "another")) x0)))) (Zn (z8 5) (dC (.bl true))))))))))))
theorem sc_word:y6 ["rinses","last","time","caught","e","kinds"] ["rinses","last","time"] (j6 Vb):=b7
abbrev JU:Stmt:=top 47
abbrev Wj:MS:=(u6 (xJ 2 (j4 xN (z9 qK (q0 (z8 0) x0)) (dC (.int 1))))
  (u6 (wd 3 (k7 (q0 (k7 x0) (q0 (k7 (q0 (k7 x0) x0)) (q0 (wW (z8 0) (pSo (dC (.int 1))) pNo) (q0 (c5 [none] [0] (k6 (x9 0)) (v9 0) k8 (j4 qG (z8 0) (k7 (q0 (dC (.int 0)) x0)))) x0))))))
  (u6 (wc (k6 (k7 (q0 (dUn xz (dC (.int 1))) (q0 (dC (.bl true)) (q0 (dC .non) (q0 (dC (.str "0")) x0)))))) (v9 4) (u6 (wb 5 [none] [0] (k6 (x9 0)) (v9 0) k8 (z9 xi (q0 (z8 0) x0)) (j4 jM (z8 1) (j4 qG (z8 2) (dC (.int 1)))) (j4 jM (j4 pDiv (z8 1) (j4 qG (z8 2) (dC (.int 1)))) (z8 2)) (x9 4))
  (dFz 5 (wU 3 (x9 5)))))
  (b8 (j4 Qk (z8 3) (k7 (q0 (c5 [none] [0] (zT (q0 (dC (.int 6)) x0)) (v9 0) k8 (j4 pRep (k7 (q0 (dC (.int 0)) x0)) (dC (.int 5)))) (q0 (k7 (q0 (z9 xi (q0 (j4 u9 (z8 0) (dC (.int 0))) x0)) x0)) x0))))))))
def Xq:List PV->Option PV:=xT 6 2 Wj
theorem sc_no_rinses:y6 ["rinses","at","hues","found","thing","spoilt"] ["rinses","at"] (j6 JU):=b7
theorem Ct (F:Fun K "_law_no_rinses" "_law_no_rinses" JU f fd)(Aw:mg "len"=none)(Ap:mg "list"=none)(Az:mg "range"=none):FnOk P w K mg base v8 1 f fd ["rinses","at"] (qz Xq) :=
 okO (k:=0) (b:=Wj) F sc_no_rinses rfl λcdv A outer s H E hr=>⟨_,(j9 (sW 2 sc_no_rinses.nd (w5 (je) (t6 (zR (K:=K) rfl) rfl Aw PySem.boot_len (aW (pv 0))) j3))
  (j9 (sW 3 sc_no_rinses.nd (@c8 _ _ _ _ (aC (@c8 _ _ _ _ j8) (aC (@c8 _ _ _ _ (aW (@c8 _ _ _ _ j8))) (aC (Df (MT (K:=K) rfl) (pv 0) (Dt j3) Ds) (aW (qV (N':=["row"]) (cap:=[none]) (qb rfl rfl rfl) rfl (@qo _ K _ _ _ rfl (pv 0)) (λ_ _ _ _ _ _=>(p5 (i:=0) (by show (["row"]:List Str).Nodup;decide +kernel) rfl (Or.inl rfl))) (λ_ _ _ _ _ _=>qg) (λ_ _ _ _ _ _=>(w5 (xW (K:=K) rfl) (pv 0) (@c8 _ _ _ _ (aW j3)))))))))))
  (j9 (@jn _ _ _ _ _ _ _ _ PassesOwn.never rfl (@qo _ K _ _ _ rfl (@c8 _ _ _ _ (aC (xY zc j3) (aC qU (aC xX (aW xj)))))) (gW 4 sc_no_rinses.nd)
   (j9 (wC (i:=5) (N':=["row"]) (cap:=[none]) (qb rfl rfl rfl) rfl sc_no_rinses.nd rfl rfl (@qo _ K _ _ _ rfl (pv 0)) (λ_ _ _ _ _ _=>(p5 (i:=0) (by show (["row"]:List Str).Nodup;decide +kernel) rfl (Or.inl rfl))) (λ_ _ _ _ _ _=>qg) (λ_ _ _ _ _ _=>(ji (va (K:=K) rfl) rfl Ap zQ (aW (pv 0)))))
  (j9 (XF (pv 4) (Jg (iW (K:=K) rfl (pv 5) (w5 (zn) (pv 1) (w5 (xW (K:=K) rfl) (pv 2) j3))) (w5 (zn) (w5 (ZU) (pv 1) (w5 (xW (K:=K) rfl) (pv 2) j3)) (pv 2)) Vd))
  (v5 (vA (ZZ (K:=K) rfl PySem.F.plainAttrs_list PySem.F.slot_list_append PySem.F.type_list_append Pq (pv 3) (z5 (pv 5) j8)))))) (by intro _;rfl))
  (v5 (u4 (w5 (xW (K:=K) rfl) (pv 3) (@c8 _ _ _ _ (aC (qV (N':=["row"]) (cap:=[none]) (qb rfl rfl rfl) rfl (wA rfl Az (aW j3)) (λ_ _ _ _ _ _=>(p5 (i:=0) (by show (["row"]:List Str).Nodup;decide +kernel) rfl (Or.inl rfl))) (λ_ _ _ _ _ _=>qg) (λ_ _ _ _ _ _=>(w5 (CO) (@c8 _ _ _ _ (aW j3)) j3))) (aW (@c8 _ _ _ _ (aW (ji (va (K:=K) rfl) rfl Ap zQ (aW (iW (K:=K) rfl (pv 0) j3)))))))))))))),
  inferInstance⟩
theorem Bx {x:PV}{T n:String}(h:tyP x=some T)(hb:tyB T n=some false):i4 [x,.at (.ty n)]=some (.at (.bl false)):=by show (tyP x).bind _=_;rw [h,yM,hb];rfl
def NW (x:PV):Prop:=jc [x]=some (.at (.bl false))
theorem ZR (b:Bool):NW (.at (.bl b)):=by
 have h1:i4 [.at (.bl b),.at (.ty "int")]=some (.at (.bl true)):=by unfold i4 tyP;rfl
 have h2:i4 [.at (.bl b),.at (.ty "bool")]=some (.at (.bl true)):=by unfold i4 tyP;rfl
 exact qB rfl (m6 (vc (j7 rfl h1) (Yc (v:=true) (j7 rfl h2))))
theorem YL {x:PV}{T:String}(h:tyP x=some T)(hb:tyB T "int"=some false):NW x:=qB rfl (m6 (Zs (j7 rfl (Bx h hb))))
theorem YK:NW (.at .non):=YL rfl rfl
theorem ZS (s:Str):NW (.at (.str s)):=YL rfl rfl
theorem Qa {x:PV}(h:NW x)(k:Int):qD [x,.at (.int k)]=some (.at (.bl false)):=qB rfl (m6 (Zs (j7 rfl h)))
theorem wZ {n k:Int}(h:n<k):qD [.at (.int n),.at (.int k)]=some (.at (.bl false)):=(Ga n k).trans (by rw [yL (by omega)])
section
variable {C CC CR CS CM CT:Addr}{ε:ME}{c:MB}{xa xb:YM}{k:Addr}{y:XV}
theorem wN (h:c ε=some true)(q:xa ε k y):yIf c xa xb ε k y:=⟨true,h,xc q⟩
theorem Kq {p q:PV->PV->Option PV}{b c:M}{x y:PV}(h1:a ε=some x)(h2:b ε=some y)(h:p x y=some (.at (.bl false))):zj p q a b c ε=some (.at (.bl false)):=by unfold zj;rw [h1,yM,h2,yM,h];rfl
theorem XW {rs:List PV}(h:rs.length<=1):jy CR [.lst rs] CR none:=by refine ⟨rfl,.inr ⟨_,o8 (ql (o7 (j7 rfl vg))) o9,.inr ⟨_,zl (x:= .at (.int ((rs.length:Int)-1))) rfl,.inl (wN (vb (p7 (v:=false) ?_)) ⟨rfl,rfl⟩)⟩⟩⟩;refine Kq rfl rfl ?_;show some (PV.at (.bl (decide ((1:Int)<=(rs.length:Int)-1))))=_;rw [yL (by omega)]
theorem wM (h1:wz l (.at .non)=some (.at (.bl true)))(h2:qD [l,.at (.int (-1))]=some (.at (.bl false))∨qD [l,.at (.int (-1))]=some (.at (.bl true))/\pLt l (.at (.int h))=some (.at (.bl false))):zf CS [l,t,.at (.int h)] CS none:=by
 refine ⟨rfl,.inl (wN (vY (v:=true) (p7 (v:=true) (y7 rfl rfl h1)) ?_) ⟨rfl,rfl⟩)⟩;rcases h2 with h2|⟨h2,h3⟩
 ·exact vb (Zk (o7 (j7 rfl h2)))
 ·exact vb (vY (v:=false) (o7 (j7 rfl h2)) (p7 (v:=false) (y7 rfl rfl h3)))
theorem QH {l:Int}(h1:-1<=l)(h2:l<(h:Int))(h3:qD [t,.at (.int 0)]=some (.at (.bl false))):zf CS [.at (.int l),t,.at (.int h)] CS none:=by refine ⟨rfl,.inr ⟨_,o8 (vY (v:=false) (p7 (v:=true) rfl) (ql (vY (v:=true) (o7 (j7 rfl (jv h1))) (p7 (v:=true) ?_)))) o9,wN (vb (o7 (j7 rfl h3))) ⟨rfl,rfl⟩⟩⟩;show some (PV.at (.bl (decide (l<(h:Int)))))=_;rw [yo h2]
def jL:PV->Bool
 | .at (.int n)=>decide (0<=n)
 |_=>false
def QL (x:PV):Prop:=(∃ n:Int,x = .at (.int n))∨NW x/\jL x=false
theorem LI {r:List PV}(hl:r.length=h)(h4:h<=4)(hr:∀ x∈r,QL x):jb [.lst r,.at (.int h)]=some (.at (.bl (r.all jL))):=by
 have hlim:lim=1000000:=rfl;have e:(r.map jL).all id=r.all jL:=by rw [List.all_map];rfl
 rw [<- e];refine qB rfl (k9 (o8 (jG (ql (o7 (j7 rfl vg))) (p7 (v:=false) (y7 (j7 rfl rfl) rfl ?_))) o9) (m6 (j7 (j0 (qm (λx:PV=>x) (λx=>PV.at (.bl (jL x))) r (by show some r=_;rw [List.map_id']) rfl (by omega) λv hvm=>?_) rfl) ?_)))
 ·show (peq 6 (.at (.int (r.length:Int))) (.at (.int (h:Int)))).bind _=_;rw [hl];exact vx (x:= .at (.int (h:Int))) rfl
 ·refine ⟨_,rfl,?_⟩;rcases hr v hvm with ⟨n,rfl⟩|⟨h1,h2⟩
  ·exact vc (j7 rfl (XS n)) rfl
  ·rw [h2];exact Zs (j7 rfl h1)
 ·rw [<- Za,yq];rfl
theorem Ge {r:List PV}(hl:r.length≠h):jb [.lst r,.at (.int h)]=some (.at (.bl false)):=by refine qB rfl (Yd (Ya (dOr_r (ql (o7 (j7 rfl vg))) (p7 (v:=true) (y7 (j7 rfl rfl) rfl ?_))) (m6 rfl)));refine (Pw (r.length:Int) (h:Int)).trans ?_;rw [yL (by omega)];rfl
theorem Vy {rs:List PV}(f:PV->Bool)(hl:rs.length=h+1)(h1:1<=h)(h4:h<=4)(hr:∀ r∈rs,jb [r,.at (.int h)]=some (.at (.bl (f r))))(hf:rs.all f=false):jy CR [.lst rs] CR none:=by
 have hlim:lim=1000000:=rfl;have eh:xN (.at (.int (rs.length:Int))) (.at (.int 1))=some (.at (.int (h:Int))):=by show some (PV.at (.int ((rs.length:Int)-1)))=_;rw [hl,show ((h+1:Nat):Int)-1=(h:Int) by omega]
 refine ⟨rfl,.inr ⟨_,o8 (ql (o7 (j7 rfl vg))) o9,.inr ⟨_,zl (x:= .at (.int (h:Int))) (y7 (j7 rfl rfl) rfl eh),.inr ⟨_,o8 (ql (p7 (wX (r:=true) rfl rfl ?_ rfl ?_))) o9,wN (vb (o7 (j7 (j0 (qm (λx:PV=>x) (λx=>PV.at (.bl (f x))) rs (by show some rs=_;rw [List.map_id']) rfl (by omega) λr hrm=>⟨_,rfl,j7 rfl (hr r hrm)⟩) rfl) ?_))) ⟨rfl,rfl⟩⟩⟩⟩⟩
 ·show some (PV.at (.bl (decide ((1:Int)<=(h:Int)))))=_;rw [yo (by omega)]
 ·show some (PV.at (.bl (decide ((h:Int)<=4))))=_;rw [yo (by omega)]
 ·have e:(rs.map f).all id=false:=by rw [List.all_map];exact hf
  rw [<- e,<- Za,yq];rfl
theorem LR {rs:List PV}(h:5<rs.length):jy CR [.lst rs] CR none:=by
 refine ⟨rfl,.inr ⟨_,o8 (ql (o7 (j7 rfl vg))) o9,.inr ⟨_,zl (x:= .at (.int ((rs.length:Int)-1))) rfl,.inl (wN (vb (p7 (v:=false) (wX (r:=false) rfl rfl ?_ rfl ?_))) ⟨rfl,rfl⟩)⟩⟩⟩
 ·show some (PV.at (.bl (decide ((1:Int)<=(rs.length:Int)-1))))=_;rw [yo (by omega)]
 ·show some (PV.at (.bl (decide ((rs.length:Int)-1<=4))))=_;rw [yL (by omega)]
theorem LP {rs:List PV}(h:jy CR [.lst rs] CR none):zG CC CR CS CM CT C [.lst rs,cl,l,t] CR none:=⟨rfl,.inl ⟨_,rfl,rfl,.inl ⟨_,rfl,h⟩⟩⟩
theorem LQ (ok:d.Ok)(h:zf CS [l,t,.at (.int d.h)] CS none):zG CC CR CS CM CT C [v6 d.rss,cl,l,t] CS none :=
 ⟨rfl,.inr ⟨_,xK (j7 rfl (XR ok.rin ok.h1 ok.h4)) rfl (by decide) (by decide),.inl ⟨_,j0 rfl (j0 rfl (j0 (ve rfl (by decide) rfl (vI ok)) rfl)),h⟩⟩⟩
theorem xh {r:PV}{c:Addr}(h:zG CC CR CS CM CT C [r,.lst [],l,t] c none):xG CH CC CR CS CM CT C [r,l,t] c none:=⟨rfl,.inl ⟨_,j0 rfl (j0 (r9 rfl l0) (j0 rfl (j0 rfl rfl))),h⟩⟩
end
def zM (CC CR CS CM CT CH C:Addr):List PV->PV->Prop:=λxs y=>xs.length=3/\((∃ z,qQ CH C xs=some z)/\y = .at (.str "")∨xG CH CC CR CS CM CT C xs CR none/\y = .at (.str "NoRinses")∨xG CH CC CR CS CM CT C xs CS none/\y = .at (.str "NoStart"))
theorem ZA {K:Fg}{v:V}{d:Value}{b:Bool}(hc:c∈cs)(h:i6 v=some d)(i:PySem.W.kitOne K (.ref c) d=some b):vw K cs ea c dx [.op (exW ea c dx),.at v]=some (.at (.bl b)):=by unfold vw;refine (if_pos ⟨rfl,hc⟩).trans ?_;rw [h,yM,i];rfl
theorem BB {K:Fg}{ys:List PV}{b:Bool}(hc:c∈cs)(h0:ats ys=some vs)(h:QC vs=some ds)(i:PySem.W.kitAny K (.ref c) ds=some b):Ql K cs ea c dx [.op (exW ea c dx),.tup ys]=some (.at (.bl b)):=by unfold Ql;refine (if_pos ⟨rfl,hc⟩).trans ?_;rw [h0,yM,h,yM,i];rfl
theorem BC :wy ea c dx (.op (exW ea c dx)) (.at .non)=some (.at (.bl false)):=if_pos ⟨rfl,rfl⟩
theorem BD :wy ea c dx (.at .non) (.at .non)=some (.at (.bl true)):=by unfold wy;rw [if_neg (λz=>nomatch z.1)];rfl
def kW (b0 b1:Bool):PV:= .lst [.at (.bl b0),.at (.bl b1),.at (.bl false)]
theorem Bk {K:Fg}(Al:PySem.W.exmOne K (.ref Ab) (.ref Ai)=some true)(Am:PySem.W.exmOne K (.ref Ad) (.ref Ai)=some true)(Ao:PySem.W.kitOne K (.ref Ab) (.ref Ab)=some true)(As:PySem.W.kitOne K (.ref Ab) (.ref Ad)=some false)(Aj:PySem.W.kitAny K (.ref Ab) [.ref Af,.ref Ae]=some false)(A3:PySem.W.kitOne K (.ref Ab) (.type "ValueError")=some true)(At:PySem.W.kitOne K (.ref Ad) (.ref Ab)=some false)(Av:PySem.W.kitOne K (.ref Ad) (.ref Ad)=some true)(Ak:PySem.W.kitAny K (.ref Ad) [.ref Af,.ref Ae]=some false)(A4:PySem.W.kitOne K (.ref Ad) (.type "ValueError")=some true):∀ xs y,zM Af Ab Ad Ae Ag Ac Aa xs y->rFn 6 3 (Jl K Ac Af Ab Ad Ai Ae Ag Aa) xs y:=by
 rintro xs y ⟨hl,h⟩;obtain ⟨a,b,d,rfl⟩:∃ a b d,xs=[a,b,d]:=by
  match xs,hl with
  |[a,b,d],_=>exact ⟨a,b,d,rfl⟩
 rcases h with ⟨⟨z,hz⟩,rfl⟩|h
 ·exact ⟨rfl,.rt (.at (.str "")),.inl ⟨_,zl rfl,.inl ⟨_,0,0,none,wg (j7 rfl hz),Yd (Ya (p7 (v:=true) (y7 rfl rfl BD)) (m6 rfl))⟩⟩,rfl⟩
 ·have go:∀ {c:Addr} {b0 b1:Bool} {w:Str},c∈[Ab,Ad]->PySem.W.exmOne K (.ref c) (.ref Ai)=some true->PySem.W.kitOne K (.ref c) (.ref Ab)=some b0->PySem.W.kitOne K (.ref c) (.ref Ad)=some b1->PySem.W.kitAny K (.ref c) [.ref Af,.ref Ae]=some false->PySem.W.kitOne K (.ref c) (.type "ValueError")=some true ->
    xG Ac Af Ab Ad Ae Ag Aa [a,b,d] c none->Zl (z8 5) (dC (.bl true)) [.sh a,.sh b,.sh d,.no,.no,.sh (kW b0 b1)]=some (.at (.int 1)) ->
    j4 u9 (k7 (q0 (dC (.str "NoRinses")) (q0 (dC (.str "NoStart")) (q0 (dC (.str "another")) x0)))) (Zn (z8 5) (dC (.bl true))) [.sh a,.sh b,.sh d,.no,.no,.sh (kW b0 b1)]=some (.at (.str w)) ->
    rFn 6 3 (Jl K Ac Af Ab Ad Ai Ae Ag Aa) [a,b,d] (.at (.str w)):=λ{c b0 b1 w} hc he h0 h1 h2 h3 hx hn hw=>by
   refine ⟨rfl,.rt (.at (.str w)),.inl ⟨_,zl rfl,.inr ⟨c,none,hc,he,⟨_,rfl,hx⟩,by show 4<6;decide,λea dx=>?_⟩⟩,rfl⟩;show u6 _ _ [.sh a,.sh b,.sh d,.sh (.op (exW ea c dx)),.no,.no]=_;refine k9 (o8 (p7 (v:=false) (y7 rfl rfl BC)) o9) ?_;refine k9 (zl (x:=kW b0 b1) (r9 (j0 (j7 rfl (ZA hc rfl h0)) (j0 (j7 rfl (ZA hc rfl h1)) (j0 (j7 (j0 rfl (j0 (i0 rfl l2) rfl)) (BB hc rfl rfl h2)) rfl))) l3)) ?_;refine k9 (o8 (jG (p7 (v:=false) (y7 hn rfl rfl)) (ql (o7 (j7 rfl (ZA hc rfl h3))))) o9) ?_;exact m6 hw
  rcases h with ⟨hx,rfl⟩|⟨hx,rfl⟩
  ·exact go (by simp) Al Ao As Aj A3 hx rfl rfl
  ·exact go (by simp) Am At Av Ak A4 hx rfl rfl
theorem CF (F:Fun K "_law_word" "_law_word" Vb f fd)(Ef:mg "ValueError"=none)(Ah:mg "isinstance"=none)(D7:mg "House"=some (.ref Ac))(B8:mg "NoCloth"=some (.ref Af))(A5:mg "NoRinses"=some (.ref Ab))(B0:mg "NoStart"=some (.ref Ad))(Eg:mg "RinseError"=some (.ref Ai))(B7:mg "TooMany"=some (.ref Ae))(B3:qS K Ab)(B9:qS K Ad)(Ep:zK P w K mg base 7 Ac ["self","rinses","last","time"] (qN (qr Ac (qQ Ac Aa) (xG Ac Af Ab Ad Ae Ag Aa)) (zt Ac Aa)))(Al:PySem.W.exmOne K (.ref Ab) (.ref Ai)=some true)(Am:PySem.W.exmOne K (.ref Ad) (.ref Ai)=some true)(Ao:PySem.W.kitOne K (.ref Ab) (.ref Ab)=some true)(As:PySem.W.kitOne K (.ref Ab) (.ref Ad)=some false)(Aj:PySem.W.kitAny K (.ref Ab) [.ref Af,.ref Ae]=some false)(A3:PySem.W.kitOne K (.ref Ab) (.type "ValueError")=some true)(At:PySem.W.kitOne K (.ref Ad) (.ref Ab)=some false)(Av:PySem.W.kitOne K (.ref Ad) (.ref Ad)=some true)(Ak:PySem.W.kitAny K (.ref Ad) [.ref Af,.ref Ae]=some false)(A4:PySem.W.kitOne K (.ref Ad) (.type "ValueError")=some true):FnOk P w K mg base v8 9 f fd ["rinses","last","time"] (spR (zM Af Ab Ad Ae Ag Ac Aa)) :=
 FnOk.imp (okTR (k:=8) (r:=Jl K Ac Af Ab Ad Ai Ae Ag Aa) F sc_word λcdv A outer s H E hr=>⟨_,(j9 (sW 3 sc_word.nd xX)
  (j9 (Dz (K:=K) (cs:=[Ab,Ad]) (i:=4) rfl rfl rfl rfl rfl Eg sc_word.nd rfl rfl rfl (λE _ _ _ hp=>(DB (DA (Dh Ep hr (by decide) hp rfl D7 (aC (pv 0) (aC (pv 1) (aW (pv 2))))))))
   (λpn ea oe vs c dx hc hf hd hE hm=>(v5 (sW 3 sc_word.nd (pv 4)))))
  (j9 (qe (qq (ZV) (pv 3) xX (o3 _)) (v5 (u4 xj)) qf)
  (j9 (sW 5 sc_word.nd (@c8 _ _ _ _ (aC (t6 (Zg (K:=K) (cs:=[Ab,Ad]) rfl (jJ B3 (jJ B9 Xd))) rfl Ah zx (aC (pv 3) (aW (jO (v:= .ref Ab) rfl A5 rfl)))) (aC (t6 (Zg (K:=K) (cs:=[Ab,Ad]) rfl (jJ B3 (jJ B9 Xd))) rfl Ah zx (aC (pv 3) (aW (jO (v:= .ref Ad) rfl B0 rfl)))) (aW (t6 (Kh (K:=K) (cs:=[Ab,Ad]) rfl (jJ B3 (jJ B9 Xd))) rfl Ah zx (aC (pv 3) (aW (@m9 _ _ _ _ _ (aC (jO (v:= .ref Af) rfl B8 rfl) (aW (jO (v:= .ref Ae) rfl B7 rfl))))))))))))
  (j9 (qe (PW.pt (jP (qq (zo (K:=K) (hu6 hr) rfl) (ZZ (K:=K) rfl PySem.F.plainAttrs_list PySem.F.slot_list_count PySem.F.type_list_count (Pr (K:=K) rfl) (pv 5) (z5 qU j8)) j3 (o3 _)) (vC (xP (zr (K:=K) rfl (t6 (Zg (K:=K) (cs:=[Ab,Ad]) rfl (jJ B3 (jJ B9 Xd))) rfl Ah zx (aC (pv 3) (aW (vy (v:= .ty "ValueError") rfl Ef GS rfl)))) (λ_=>rfl)))))) (v5 (u4 xj)) qf)
  (v5 (u4 (iW (K:=K) rfl (@c8 _ _ _ _ (aC xj (aC xj (aW xj)))) (ZZ (K:=K) rfl PySem.F.plainAttrs_list PySem.F.slot_list_index PySem.F.type_list_index (Ps (K:=K) rfl) (pv 5) (z5 qU j8)))))))))),
  inferInstance⟩) λvs H Q E ⟨Hs,xs,y,h1,h2,h3,h4⟩=>⟨Hs,xs,y,h1,h2,Bk Al Am Ao As Aj A3 At Av Ak A4 xs y h3,h4⟩
def vK (z:PV):Prop:=∃ rs,z = .lst rs/\∀ CR:Addr,jy CR [.lst rs] CR none
theorem WR {g:MG}{f:MS}(I:List PV->ME->Prop)(hs:∀ x xs ε,I (x::xs) ε->∃ ε1 ε2,g x ε=some ε1/\f ε1=some (.nx ε2)/\I xs ε2):∀(xs:List PV)(ε:ME),I xs ε->∃ ε',xI g f xs ε=some (.nx ε')/\I [] ε'
 |[],ε,h=>⟨ε,rfl,h⟩
 |x::xs,ε,h=>by
  obtain ⟨ε1,ε2,h1,h2,h3⟩:=hs x xs ε h;obtain ⟨ε',h4,h5⟩:=WR I hs xs ε2 h3;refine ⟨ε',?_,h5⟩;unfold xI;rw [h1,yM,h2,yM];exact h4
section
variable {d:Dr}
def VI (t:PV):Prop:=QL t/\jL t=false
theorem GN (ok:d.Ok):vK (.lst ((d.rss.map u3).drop 1)):=by
 have hl:((d.rss.map u3).drop 1).length=d.h:=by rw [uw,yZ,ok.rin.len];omega
 refine ⟨_,rfl,λCR=>?_⟩;by_cases h1:d.h=1
 ·exact XW (by omega)
 ·have g1:=ok.h1;have g4:=ok.h4;refine Vy (λ_=>false) (h:=d.h-1) (by omega) (by omega) (by omega) (λr hr=>?_) ?_
  ·obtain ⟨r',hr',rfl⟩:=yp.mp (List.mem_of_mem_drop hr);exact Ge (by rw [yZ,(ok.rin.row r' hr').1];omega)
  ·rw [List.all_eq_false];obtain ⟨x,hx⟩:∃ x,x∈(d.rss.map u3).drop 1:=List.exists_mem_of_length_pos (by omega);exact ⟨x,hx,yV⟩
theorem GP (ok:d.Ok):vK (.lst (d.rss.map λr=>PV.lst (r.map m8++[.at (.int 0)]))):=by
 have g1:=ok.h1;have g4:=ok.h4;have gl:=ok.rin.len;refine ⟨_,rfl,λCR=>Vy (λ_=>false) (h:=d.h) (by rw [yZ];exact gl) g1 g4 (λr hr=>?_) ?_⟩
 ·obtain ⟨r',hr',rfl⟩:=yp.mp hr;exact Ge (by rw [yD,yZ,(ok.rin.row r' hr').1];show d.h+1≠d.h;omega)
 ·rw [List.all_eq_false];obtain ⟨x,hx⟩:∃ x,x∈d.rss.map λr=>PV.lst (r.map m8++[.at (.int 0)]):=List.exists_mem_of_length_pos (by rw [yZ];omega);exact ⟨x,hx,yV⟩
def rowB:PV->Bool
 | .lst l=>l.all jL
 |_=>true
theorem GO (ok:d.Ok){k:Nat}(hk:k<d.h+1)(hm:m<d.h)(ht:VI t):vK (.lst (((d.rss.map (List.map m8)).set k (((d.rss.map (List.map m8)).getD k []).set m t)).map .lst)):=by
 have g1:=ok.h1;have g4:=ok.h4;have gl:=ok.rin.len;have gk:((d.rss.map (List.map m8)).getD k []).length=d.h:=by rw [yb,yN,yA (by omega)];show (List.map m8 d.rss[k]).length=_;rw [yZ,(ok.rin.row _ (yn _)).1]
 have hin:∀ l∈(d.rss.map (List.map m8)).set k (((d.rss.map (List.map m8)).getD k []).set m t),l.length=d.h/\∀ x∈l,QL x:=by
  have base:∀ l∈d.rss.map (List.map m8),l.length=d.h/\∀ x∈l,QL x:=λl hl=>by
   obtain ⟨r,hr,rfl⟩:=yp.mp hl;refine ⟨by rw [yZ,(ok.rin.row r hr).1],λx hx=>?_⟩;obtain ⟨n,_,rfl⟩:=yp.mp hx;exact .inl ⟨n,rfl⟩
  intro l hl;rcases List.mem_or_eq_of_mem_set hl with hl|rfl
  ·exact base l hl
  ·refine ⟨by rw [yw,gk],λx hx=>?_⟩;rcases List.mem_or_eq_of_mem_set hx with hx|rfl
   ·refine (base _ ?_).2 x hx;rw [yb,yA (by rw [yZ];omega)];exact yn _
   ·exact ht.1
 refine ⟨_,rfl,λCR=>Vy rowB (h:=d.h) (by rw [yZ,yw,yZ];exact gl) g1 g4 (λr hr=>?_) ?_⟩
 ·obtain ⟨l,hl,rfl⟩:=yp.mp hr;exact LI (hin l hl).1 g4 (hin l hl).2
 ·rw [List.all_eq_false];refine ⟨.lst (((d.rss.map (List.map m8)).getD k []).set m t),yp.mpr ⟨_,List.mem_set (show k<(d.rss.map (List.map m8)).length by rw [yZ];omega) _,rfl⟩,?_⟩;show ¬ (((d.rss.map (List.map m8)).getD k []).set m t).all jL=true;rw [uY];intro z;have:=z t (List.mem_set (show m<((d.rss.map (List.map m8)).getD k []).length by omega) _);rw [ht.2] at this;cases this
theorem MP (h:m<xs.length):Qt xs (m:Int) y=some (xs.set m y):=by unfold Qt ixN;rw [if_pos (by omega),if_pos (by omega),uA];rfl
theorem KK {i:Nat}{x:PV}(h1:a ε=some x)(h2:ε[i]?=some (.ow (.lst xs)))(h3:xs.length<=lim):wU i a ε=some (.nx (ε.set i (.ow (.lst (xs++[x]))))):=by unfold wU;rw [h1];show (match ε[i]? with|some (.ow (.lst xs))=>if xs.length<=lim then some (Out.nx (ε.set i (.ow (.lst (xs++[x]))))) else none|_=>none)=_;rw [h2];exact if_pos h3
theorem LG (ok:d.Ok){a:Nat}:∃ zs,Xq [v6 d.rss,.at (.int (a:Int))]=some (.lst zs)/\zs.length=10/\∀ z∈zs,vK z:=by
 have hlim:lim=1000000:=rfl;have g1:=ok.h1;have g4:=ok.h4;have gl:=ok.rin.len;have hB:=QJ;have e0:j4 xN (z9 qK (q0 (z8 0) x0)) (dC (.int 1)) [.sh (v6 d.rss),.sh (.at (.int (a:Int))),.no,.no,.no,.no]=some (.at (.int (d.h:Int))):=y7 (j7 rfl rfl) rfl (by
  show some (PV.at (.int (((d.rss.map u3).length:Int)-1)))=_;rw [yZ,gl,show ((d.h+1:Nat):Int)-1=(d.h:Int) by omega])
 have cut:wS (d.rss.map u3) (some 1) none=(d.rss.map u3).drop 1:=by
  have l1:(d.rss.map u3).length=d.h+1:=by rw [yZ,gl]
  show ((d.rss.map u3).drop (HT.sIx (d.rss.map u3).length 0 (some ((1:Nat):Int)))).take (HT.sIx (d.rss.map u3).length (d.rss.map u3).length none-HT.sIx (d.rss.map u3).length 0 (some ((1:Nat):Int)))=_;rw [HT.sIx_nat,HT.sIx_none,Nat.min_eq_left (by omega)];exact List.take_of_length_le (by rw [uw];exact yS _)
 have e1:(k7 (q0 (k7 x0) (q0 (k7 (q0 (k7 x0) x0)) (q0 (wW (z8 0) (pSo (dC (.int 1))) pNo) (q0 (c5 [none] [0] (k6 (x9 0)) (v9 0) k8 (j4 qG (z8 0) (k7 (q0 (dC (.int 0)) x0)))) x0))))) [.sh (v6 d.rss),.sh (.at (.int (a:Int))),.sh (.at (.int (d.h:Int))),.no,.no,.no]=some (.lst [.lst [],.lst [.lst []],.lst ((d.rss.map u3).drop 1),.lst (d.rss.map λr=>PV.lst (r.map m8++[.at (.int 0)]))]):=by refine r9 (j0 (r9 rfl l0) (j0 (r9 (j0 (r9 rfl l0) rfl) l1) (j0 ((ev_sl (xs:=d.rss.map u3) rfl rfl rfl).trans (by rw [cut])) (j0 (qm u3 (λr=>PV.lst (r.map m8++[.at (.int 0)])) d.rss rfl rfl (by omega) λr hr=>⟨_,rfl,y7 rfl (r9 rfl (by exact (by decide:1<=lim))) (YS (by rw [yZ,(ok.rin.row r hr).1];show d.h+1<=lim;omega))⟩) rfl)))) l4
 have k0:a % (d.h+1)<d.h+1:=Nat.mod_lt _ (by omega);have m0:a / (d.h+1) % d.h<d.h:=Nat.mod_lt _ (by omega);have ek:∀(s3 s4 s5:MSlot),j4 jM (z8 1) (j4 qG (z8 2) (dC (.int 1))) [.sh (v6 d.rss),.sh (.at (.int (a:Int))),.sh (.at (.int (d.h:Int))),s3,s4,s5]=some (.at (.int ((a % (d.h+1):Nat):Int))):=λs3 s4 s5=>y7 rfl (y7 rfl rfl rfl) (by
  show (if (0:Int)<(d.h:Int)+1 then some (V.int ((a:Int) % ((d.h:Int)+1))) else none).map PV.at=_;rw [if_pos (by omega)]
  push_cast
  rfl)
 have em:∀(s3 s4 s5:MSlot),j4 jM (j4 pDiv (z8 1) (j4 qG (z8 2) (dC (.int 1)))) (z8 2) [.sh (v6 d.rss),.sh (.at (.int (a:Int))),.sh (.at (.int (d.h:Int))),s3,s4,s5]=some (.at (.int ((a / (d.h+1) % d.h:Nat):Int))):=λs3 s4 s5=>y7 (x:= .at (.int ((a:Int) / ((d.h:Int)+1)))) (y7 rfl (y7 rfl rfl rfl) (by
  show (if zI (a:Int) ((d.h:Int)+1) then some (V.int ((a:Int) / ((d.h:Int)+1))) else none).map PV.at=_;rw [if_pos (cdiv (by omega) (by omega))];rfl)) rfl (by
  show (if (0:Int)<(d.h:Int) then some (V.int ((a:Int) / ((d.h:Int)+1) % (d.h:Int))) else none).map PV.at=_;rw [if_pos (by omega)]
  push_cast
  rfl)
 have rows:∀(ε:ME),i8 (v9 0) k8 (z9 xi (q0 (z8 0) x0)) (p6 [none] ε) (d.rss.map u3)=some ((d.rss.map (List.map m8)).map .lst):=λε=>(QV u3 u3 d.rss λr _=>⟨_,rfl,rfl⟩).trans (by rw [yq];rfl);have gk:((d.rss.map (List.map m8)).getD (a % (d.h+1)) []).length=d.h:=by rw [yb,yN,yA (by omega)];show (List.map m8 d.rss[a % (d.h+1)]).length=_;rw [yZ,(ok.rin.row _ (yn _)).1]
 obtain ⟨ε',hlp,zs,s4,s5,rfl,hz,hn,_⟩:=WR (g:=v9 4) (f:=(u6 (wb 5 [none] [0] (k6 (x9 0)) (v9 0) k8 (z9 xi (q0 (z8 0) x0)) (j4 jM (z8 1) (j4 qG (z8 2) (dC (.int 1)))) (j4 jM (j4 pDiv (z8 1) (j4 qG (z8 2) (dC (.int 1)))) (z8 2)) (x9 4)) (dFz 5 (wU 3 (x9 5)))))
  (λrest ε=>∃(zs:List PV)(s4 s5:MSlot),ε=[.sh (v6 d.rss),.sh (.at (.int (a:Int))),.sh (.at (.int (d.h:Int))),.ow (.lst zs),s4,s5]/\(∀ z∈zs,vK z)/\zs.length+rest.length=8/\∀ t∈rest,VI t) (λt rest ε ⟨zs,s4,s5,e,hz,hn,ht⟩=>by
   subst e;refine ⟨[.sh (v6 d.rss),.sh (.at (.int (a:Int))),.sh (.at (.int (d.h:Int))),.ow (.lst zs),.sh t,s5],_,rfl,k9 (KO (xs:=d.rss.map u3) (ls:=d.rss.map (List.map m8)) (j:=a % (d.h+1)) (i:=((a / (d.h+1) % d.h:Nat):Int)) (y:=t) rfl rfl (by rw [yZ];omega) (by show 5<6;decide) (rows _) (ek _ _ _) (em _ _ _) rfl (by rw [yZ];omega) (MP (by rw [gk];exact m0))) (KK (xs:=zs) rfl rfl (by rw [yz] at hn;omega)),_,_,_,rfl,λz hz'=>?_,?_,λt' h'=>ht t' (yT _ h')⟩
   ·rcases yB.mp hz' with h'|h'
    ·exact hz z h'
    ·rw [yO.mp h'];exact GO ok k0 m0 (ht t yR)
   ·rw [yD];rw [yz] at hn;show zs.length+1+rest.length=8;omega)
  [.at (.int (-1)),.at (.bl true),.at .non,.at (.str "0")] [.sh (v6 d.rss),.sh (.at (.int (a:Int))),.sh (.at (.int (d.h:Int))),.ow (.lst [.lst [],.lst [.lst []],.lst ((d.rss.map u3).drop 1),.lst (d.rss.map λr=>PV.lst (r.map m8++[.at (.int 0)]))]),.no,.no]
  ⟨_,_,_,rfl,(λz hz=>by
   simp only [yJ,yG,or_false] at hz;rcases hz with rfl|rfl|rfl|rfl
   ·exact ⟨_,rfl,λCR=>XW (by decide)⟩
   ·exact ⟨_,rfl,λCR=>XW (by decide)⟩
   ·exact GN ok
   ·exact GP ok),rfl,λt ht=>by
   simp only [yJ,yG,or_false] at ht;rcases ht with rfl|rfl|rfl|rfl
   ·exact ⟨.inl ⟨_,rfl⟩,rfl⟩
   ·exact ⟨.inr ⟨ZR _,rfl⟩,rfl⟩
   ·exact ⟨.inr ⟨YK,rfl⟩,rfl⟩
   ·exact ⟨.inr ⟨ZS _,rfl⟩,rfl⟩⟩
 rw [List.length_nil,Nat.add_zero] at hn;obtain ⟨r0,rt,er⟩:∃ r0 rt,d.rss=r0::rt:=by
  cases e:d.rss with
  |nil=>rw [e] at gl;simp at gl
  |cons r0 rt=>exact ⟨r0,rt,rfl⟩
 have lst0:∀(s3 s4 s5:MSlot),z9 xi (q0 (j4 u9 (z8 0) (dC (.int 0))) x0) [.sh (v6 d.rss),.sh (.at (.int (a:Int))),.sh (.at (.int (d.h:Int))),s3,s4,s5]=some (u3 r0):=λ_ _ _=>by
  refine j7 (j0 (y7 (x:=v6 d.rss) (y:= .at (.int 0)) (r:=u3 r0) rfl rfl ?_) rfl) rfl;rw [er];show L2.atI ((r0::rt).map u3) ((0:Nat):Int)=_;exact jD rfl
 refine ⟨zs++[.lst ((List.range 6).map λ_=>PV.lst (List.replicate 5 (.at (.int 0)))),.lst [u3 r0]],vd rfl (k9 (zl e0) (k9 (Ye e1) (k9 (Zu (xs:=[.at (.int (-1)),.at (.bl true),.at .non,.at (.str "0")]) ?_ hlp) (m6 (y7 rfl (r9 (j0 (qm (λk:Nat=>PV.at (.int ((0:Int)+k))) (λ_=>PV.lst (List.replicate 5 (.at (.int 0)))) (List.range 6) (Qs (k:=6) rfl (by decide)) rfl (by decide) λk _=>⟨_,rfl,y7 (r9 rfl l1) rfl rfl⟩) (j0 (r9 (j0 (lst0 _ _ _) rfl) l1) rfl)) l2) (CQ (by rw [hn];show 10<=lim;decide))))))),?_,λz hz'=>?_⟩
 ·unfold k6;rw [r9 (xs:=[.at (.int (-1)),.at (.bl true),.at .non,.at (.str "0")]) rfl l4];rfl
 ·rw [yD,hn];rfl
 ·rcases yB.mp hz' with h'|h'
  ·exact hz z h'
  ·simp only [yJ,yG,or_false] at h';rcases h' with rfl|rfl
   ·exact ⟨_,rfl,λCR=>LR (by rw [yZ,List.length_range];decide)⟩
   ·exact ⟨_,rfl,λCR=>XW (yS 1)⟩
end
def Gn (CH C:Addr)(h w:Nat)(f1:M)(as:MA)(mid:WS)(c1:MB)(c2:WT)(f4:M):WS:=λε N _=>∃ d:Dr,d.Ok/\d.cls=[]/\(∀(i:Nat)(y:PV),ε[i]?≠some (.ow y))/\f1 ε=some (v6 d.rss)/\(∀ a:Addr,as (ε.set h (.sh (.at (.ref a))))=some [.at (.int d.last),.at (.int d.time)])/\h<ε.length/\h≠w /\
 ∀ a:Addr,mid ((ε.set h (.sh (.at (.ref a)))).set w (.sh (xw CH C d))) (λε1=>ε1[h]?=some (.sh (.at (.ref a)))/\c1 (ε1.set h (.sh (v6 d.rss)))=some false/\c2 ε1 λb ε2=>b=false/\(∃ y,f4 ε2=some y)/\N ε2) λ_ _=>False
theorem YR {i:Nat}{x:PV}{j:Nat}(q:(ε.set i (.sh x))[j]?=some (.ow y)):i≠j/\ε[j]?=some (.ow y):=by
 rcases zk j _ q with ⟨_,e⟩|h
 ·cases e
 ·exact h
theorem YU (H:Hp)(l:List Addr):∃ HR:Hp,(∀ b∈l,HR b=H b)/\∀ b,HR b≠none->b∈l:=by
 open Classical in
 exact ⟨λb=>if b∈l then H b else none,λb hb=>if_pos hb,λb hb=>Classical.byContradiction λz=>hb (if_neg z)⟩
instance (priority:=2000){K:Fg}{w:Nat}{te1 te4:TE}{ta:TA}{m1 m2 m3 m4 tr u:TS}{tt1 tt2:TT}{f1 f4:M}{w1 w2 w3 w4 r:WS}{c1:MB}{c2:WT}{m:List PV->Option PV}{xm:List PV->Addr->XV->Prop}[sz:wR te1 f1][sa:o5 ta as][s1:SemWS m1 w1][s2:SemWS m2 w2][s3:SemWS m3 w3][s4:SemWS m4 w4][sc1:qk tt1 c1][sc2:vS tt2 c2][se:SemE te4 f4][sr:SemWS u r]:SemWS (tSeq (xl te1 (qC (h+1))) (tSeq (xl (ju CH (qN (qr CH m xm) (zt CH C)) [] E (qR (qh (h+1)) ta)) (qC (w+1))) (tSeq m1 (tSeq m2 (tSeq m3 (tSeq m4 (tSeq (Qx (tOr tt1 tt2) tr XN) (tSeq (xl te4 (gSub (tOp (rIx K) (qh (h+1)) (tC (.int 0))) (tC (.int 0)) Jk)) (tSeq (xQ (tBM0 K "list" rPop (qh (h+1)))) u))))))))) (wSeq (Gn CH C (h+1) (w+1) f1 as (wSeq w1 (wSeq w2 (wSeq w3 w4))) c1 c2 f4) r) where
 h:=λ{ε N R} hh S Hs0 H0 Hs H σ rd D k rt=>by
  obtain ⟨d,ok,hcl,hno,e1,eas,hl,hw,hmid⟩:=hh;have hlim:lim=1000000:=rfl;have e1':f1 ε=some (.lst ((d.rss.map (List.map V.int)).map λl=> .lst (l.map .at))):=by rw [e1,vD]
  have hS:S=[]:=by
   cases S with
   |nil=>rfl
   |cons a S=>obtain ⟨y,hy⟩:=rd.str a yR;exact absurd hy (hno 0 y)
  subst hS;refine sz.h e1' rd.rs λa1 ps Hs1 H1 x1 d1 ez=>?_;have rd1:=(rd.go x1).put (i:=h) (x:= .at (.ref a1)) (v:= .ref a1) (rep_at.mpr rfl);have hσ1:(σ.set (h+1) (some (V.ref a1)))[h+1]?=some (some (.ref a1)):=uX (by rw [rd.len];exact hl);refine ⟨_,hσ1,sa.h (eas a1) rd1.rs λvs Hs4 H4 x4 r4=>?_⟩;have evs:vs=[.int d.last,.int d.time]:=Reps.ats (us:=[.int d.last,.int d.time]) r4;subst evs;intro x dx hx hdx hne;have d4:Deep H Hs4 H4 a1 ps:=d1.go x4;have keep:∀ b u,H4 b=some u->z6 (z6 H4 dx (.own x)) x (.ins CH dx []) b=some u:=λb u e=>by rw [z7 (w6 e hx),z7 (w6 e hdx)];exact e
  obtain ⟨HR,hin,hout⟩:=YU H4 (a1::ps.map (·.1));have repR:Rep HR (v6 d.rss) (.ref a1):=by rw [vD];exact d4.repIn hin ez
  refine .inr ⟨d,Hs4,HR,x,dx,.ref a1,ok,hcl,rfl,λb u e=>keep b u (x4.s3 _ _ e),v3,x4.s3.free hx,λb u e=>?_,λb hb=>⟨(d4.new b (hout b hb)).2,λz=>d4.live b (hout b hb) (by rw [z];exact hx)⟩,repR,λHs' H' g1 g2 g3 g4 rob=>⟨rfl,?_⟩⟩
  ·have hb:=hout b (by rw [e];exact λz=>nomatch z);rw [hin b hb] at e;exact keep b u e
  have x5:Ext Hs4 H4 Hs' H':=by refine ⟨g1,λb u e=>g2 b u (keep b u e) (w6 e hx),g3,λb hb z=>?_⟩;have hbx:b≠x:=λq=>hb (by rw [q];exact hx);have hbd:b≠dx:=λq=>hb (by rw [q];exact hdx);exact g4 b (by rw [z7 hbx,z7 hbd];exact hb) hbx z
  have d5:Deep H Hs' H' a1 ps:=d4.go x5;have rd5:=((rd1.go x4).go x5).put (i:=w) (x:=xw CH C d) (v:= .ref x) rob;have hno5:∀(i:Nat)(y:PV),((ε.set (h+1) (.sh (.at (.ref a1)))).set (w+1) (.sh (xw CH C d)))[i]?≠some (.ow y):=λi y hi=>hno i y (YR (YR hi).2).2;have rdB:RD [] Hs' H' Hs' H' ((σ.set (h+1) (some (V.ref a1))).set (w+1) (some (V.ref x))) ((ε.set (h+1) (.sh (.at (.ref a1)))).set (w+1) (.sh (xw CH C d))):=⟨.refl _,λb o e _=>e,rd5.s3,λ_ _ z=>z,rd5.sh,λi y hi=>absurd hi (hno5 i y),λi j y z a hi=>absurd hi (hno5 i y),rd5.len,(λa ha=>absurd ha yG),(λa ha=>absurd ha yG),(λa ha=>absurd ha yG),rd5.nb⟩;have dp:∀{Hsx Hx:Hp}{σx:St}{εx:ME},RD [] Hs' H' Hsx Hx σx εx->Deep H Hsx Hx a1 ps:=λr=>⟨r.s2 _ _ d5.top yG,λp hp=>(d5.each p hp).mono r.s1 λo e=>r.s2 _ o e yG,d5.nd,λb hb=>⟨(d5.new b hb).1,r.s4 b (d5.live b hb) (d5.new b hb).2⟩⟩;have far:∀{Hsx Hx:Hp}{σx:St}{εx:ME},RD [] Hs' H' Hsx Hx σx εx->∀ b∈a1::ps.map (·.1),∀(i:Nat)(y:PV),εx[i]?=some (.ow y)->σx[i]?≠some (some (.ref b)):=λr b hb i y hi ha=>by
   obtain ⟨c,hc,m0,_,_⟩:=r.ow i y hi;rw [ha] at hc;injection hc with hc;injection hc with hc;injection hc with hc;subst hc;exact m0.elim (λm0=>d5.live b hb m0) λm0=>absurd m0 yG
  refine s1.h (hmid a1) rdB (λε1 σ1 Hsa Ha ha rda ga=>?_) (λ_ _ _ _ _ _ z _ _ _=>z.elim);refine s2.h ha rda (λε2 σ2 Hsb Hb hb rdb gb=>?_) (λ_ _ _ _ _ _ z _ _ _=>z.elim);refine s3.h hb rdb (λε3 σ3 Hsc Hc hc rdc gc=>?_) (λ_ _ _ _ _ _ z _ _ _=>z.elim);refine s4.h hc rdc (λε4 σ4 HsE HE hd rdE gd=>?_) (λ_ _ _ _ _ _ z _ _ _=>z.elim);obtain ⟨hsl,hc1,hc2⟩:=hd;obtain ⟨vp,hvp,rvp⟩:=rdE.sh (h+1) _ hsl;cases rep_at.mp rvp;have dE:=dp rdE;obtain ⟨HRE,hinE,houtE⟩:=YU HE (a1::ps.map (·.1));have LE:LentA HsE HE HRE σ4 ε4:=by
   refine ⟨λb u e=>?_,λb hb=>(dE.new b (houtE b hb)).2,λi y a hi ha=>?_⟩
   ·rw [<- hinE b (houtE b (by rw [e];exact λz=>nomatch z))];exact e
   ·cases q:HRE a with
    |none=>rfl
    |some u=>exact absurd ha (far rdE a (houtE a (by rw [q];exact λz=>nomatch z)) i y hi)
  have repE:Rep (o6 HsE HRE) (v6 d.rss) (.ref a1):=by rw [vD];exact (dE.repIn hinE ez).mono Lent.s3
  refine sc1.h hc1 (LE.test rdE hvp repE) λHs6 H6 x6=>qI ?_;have rd6:=rdE.go (Hs':=HsE) (H':=H6) ⟨.refl _,x6.s2,rdE.s3.trans x6.s2,λ_ _ z=>z⟩;refine sc2.h hc2 rd6 λb ε7 Hs7 H7 h7 rd7 g7=>?_;obtain ⟨rfl,⟨y4,e4⟩,hN⟩:=h7;refine qI ?_;refine se.h e4 rd7.rs λv4 Hs8 H8 x8 r8=>?_;have rd8:=rd7.go x8;have d8:=dp rd8;have rdU:RD [] Hs0 H0 Hs8 H8 σ4 ε7:=⟨rd5.s1.trans rd8.s1,λb o e z=>rd8.s2 b o (rd5.s2 b o e z) z,rd8.s3,λb hb z=>rd8.s4 b (rd5.there hb) (rd5.s4 b hb z),rd8.sh,λi y hi=>by
   obtain ⟨a,ha,m0,m1,t⟩:=rd8.ow i y hi;exact ⟨a,ha,.inl (rd5.free0 (m0.resolve_right yG)),m1,t⟩,rd8.nd,rd8.len,(λa ha=>absurd ha yG),(λa ha=>absurd ha yG),(λa ha=>absurd ha yG),rd8.nb⟩
  have junk:∀ b∈a1::ps.map (·.1),H0 b=none:=λb hb=>rd.free0 (d5.new b hb).1;have f8:=far rd8;cases ps with
  |nil=>have:=congrArg List.length ez;rw [yZ,yZ,ok.rin.len] at this;cases this
  |cons q ps =>
   have mq:q.1∈a1::(q::ps).map (·.1):=yT _ yR;have ma:a1∈a1::(q::ps).map (·.1):=yR;have aq:a1≠q.1:=λz=>(yk.mp d1.nd).1 (z▸yR);obtain ⟨l0,el0,hl0⟩:∃ l:List PV,q.2 = .lst l/\0<l.length:=by
    have mm:q.2∈(d.rss.map (List.map V.int)).map (λl=>PV.lst (l.map .at)):=by rw [ez];exact uR yR
    obtain ⟨l,hl',e⟩:=yp.mp mm;obtain ⟨rr,hr,rfl⟩:=yp.mp hl';refine ⟨_,e.symm,?_⟩;have:=(ok.rin.row rr hr).1;have:=ok.h1;rw [yZ,yZ];omega
   have tq:=d8.each q yR;rw [el0] at tq;obtain ⟨vs0,hv0,rv0⟩:=tq;have top8:=d8.top;have ix0:ixN vs0.length 0=some 0:=by have:=rv0.length;unfold ixN;rw [if_pos (by omega),if_pos (by omega)];rfl
   refine ⟨_,hvp,.inl ⟨a1,_,0,.ref q.1,rfl,rfl,SqL.of top8,jD (j:=0) rfl,q.1,vs0,0,0,rfl,rfl,hv0,ix0,?_⟩⟩;have rd9:=rdU.junk (o:= .lst (vs0.set 0 v4)) (junk q.1 mq) (d8.new q.1 mq).2 yG (f8 q.1 mq);have ha9:z6 H8 q.1 (.lst (vs0.set 0 v4)) a1=some (.lst ((q::ps).map λp=>V.ref p.1)):=by rw [z7 aq];exact top8
   have hlast:∃ y,((q::ps).map λp=>V.ref p.1)[((q::ps).map λp=>V.ref p.1).length-1]?=some y:=⟨_,yA (by rw [yZ,yz];omega)⟩;obtain ⟨yl,hyl⟩:=hlast;refine ⟨_,hvp,.inl ⟨rfl,_,SqL.of ha9⟩,a1,_,yl,rfl,rfl,ha9,hyl,?_⟩;have rd10:=rd9.junk (o:= .lst ((q::ps).map λp=>V.ref p.1).dropLast) (junk a1 ma) (d8.new a1 ma).2 yG (f8 a1 ma);have gs:Same Hs Hs8:=x1.s1.trans (x4.s1.trans (g1.trans rd8.s1));exact sr.h hN rd10 (λε2 σ2 Hs2 H2 h2 rd2 g2=>k ε2 σ2 Hs2 H2 h2 rd2 (gs.trans g2)) λy ε2 σ2 v Hs2 H2 h2 rd2 g2 rv=>rt y ε2 σ2 v Hs2 H2 h2 rd2 (gs.trans g2) rv
def FA (c:WT)(ε:ME):Prop:=∀ Q:Bool->ME->Prop,Q false ε->c ε Q
def AT (as:WA)(xs:List PV)(ε:ME):Prop:=∀ P:List PV->ME->Prop,P xs ε->as ε P
section
variable {a b:WT}{ε:ME}{s t:WS}{N:ME->Prop}{T:PV->ME->Prop}{R:List PV->PV->Prop}{as:WA}{xs:List PV}{y:PV}{f:M}
theorem Gq (h:FA a ε)(q:t ε N T):xR a s t ε N T:=h _ (qI q)
theorem Zw (ha:AT as xs ε)(h:R xs y)(hf:f ε=some y)(hp:jk 6 y):FA (wT (zd pNe (jS R as) (wP f))) ε:=λ_ q=>ha _ ⟨y,h,y,hf,_,vx hp,false,rfl,q⟩
theorem Zd:AT zv [] ε:=λ_ p=>p
theorem zP {x:PV}(h:f ε=some x)(r:AT as xs ε):AT (qj (wP f) as) (x::xs) ε:=λP p=>⟨x,h,r _ p⟩
theorem QG {c:MB}(h:c ε=some false)(k:t ε N T):xR (wPT c) s t ε N T:=⟨false,h,qI k⟩
end
theorem Pc (ok:d.Ok):qK [v6 d.rss]=some (.at (.int ((d.h:Int)+1))):=by show some (PV.at (.int ((d.rss.map u3).length:Int)))=_;rw [yZ,show d.rss.length=d.h+1 from ok.rin.len];rfl
theorem LS (h3:qD [t,.at (.int 0)]=some (.at (.bl false))):zf CS [.at .non,t,.at (.int h)] CS none :=
 ⟨rfl,.inr ⟨_,o8 (Zk (p7 (v:=false) rfl)) o9,wN (vb (o7 (j7 rfl h3))) ⟨rfl,rfl⟩⟩⟩
def qi (a b:PV):PV:= .tup [a,b]
abbrev iP (n:Int):PV:= .at (.int n)
def Vg (d:Dr)(a:Int):List PV:=[qi (iP d.h) (iP d.time),qi (iP (d.h+a)) (iP d.time),qi (iP (-2)) (iP d.time),qi (iP (-2-a)) (iP d.time),qi (.at (.bl true)) (iP d.time),qi (.at (.str "0")) (iP d.time)]
def Vh (d:Dr)(a:Int):List PV:=[qi (iP d.last) (iP (-1)),qi (iP d.last) (iP (-1-a)),qi (iP d.last) (.at (.bl true)),qi (iP d.last) (.at .non),qi (iP d.last) (.at (.str "1")),qi (.at .non) (iP (-1))]
abbrev BadS (CS:Addr)(d:Dr)(t:PV):Prop:=∃ a b,t=qi a b/\zf CS [a,b,iP d.h] CS none
theorem YF {x y:Int}(h:¬ x<y):pLt (iP x) (iP y)=some (.at (.bl false)):=by show some (PV.at (.bl (decide (x<y))))=_;rw [yL h]
theorem MY {a:Int}(h0:0<=a):∀ t∈Vg d a,BadS CS d t:=by
 intro t ht;unfold Vg at ht;simp only [yJ,yG,or_false] at ht;rcases ht with rfl|rfl|rfl|rfl|rfl|rfl
 ·exact ⟨_,_,rfl,wM rfl (.inr ⟨jv (by omega),YF (by omega)⟩)⟩
 ·exact ⟨_,_,rfl,wM rfl (.inr ⟨jv (by omega),YF (by omega)⟩)⟩
 ·exact ⟨_,_,rfl,wM rfl (.inl (wZ (by decide)))⟩
 ·exact ⟨_,_,rfl,wM rfl (.inl (wZ (by omega)))⟩
 ·exact ⟨_,_,rfl,wM rfl (.inl (Qa (ZR _) _))⟩
 ·exact ⟨_,_,rfl,wM rfl (.inl (Qa (ZS _) _))⟩
theorem MZ (ok:d.Ok){a:Int}(h0:0<=a):∀ t∈Vh d a,BadS CS d t:=by
 intro t ht;unfold Vh at ht;simp only [yJ,yG,or_false] at ht;have l1:=ok.l1;have l2:=ok.l2;rcases ht with rfl|rfl|rfl|rfl|rfl|rfl
 ·exact ⟨_,_,rfl,QH l1 l2 (wZ (by decide))⟩
 ·exact ⟨_,_,rfl,QH l1 l2 (wZ (by omega))⟩
 ·exact ⟨_,_,rfl,QH l1 l2 (Qa (ZR _) _)⟩
 ·exact ⟨_,_,rfl,QH l1 l2 (Qa YK _)⟩
 ·exact ⟨_,_,rfl,QH l1 l2 (Qa (ZS _) _)⟩
 ·exact ⟨_,_,rfl,LS (wZ (by decide))⟩
abbrev vF:Stmt:=top 48
abbrev Wd (K:Fg)(Ac:Addr)(Af:Addr)(Ab:Addr)(Ad:Addr)(Ae:Addr)(Ag:Addr)(Aa:Addr):WS:=(wSeq (wAsg (zZ 5 (qJ (v9 1) (qJ (v9 2) (qJ (v9 3) (qJ (v9 4) (qJ (v9 5) zY)))))) (Gm (Qo K) QN (qj (wP (x9 0)) zv)))
  (wSeq (xE 6 (wP (j4 xN (z9 qK (q0 (z8 1) x0)) (dC (.int 1)))))
  (wSeq (Gn Ac Aa 7 8 (c5 [none] [0] (k6 (x9 1)) (v9 0) k8 (z9 xi (q0 (z8 0) x0))) (q0 (x9 2) (q0 (x9 3) x0)) (wSeq (xE 9 (wTkN (wB K) vP (q0 (x9 0) (q0 (dC (.int 1)) x0)) (dC (.int 20))))
  (wSeq (wFor (wIp (k6 (z9 Xq (q0 (x9 1) (q0 (x9 9) x0))))) (v9 10) (wFor (wIp (k6 (k7 (q0 (c4 (q0 (x9 2) (q0 (x9 3) x0))) (q0 (c4 (q0 (x9 6) (q0 (x9 3) x0))) (q0 (c4 (q0 (x9 2) (q0 (dUn xz (dC (.int 1))) x0))) x0)))))) (v9 11) (xR (wT (zd pNe (jS (zM Af Ab Ad Ae Ag Ac Aa) (qj (wP (x9 10)) (qj (wP (j4 u9 (z8 11) (dC (.int 0)))) (qj (wP (j4 u9 (z8 11) (dC (.int 1)))) zv)))) (wP (dC (.str "NoRinses"))))) (ze (wP (dC (.bl false)))) jx)))
  (wSeq (wFor (wIp (k6 (k7 (q0 (c4 (q0 (x9 6) (q0 (x9 3) x0))) (q0 (c4 (q0 (j4 qG (z8 6) (z8 9)) (q0 (x9 3) x0))) (q0 (c4 (q0 (dUn xz (dC (.int 2))) (q0 (x9 3) x0))) (q0 (c4 (q0 (j4 xN (dUn xz (dC (.int 2))) (z8 9)) (q0 (x9 3) x0))) (q0 (c4 (q0 (dC (.bl true)) (q0 (x9 3) x0))) (q0 (c4 (q0 (dC (.str "0")) (q0 (x9 3) x0))) x0))))))))) (v9 11) (xR (wT (zd pNe (jS (zM Af Ab Ad Ae Ag Ac Aa) (qj (wP (x9 1)) (qj (wP (j4 u9 (z8 11) (dC (.int 0)))) (qj (wP (j4 u9 (z8 11) (dC (.int 1)))) zv)))) (wP (dC (.str "NoStart"))))) (ze (wP (dC (.bl false)))) jx))
  (wFor (wIp (k6 (k7 (q0 (c4 (q0 (x9 2) (q0 (dUn xz (dC (.int 1))) x0))) (q0 (c4 (q0 (x9 2) (q0 (j4 xN (dUn xz (dC (.int 1))) (z8 9)) x0))) (q0 (c4 (q0 (x9 2) (q0 (dC (.bl true)) x0))) (q0 (c4 (q0 (x9 2) (q0 (dC .non) x0))) (q0 (c4 (q0 (x9 2) (q0 (dC (.str "1")) x0))) (q0 (c4 (q0 (dC .non) (q0 (dUn xz (dC (.int 1))) x0))) x0))))))))) (v9 11) (xR (wT (zd pNe (jS (zM Af Ab Ad Ae Ag Ac Aa) (qj (wP (x9 1)) (qj (wP (j4 u9 (z8 11) (dC (.int 0)))) (qj (wP (j4 u9 (z8 11) (dC (.int 1)))) zv)))) (wP (dC (.str "NoStart"))))) (ze (wP (dC (.bl false)))) jx))))) (dT (j4 pNe (z8 7) (z8 1))) (wT (zd pNe (jS (zM Af Ab Ad Ae Ag Ac Aa) (qj (wP (x9 1)) (qj (wP (dC .non)) (qj (wP (x9 3)) zv)))) (wP (dC (.str ""))))) (dUn xz (dC (.int 1))))
  (wSeq (xE 12 (wP (vZ (qQ Ac Aa) [.non,.int 0] (q0 (x9 1) x0))))
  (wSeq (xR (wPT (dOr (dT (j4 pNe (qw Aa "start" (vm Aa) (qw Ac "works" (zC Ac) (x9 12) x0) x0) (c4 (q0 (dUn xz (dC (.int 1))) (q0 (dC (.int 0)) x0))))) (dT (j4 pNe (qw Aa "rinses" (wp Aa) (qw Ac "works" (zC Ac) (x9 12) x0) x0) (z8 1))))) (ze (wP (dC (.bl false)))) jx)
  (wSeq (xR (wPT (dT (j4 pNe (qw Aa "start" (vm Aa) (qw Ac "works" (zC Ac) (vZ (qQ Ac Aa) [.int 0] (q0 (x9 1) (q0 (x9 2) x0))) x0) x0) (c4 (q0 (x9 2) (q0 (dC (.int 0)) x0)))))) (ze (wP (dC (.bl false)))) jx)
  (wSeq (xE 13 (wP (k7 (q0 (qw Aa "start" (vm Aa) (qw Ac "works" (zC Ac) (x9 8) x0) x0) (q0 (qw Aa "rinses" (wp Aa) (qw Ac "works" (zC Ac) (x9 8) x0) x0) (q0 (qw Aa "names" (Qf Aa) (qw Ac "works" (zC Ac) (x9 8) x0) x0) (q0 (qw Ac "done" (Qd Ac) (x9 8) x0) (q0 (qw Ac "worst" (Qe Ac) (x9 8) x0) x0))))))))
  (ze (wP (j4 pEq (z8 13) (k7 (q0 (c4 (q0 (x9 2) (q0 (x9 3) x0))) (q0 (x9 1) (q0 (k7 x0) (q0 (k7 x0) (q0 (dC .non) x0))))))))))))))))
theorem sc_law:y6 ["script","rinses","last","time","scale","names","hues","handed","house","at","spoilt","start","fresh","found"] ["script"] (j6 vF):=b7
abbrev ep (K:Fg)(ns:List Int)(d:Dr)(sc:Int)(nm:List Str)(CH C:Addr)(p:Addr)(a:Int)(s10 s11:MSlot):ME:=[.sh (scr K ns),.sh (v6 d.rss),.sh (iP d.last),.sh (iP d.time),.sh (iP sc),.sh (.lst (wI nm)),.sh (iP d.h),.sh (.at (.ref p)),.sh (xw CH C d),.sh (iP a),s10,s11,.no,.no]
theorem Dq (rss:List (List Int)):jk 5 (v6 rss):=λy hy=>by
 obtain ⟨r,_,rfl⟩:=yp.mp hy;intro z hz;obtain ⟨n,_,rfl⟩:=yp.mp hz;rfl
theorem YZ (rss:List (List Int)):jk 6 (v6 rss):=λy hy=>by
 obtain ⟨r,_,rfl⟩:=yp.mp hy;intro z hz;obtain ⟨n,_,rfl⟩:=yp.mp hz;rfl
theorem Bp {K:Fg}:∀ ns:List Int,ns.length<=63->Wd K Ac Af Ab Ad Ae Ag Aa (.sh (scr K ns)::List.replicate ((["script","rinses","last","time","scale","names","hues","handed","house","at","spoilt","start","fresh","found"]:List Str).length-1) .no) (λ_=>False) λy _=>y = .at (.bl true):=by
 intro ns h63;have hlim:lim=1000000:=rfl;have big:=QJ;refine ⟨_,rfl,⟨ns,rfl,h63⟩,?_⟩;rintro _ ⟨d,sc,nm,rfl,ok,hc⟩;have glen:=ok.rin.len;have h1:=ok.h1;have h4:=ok.h4;refine ⟨_,rfl,?_⟩;refine ⟨iP d.h,y7 (j7 rfl (Pc ok)) rfl (by show some (PV.at (.int ((d.h:Int)+1-1)))=_;rw [Int.add_sub_cancel]),?_⟩;refine ⟨d,ok,hc,λi y h=>?_,qm u3 u3 d.rss rfl rfl (by omega) λr _=>⟨_,rfl,rfl⟩,λ_=>rfl,(by show 7<14;decide),(by decide),λp=>?_⟩
 ·have hm:=uT h;simp at hm
 -- the place
 refine ⟨_,20,rfl,rfl,⟨ns,1,rfl,h63,by decide,by decide⟩,λ_ h=>h,λn=>⟨⟨by decide,by decide⟩,?_⟩⟩;obtain ⟨a,ha⟩:=uE (ye n (by decide:(20:Int)≠0));rw [ha];show wSeq _ _ (ep K ns d sc nm Ac Aa p a .no .no) _ _;have a0:(0:Int)<=(a:Int):=by omega
 obtain ⟨zs,ez,_,hz⟩:=LG ok (a:=a);refine ⟨zs,wY (j7 rfl ez),?_⟩;refine Qc (λrest ε=>(∀ z∈rest,vK z)/\∃ s10 s11,ε=ep K ns d sc nm Ac Aa p a s10 s11) ?_ ?_ _ _ ⟨hz,_,_,rfl⟩
 rotate_left
 ·rintro z rest ε ⟨hb,s10,s11,rfl⟩;obtain ⟨rs,rfl,hx⟩:=hb z yR;refine ⟨ep K ns d sc nm Ac Aa p a (.sh (.lst rs)) s11,rfl,?_⟩;refine ⟨[qi (iP d.last) (iP d.time),qi (iP d.h) (iP d.time),qi (iP d.last) (iP (-1))],wY (r9 (j0 (i0 rfl l2) (j0 (i0 rfl l2) (j0 (i0 (j0 rfl (j0 (jI rfl rfl) rfl)) l2) rfl))) l3),?_⟩;refine Qc (λrest2 ε=>(∀ t∈rest2,∃ a b,t=qi a b)/\∃ s11,ε=ep K ns d sc nm Ac Aa p a (.sh (.lst rs)) s11) ?_ ?_ _ _ ⟨λt ht=>?_,_,rfl⟩
  ·rintro ε ⟨_,s11,rfl⟩;exact ⟨λz' h'=>hb z' (yT _ h'),_,_,rfl⟩
  ·rintro t rest2 ε ⟨ht,s11,rfl⟩;obtain ⟨l,t,rfl⟩:=ht t yR;refine ⟨ep K ns d sc nm Ac Aa p a (.sh (.lst rs)) (.sh (qi l t)),rfl,?_⟩;refine Gq (Zw (xs:=[.lst rs,l,t]) (y:= .at (.str "NoRinses")) (zP rfl (zP (y7 rfl rfl rfl) (zP (y7 rfl rfl rfl) Zd))) ⟨rfl,.inr (.inl ⟨xh (LP (hx _)),rfl⟩)⟩ rfl rfl) ?_;exact ⟨λt' h'=>ht t' (yT _ h'),_,rfl⟩
  ·simp only [yJ,yG,or_false] at ht;rcases ht with rfl|rfl|rfl<;>exact ⟨_,_,rfl⟩
 rintro ε ⟨_,s10,s11,rfl⟩;have go:∀ {l t:PV} {s10:MSlot} {N:ME->Prop} {R:PV->ME->Prop},zf Ad [l,t,iP d.h] Ad none->N (ep K ns d sc nm Ac Aa p a s10 (.sh (qi l t)))->xR (wT (zd pNe (jS (zM Af Ab Ad Ae Ag Ac Aa) (qj (wP (x9 1)) (qj (wP (j4 u9 (z8 11) (dC (.int 0)))) (qj (wP (j4 u9 (z8 11) (dC (.int 1)))) zv)))) (wP (dC (.str "NoStart"))))) (ze (wP (dC (.bl false)))) jx (ep K ns d sc nm Ac Aa p a s10 (.sh (qi l t))) N R:=λ{l t s10 N R} hx hN =>
  Gq (Zw (xs:=[v6 d.rss,l,t]) (y:= .at (.str "NoStart")) (zP rfl (zP (y7 rfl rfl rfl) (zP (y7 rfl rfl rfl) Zd))) ⟨rfl,.inr (.inr ⟨xh (LQ ok hx),rfl⟩)⟩ rfl rfl) hN
 refine ⟨Vg d a,wY (r9 (j0 (i0 rfl l2) (j0 (i0 (j0 (y7 rfl rfl rfl) rfl) l2) (j0 (i0 (j0 (jI rfl rfl) rfl) l2) (j0 (i0 (j0 (y7 (jI rfl rfl) rfl rfl) rfl) l2) (j0 (i0 rfl l2) (j0 (i0 rfl l2) rfl)))))) l6),?_⟩;refine Qc (λrest ε=>(∀ t∈rest,BadS Ad d t)/\∃ s11,ε=ep K ns d sc nm Ac Aa p a s10 s11) ?_ ?_ _ _ ⟨MY a0,_,rfl⟩
 rotate_left
 ·rintro t rest ε ⟨ht,s11,rfl⟩;obtain ⟨l,t,rfl,hx⟩:=ht t yR;exact ⟨ep K ns d sc nm Ac Aa p a s10 (.sh (qi l t)),rfl,go hx ⟨λt' h'=>ht t' (yT _ h'),_,rfl⟩⟩
 rintro ε ⟨_,s11,rfl⟩;refine ⟨Vh d a,wY (r9 (j0 (i0 (j0 rfl (j0 (jI rfl rfl) rfl)) l2) (j0 (i0 (j0 rfl (j0 (y7 (jI rfl rfl) rfl rfl) rfl)) l2) (j0 (i0 rfl l2) (j0 (i0 rfl l2) (j0 (i0 rfl l2) (j0 (i0 (j0 rfl (j0 (jI rfl rfl) rfl)) l2) rfl)))))) l6),?_⟩;refine Qc (λrest ε=>(∀ t∈rest,BadS Ad d t)/\∃ s11,ε=ep K ns d sc nm Ac Aa p a s10 s11) ?_ ?_ _ _ ⟨MZ ok a0,_,rfl⟩
 rotate_left
 ·rintro t rest ε ⟨ht,s11,rfl⟩;obtain ⟨l,t,rfl,hx⟩:=ht t yR;exact ⟨ep K ns d sc nm Ac Aa p a s10 (.sh (qi l t)),rfl,go hx ⟨λt' h'=>ht t' (yT _ h'),_,rfl⟩⟩
 rintro ε ⟨_,s11,rfl⟩;have okW:∀{l t:Int},-1<=l->l<(d.h:Int)->0<=t->t<60*BIG->(⟨d.h,d.rss,[],l,t⟩:Dr).Ok:=λq1 q2 q3 q4=>⟨h1,h4,ok.rin,(by show 0<=10;decide),(λ_ z=>nomatch z),uy,q1,q2,q3,q4⟩;have okN:=okW (l:=-1) (t:=d.time) (by omega) (by omega) ok.t1 ok.t2;have ok0:=okW (l:=-1) (t:=0) (by omega) (by omega) (by omega) (by omega);have ok1:=okW (l:=d.last) (t:=0) ok.l1 ok.l2 (by omega) (by omega);have pt:∀ a b:Int,jk 6 (.tup [iP a,iP b]):=λa b y hy=>by
  have h:y=iP a∨y=iP b:=by simpa using hy
  rcases h with rfl|rfl<;>rfl
 have vN:=Gc (CH:=Ac) (C:=Aa) okN rfl rfl;refine ⟨rfl,p7 (v:=false) (y7 rfl rfl (vx (YZ _))),Zw (xs:=[v6 d.rss,.at .non,iP d.time]) (y:= .at (.str "")) (zP rfl (zP rfl (zP rfl Zd))) ⟨rfl,.inl ⟨⟨_,vN⟩,rfl⟩⟩ rfl rfl _ ⟨rfl,⟨_,jI rfl rfl⟩,?_⟩⟩;have v0:=Gc (CH:=Ac) (C:=Aa) ok0 rfl rfl;have v1:=Lu (CH:=Ac) (C:=Aa) ok1 rfl;refine ⟨xw Ac Aa ⟨d.h,d.rss,[],-1,0⟩,v0,?_⟩;refine QG (jG (p7 (v:=false) (y7 (xv (xv rfl (by decide) rfl wJ) (by decide) rfl Vp) (i0 (j0 (jI rfl rfl) (j0 rfl rfl)) l2) (vx (pt _ _)))) (p7 (v:=false) (y7 (xv (xv rfl (by decide) rfl wJ) (by decide) rfl (Gd ok0)) rfl (vx (YZ _))))) ?_;refine QG (p7 (v:=false) (y7 (xv (xv (show vZ _ _ _ _=some (xw Ac Aa ⟨d.h,d.rss,[],d.last,0⟩) from v1) (by decide) rfl wJ) (by decide) rfl Vp) (i0 rfl l2) (vx (pt _ _)))) ?_;have en:wI (jQ d.names)=[]:=by unfold Dr.names;rw [hc,List.map_nil,List.perm_nil.mp (UH [])];rfl
 have vn:=LF (C:=Aa) ok;rw [en] at vn;refine ⟨.lst [.tup [iP d.last,iP d.time],v6 d.rss,.lst [],.lst [],.at .non],r9 (j0 (xv (xv rfl (by decide) rfl wJ) (by decide) rfl Vp) (j0 (xv (xv rfl (by decide) rfl wJ) (by decide) rfl (Gd ok)) (j0 (xv (xv rfl (by decide) rfl wJ) (by decide) rfl vn) (j0 (xv rfl (by decide) rfl Ls) (j0 (xv rfl (by decide) rfl Lv) rfl))))) l5,?_⟩;refine ⟨_,y7 rfl (r9 (j0 (i0 rfl l2) (j0 rfl (j0 (r9 rfl l0) (j0 (r9 rfl l0) (j0 rfl rfl))))) l5) (CU ?_),rfl⟩;intro x hx;simp only [yJ,yG,or_false] at hx;rcases hx with rfl|rfl|rfl|rfl|rfl
 ·intro y hy;have h:y=iP d.last∨y=iP d.time:=by simpa using hy
  rcases h with rfl|rfl<;>rfl
 ·exact Dq _
 ·exact λ_ z=>nomatch z
 ·exact λ_ z=>nomatch z
 ·rfl
theorem Cm (F:Fun K "law" "law" vF f fd)(Iu:Fn P w K mg base 3 "_law_house" ["script"] (spV (Qo K) QN))(Em:Fn P w K mg base 1 "_law_no_rinses" ["rinses","at"] (qz Xq))(Ec:Fn P w K mg base 2 "_law_stream" ["script","k"] (spN (wB K) vP))(A8:Fn P w K mg base 1 "_law_take" ["stream","many"] wG)(Ey:Fn P w K mg base 9 "_law_word" ["rinses","last","time"] (spR (zM Af Ab Ad Ae Ag Ac Aa)))(Aw:mg "len"=none)(Ap:mg "list"=none)(D7:mg "House"=some (.ref Ac))(Ee:Mt P w K mg base 1 Ac "done" ["self"] (qz (Qd Ac)))(Ax:Mt P w K mg base 1 Ac "works" ["self"] (y8 (zC Ac)))(Ea:Mt P w K mg base 1 Ac "worst" ["self"] (y8 (Qe Ac)))(Eb:Mt P w K mg base 1 Aa "names" ["self"] (qz (Qf Aa)))(A9:Mt P w K mg base 1 Aa "rinses" ["self"] (qz (wp Aa)))(A7:Mt P w K mg base 1 Aa "start" ["self"] (y8 (vm Aa)))(Ep:zK P w K mg base 7 Ac ["self","rinses","last","time"] (qN (qr Ac (qQ Ac Aa) (xG Ac Af Ab Ad Ae Ag Aa)) (zt Ac Aa)))(Es:wO P w K mg base 7 Ac ["self","rinses","last","time"] [.int 0] (qN (qr Ac (qQ Ac Aa) (xG Ac Af Ab Ad Ae Ag Aa)) (zt Ac Aa)))(Et:wO P w K mg base 7 Ac ["self","rinses","last","time"] [.non,.int 0] (qN (qr Ac (qQ Ac Aa) (xG Ac Af Ab Ad Ae Ag Aa)) (zt Ac Aa))):FnOk P w K mg base v8 10 f fd ["script"] (Qw K) :=
 okL (k:=9) (b:=Wd K Ac Af Ab Ad Ae Ag Aa) F sc_law (λcdv A outer s H E hr=>⟨_,(@j9 _ _ _ _ _ (XF (qy Iu hr (by decide) rfl (@z5 _ _ _ _ _ (pv 0) j8 (by rfl))) (Jh (K:=K) (n:=5) rfl rfl (jj (p5 (i:=1) sc_law.nd rfl (Or.inl rfl)) (jj (p5 (i:=2) sc_law.nd rfl (Or.inl rfl)) (jj (p5 (i:=3) sc_law.nd rfl (Or.inl rfl)) (jj (p5 (i:=4) sc_law.nd rfl (Or.inl rfl)) (jj (p5 (i:=5) sc_law.nd rfl (Or.inl rfl)) Ji)))))))
  (@j9 _ _ _ _ _ (@qp _ _ 6 _ _ _ _ sc_law.nd rfl (Or.inl rfl) (w5 (je) (t6 (zR (K:=K) rfl) rfl Aw PySem.boot_len (@z5 _ _ _ _ _ (pv 1) j8 (by rfl))) j3) (by rfl) (.inl rfl))
  (@j9 _ _ _ _ _ (wC (i:=7) (N':=["row"]) (cap:=[none]) (qb rfl rfl rfl) rfl sc_law.nd rfl rfl (@qo _ K _ _ _ rfl (pv 1)) (λ_ _ _ _ _ _=>(p5 (i:=0) (by show (["row"]:List Str).Nodup;decide +kernel) rfl (Or.inl rfl))) (λ_ _ _ _ _ _=>qg) (λ_ _ _ _ _ _=>(ji (va (K:=K) rfl) rfl Ap zQ (@z5 _ _ _ _ _ (pv 0) j8 (by rfl)))))
  (@j9 _ _ _ _ _ (@qp _ _ 8 _ _ _ _ sc_law.nd rfl (Or.inl rfl) (Jc Ep hr (by decide) ZY rfl D7 (@z5 _ _ _ _ _ (pv 7) (@z5 _ _ _ _ _ (pv 2) (@z5 _ _ _ _ _ (pv 3) j8 (by rfl)) (by rfl)) (by rfl))) (by rfl) (.inl rfl))
  (@j9 _ _ _ _ _ (@qp _ _ 9 _ _ _ _ sc_law.nd rfl (Or.inl rfl) (qy A8 hr (by decide) rfl (@z5 _ _ _ _ _ (qy Ec hr (by decide) rfl (@z5 _ _ _ _ _ (pv 0) (@z5 _ _ _ _ _ j3 j8 (by rfl)) (by rfl))) (@z5 _ _ _ _ _ j3 j8 (by rfl)) (by rfl))) (by rfl) (.inl rfl))
  (@j9 _ _ _ _ _ (jn PassesOwn.never rfl (@qo _ K _ _ _ rfl (qy Em hr (by decide) rfl (@z5 _ _ _ _ _ (pv 1) (@z5 _ _ _ _ _ (pv 9) j8 (by rfl)) (by rfl)))) (p5 (i:=10) sc_law.nd rfl (Or.inl rfl))
   (@v5 _ _ _ (@jn _ _ _ _ _ _ _ _ PassesOwn.never rfl (@qo _ K _ _ _ rfl (@c8 _ _ _ _ (@z5 _ _ _ _ _ (@m9 _ _ _ _ _ (@z5 _ _ _ _ _ (pv 2) (@z5 _ _ _ _ _ (pv 3) j8 (by rfl)) (by rfl))) (@z5 _ _ _ _ _ (@m9 _ _ _ _ _ (@z5 _ _ _ _ _ (pv 6) (@z5 _ _ _ _ _ (pv 3) j8 (by rfl)) (by rfl))) (@z5 _ _ _ _ _ (@m9 _ _ _ _ _ (@z5 _ _ _ _ _ (pv 2) (@z5 _ _ _ _ _ (xY zc j3) j8 (by rfl)) (by rfl))) j8 (by rfl)) (by rfl)) (by rfl)))) (p5 (i:=11) sc_law.nd rfl (Or.inl rfl))
   (@v5 _ _ _ (qe (qq (zo (K:=K) (hu6 hr) rfl) (qy Ey hr (by decide) rfl (@z5 _ _ _ _ _ (pv 10) (@z5 _ _ _ _ _ (iW (K:=K) rfl (pv 11) j3) (@z5 _ _ _ _ _ (iW (K:=K) rfl (pv 11) j3) j8 (by rfl)) (by rfl)) (by rfl))) xj (o3 _)) (@v5 _ _ _ (u4 qU)) qf)) (by intro _;rfl))))
  (@j9 _ _ _ _ _ (@jn _ _ _ _ _ _ _ _ PassesOwn.never rfl (@qo _ K _ _ _ rfl (@c8 _ _ _ _ (@z5 _ _ _ _ _ (@m9 _ _ _ _ _ (@z5 _ _ _ _ _ (pv 6) (@z5 _ _ _ _ _ (pv 3) j8 (by rfl)) (by rfl))) (@z5 _ _ _ _ _ (@m9 _ _ _ _ _ (@z5 _ _ _ _ _ (w5 (xW (K:=K) rfl) (pv 6) (pv 9)) (@z5 _ _ _ _ _ (pv 3) j8 (by rfl)) (by rfl))) (@z5 _ _ _ _ _ (@m9 _ _ _ _ _ (@z5 _ _ _ _ _ (xY zc j3) (@z5 _ _ _ _ _ (pv 3) j8 (by rfl)) (by rfl))) (@z5 _ _ _ _ _ (@m9 _ _ _ _ _ (@z5 _ _ _ _ _ (w5 (je) (xY zc j3) (pv 9)) (@z5 _ _ _ _ _ (pv 3) j8 (by rfl)) (by rfl))) (@z5 _ _ _ _ _ (@m9 _ _ _ _ _ (@z5 _ _ _ _ _ qU (@z5 _ _ _ _ _ (pv 3) j8 (by rfl)) (by rfl))) (@z5 _ _ _ _ _ (@m9 _ _ _ _ _ (@z5 _ _ _ _ _ xj (@z5 _ _ _ _ _ (pv 3) j8 (by rfl)) (by rfl))) j8 (by rfl)) (by rfl)) (by rfl)) (by rfl)) (by rfl)) (by rfl)))) (p5 (i:=11) sc_law.nd rfl (Or.inl rfl))
   (@v5 _ _ _ (qe (qq (zo (K:=K) (hu6 hr) rfl) (qy Ey hr (by decide) rfl (@z5 _ _ _ _ _ (pv 1) (@z5 _ _ _ _ _ (iW (K:=K) rfl (pv 11) j3) (@z5 _ _ _ _ _ (iW (K:=K) rfl (pv 11) j3) j8 (by rfl)) (by rfl)) (by rfl))) xj (o3 _)) (@v5 _ _ _ (u4 qU)) qf)) (by intro _;rfl))
  (@j9 _ _ _ _ _ (@jn _ _ _ _ _ _ _ _ PassesOwn.never rfl (@qo _ K _ _ _ rfl (@c8 _ _ _ _ (@z5 _ _ _ _ _ (@m9 _ _ _ _ _ (@z5 _ _ _ _ _ (pv 2) (@z5 _ _ _ _ _ (xY zc j3) j8 (by rfl)) (by rfl))) (@z5 _ _ _ _ _ (@m9 _ _ _ _ _ (@z5 _ _ _ _ _ (pv 2) (@z5 _ _ _ _ _ (w5 (je) (xY zc j3) (pv 9)) j8 (by rfl)) (by rfl))) (@z5 _ _ _ _ _ (@m9 _ _ _ _ _ (@z5 _ _ _ _ _ (pv 2) (@z5 _ _ _ _ _ qU j8 (by rfl)) (by rfl))) (@z5 _ _ _ _ _ (@m9 _ _ _ _ _ (@z5 _ _ _ _ _ (pv 2) (@z5 _ _ _ _ _ xX j8 (by rfl)) (by rfl))) (@z5 _ _ _ _ _ (@m9 _ _ _ _ _ (@z5 _ _ _ _ _ (pv 2) (@z5 _ _ _ _ _ xj j8 (by rfl)) (by rfl))) (@z5 _ _ _ _ _ (@m9 _ _ _ _ _ (@z5 _ _ _ _ _ xX (@z5 _ _ _ _ _ (xY zc j3) j8 (by rfl)) (by rfl))) j8 (by rfl)) (by rfl)) (by rfl)) (by rfl)) (by rfl)) (by rfl)))) (p5 (i:=11) sc_law.nd rfl (Or.inl rfl))
   (@v5 _ _ _ (qe (qq (zo (K:=K) (hu6 hr) rfl) (qy Ey hr (by decide) rfl (@z5 _ _ _ _ _ (pv 1) (@z5 _ _ _ _ _ (iW (K:=K) rfl (pv 11) j3) (@z5 _ _ _ _ _ (iW (K:=K) rfl (pv 11) j3) j8 (by rfl)) (by rfl)) (by rfl))) xj (o3 _)) (@v5 _ _ _ (u4 qU)) qf)) (by intro _;rfl))
  (@j9 _ _ _ _ _ (qe (PW.pt (jP (qq (zo (K:=K) (hu6 hr) rfl) (pv 7) (pv 1) (o3 _)) (vC (qq (zo (K:=K) (hu6 hr) rfl) (qy Ey hr (by decide) rfl (@z5 _ _ _ _ _ (pv 1) (@z5 _ _ _ _ _ xX (@z5 _ _ _ _ _ (pv 3) j8 (by rfl)) (by rfl)) (by rfl))) xj (o3 _))))) (@v5 _ _ _ (u4 qU)) qf)
  (@j9 _ _ _ _ _ (XF (xY zc j3) (Jg (iW (K:=K) rfl (pv 7) j3) j3 Vd))
  (@j9 _ _ _ _ _ (vA (CZ (K:=K) rfl PySem.F.plainAttrs_list PySem.F.slot_list_pop PySem.F.type_list_pop Pt (pv 7)))
  (@j9 _ _ _ _ _ (@qp _ _ 12 _ _ _ _ sc_law.nd rfl (Or.inl rfl) (YY Et hr (by decide) ZY rfl D7 (@z5 _ _ _ _ _ (pv 1) j8 (by rfl))) (by rfl) (.inl rfl))
  (@j9 _ _ _ _ _ (qe (PW.pt (jP (qq (zo (K:=K) (hu6 hr) rfl) (qL A7 hr (by decide) (qL Ax hr (by decide) (pv 12))) (@m9 _ _ _ _ _ (@z5 _ _ _ _ _ (xY zc j3) (@z5 _ _ _ _ _ j3 j8 (by rfl)) (by rfl))) (o3 _)) (vC (qq (zo (K:=K) (hu6 hr) rfl) (qL A9 hr (by decide) (qL Ax hr (by decide) (pv 12))) (pv 1) (o3 _))))) (@v5 _ _ _ (u4 qU)) qf)
  (@j9 _ _ _ _ _ (qe (qq (zo (K:=K) (hu6 hr) rfl) (qL A7 hr (by decide) (qL Ax hr (by decide) (YY Es hr (by decide) ZY rfl D7 (@z5 _ _ _ _ _ (pv 1) (@z5 _ _ _ _ _ (pv 2) j8 (by rfl)) (by rfl))))) (@m9 _ _ _ _ _ (@z5 _ _ _ _ _ (pv 2) (@z5 _ _ _ _ _ j3 j8 (by rfl)) (by rfl))) (o3 _)) (@v5 _ _ _ (u4 qU)) qf)
  (@j9 _ _ _ _ _ (@qp _ _ 13 _ _ _ _ sc_law.nd rfl (Or.inl rfl) (@c8 _ _ _ _ (@z5 _ _ _ _ _ (qL A7 hr (by decide) (qL Ax hr (by decide) (pv 8))) (@z5 _ _ _ _ _ (qL A9 hr (by decide) (qL Ax hr (by decide) (pv 8))) (@z5 _ _ _ _ _ (qL Eb hr (by decide) (qL Ax hr (by decide) (pv 8))) (@z5 _ _ _ _ _ (qL Ee hr (by decide) (pv 8)) (@z5 _ _ _ _ _ (qL Ea hr (by decide) (pv 8)) j8 (by rfl)) (by rfl)) (by rfl)) (by rfl)) (by rfl))) (by rfl) (.inl rfl))
  (@v5 _ _ _ (u4 (Ja (YN (K:=K) (hu6 hr) rfl) (pv 13) (@c8 _ _ _ _ (@z5 _ _ _ _ _ (@m9 _ _ _ _ _ (@z5 _ _ _ _ _ (pv 2) (@z5 _ _ _ _ _ (pv 3) j8 (by rfl)) (by rfl))) (@z5 _ _ _ _ _ (pv 1) (@z5 _ _ _ _ _ (@c8 _ _ _ _ j8) (@z5 _ _ _ _ _ (@c8 _ _ _ _ j8) (@z5 _ _ _ _ _ xX j8 (by rfl)) (by rfl)) (by rfl)) (by rfl)) (by rfl))) (o3 _))))))))))))))))))),
  (by repeat' first|infer_instance|(refine @Mi.instSemWSTSeqWSeq _ _ _ _ ?_ ?_)|(apply @Mi.instSemWSTForWForOfSemWIOfSemWG))⟩) Bp
theorem WP {K:Fg}(h:PySem.W.hasDictIn K C=true):(PySem.W.clsIn K C).isSome=true:=by
 unfold PySem.W.hasDictIn at h;cases e:PySem.W.clsIn K C with
 |none=>rw [e] at h;cases h
 |some cd=>rfl
theorem Wu {K:Fg}{fd:FuncData}{T:Addr}{ob:Obj}(hd:fd.defaults = .ref T)(q:K.lookup T=some ob)(hs:ob.data = .seq items n)(h:∀ us:List Value,us.length=ps.length->∃ k:Option (Array Value)->Sem (List (Str×Value)),bindArgs fd ⟨us,[]⟩=seqItems? fd.defaults >>= k/\k (some items)=pure (ps.zip us)):Binds K fd ps []:=λs us X hl=>by
 rw [yC] at hl ⊢;obtain ⟨k,e1,e2⟩:=h us hl;exact BindsTo.of_defaults hd (X _ _ q) hs e1 e2
theorem Wv {K:Fg}{fd:FuncData}{T:Addr}{ob:Obj}(m:Nat)(hd:fd.defaults = .ref T)(q:K.lookup T=some ob)(hs:ob.data = .seq items n)(hm:ps.length=m+ds.length)(h:∀ us:List Value,us.length=m->∃ k:Option (Array Value)->Sem (List (Str×Value)),bindArgs fd ⟨us,[]⟩=seqItems? fd.defaults >>= k/\k (some items)=pure (ps.zip (us++ds))):Binds K fd ps ds:=λs us X hl=>by
 rw [yD] at hl;obtain ⟨k,e1,e2⟩:=h us (by omega);exact BindsTo.of_defaults hd (X _ _ q) hs e1 e2
abbrev so (f:Addr):Option (Option Value):=some (some (.ref f))
abbrev fO (oc:Value)(od:Option Addr)(x q:Str)(st:Stmt)(dV kV dc pm:Value)(an:Option Addr)(cd ct:Value)(sl:Array (Option Value)):Option Obj:=some ⟨oc,od,.func (PySem.W.fnOf x q (qP st) (c7 st) (j6 st) dV kV dc pm an cd ct),sl⟩
structure Zt (P:Program)(w:World)(K:Fg)(mg:Str->Option Value)(base h:Heap):Prop where
 X:K.In h
 G:h.Ns mainGlobals mg
def FG (K:Fg)(x:Str)(st:Stmt):Prop:=∃ f oc od kV dc pm an cd ct sl,PySem.W.nsIn K mainGlobals x=so f/\K.lookup f=fO oc od x x st .none kV dc pm an cd ct sl/\PySem.W.codeIn K cd x=true/\PySem.W.keepIn K (.ref f)=true
theorem FG.i {K:Fg}{f:Addr}{kV:Value}(a:PySem.W.nsIn K mainGlobals x=so f)(l:K.lookup f=fO oc od x x st .none kV dc pm an cd ct sl)(c:PySem.W.codeIn K cd x=true)(k:PySem.W.keepIn K (.ref f)=true):FG K x st:=⟨_,_,_,_,_,_,_,_,_,_,a,l,c,k⟩
def FM (K:Fg)(C:Addr)(x q:Str)(st:Stmt):Prop:=∃ f oc od kV dc pm an cd ct sl,PySem.W.findIn K (.ref C) x=so f/\PySem.W.isFn K (.ref f)=true/\K.lookup f=fO oc od x q st .none kV dc pm an cd ct sl/\PySem.W.codeIn K cd q=true/\PySem.W.keepIn K (.ref f)=true
theorem FM.i {K:Fg}{f:Addr}{kV:Value}(a:PySem.W.findIn K (.ref C) x=so f)(i:PySem.W.isFn K (.ref f)=true)(l:K.lookup f=fO oc od x q st .none kV dc pm an cd ct sl)(c:PySem.W.codeIn K cd q=true)(k:PySem.W.keepIn K (.ref f)=true):FM K C x q st:=⟨_,_,_,_,_,_,_,_,_,_,a,i,l,c,k⟩
abbrev BdA (x q:Str)(st:Stmt)(ps:List Str):Prop:=∀(kV doc pm:Value)(an:Option Addr)(cdv ct:Value)(us:List Value),us.length=ps.length->bindArgs (PySem.W.fnOf x q (qP st) (c7 st) (j6 st) .none kV doc pm an cdv ct) ⟨us,[]⟩=pure (ps.zip us)
theorem bd1 (h:∀(kV doc pm:Value)(an:Option Addr)(cdv ct a0:Value),bindArgs (PySem.W.fnOf x q (qP st) (c7 st) (j6 st) .none kV doc pm an cdv ct) ⟨[a0],[]⟩=pure [(p0,a0)]):BdA x q st [p0]:=λ_ _ _ _ _ _ us hl=>match us,hl with|[_],_=>h _ _ _ _ _ _ _
theorem bd2 (h:∀(kV doc pm:Value)(an:Option Addr)(cdv ct a0 a1:Value),bindArgs (PySem.W.fnOf x q (qP st) (c7 st) (j6 st) .none kV doc pm an cdv ct) ⟨[a0,a1],[]⟩=pure [(p0,a0),(p1,a1)]):BdA x q st [p0,p1]:=λ_ _ _ _ _ _ us hl=>match us,hl with|[_,_],_=>h _ _ _ _ _ _ _ _
theorem bd3 (h:∀(kV doc pm:Value)(an:Option Addr)(cdv ct a0 a1 a2:Value),bindArgs (PySem.W.fnOf x q (qP st) (c7 st) (j6 st) .none kV doc pm an cdv ct) ⟨[a0,a1,a2],[]⟩=pure [(p0,a0),(p1,a1),(p2,a2)]):BdA x q st [p0,p1,p2]:=λ_ _ _ _ _ _ us hl=>match us,hl with|[_,_,_],_=>h _ _ _ _ _ _ _ _ _
theorem bd4 (h:∀(kV doc pm:Value)(an:Option Addr)(cdv ct a0 a1 a2 a3:Value),bindArgs (PySem.W.fnOf x q (qP st) (c7 st) (j6 st) .none kV doc pm an cdv ct) ⟨[a0,a1,a2,a3],[]⟩=pure [(p0,a0),(p1,a1),(p2,a2),(p3,a3)]):BdA x q st [p0,p1,p2,p3]:=λ_ _ _ _ _ _ us hl=>match us,hl with|[_,_,_,_],_=>h _ _ _ _ _ _ _ _ _ _
theorem bd5 {p4:Str}(h:∀(kV doc pm:Value)(an:Option Addr)(cdv ct a0 a1 a2 a3 a4:Value),bindArgs (PySem.W.fnOf x q (qP st) (c7 st) (j6 st) .none kV doc pm an cdv ct) ⟨[a0,a1,a2,a3,a4],[]⟩=pure [(p0,a0),(p1,a1),(p2,a2),(p3,a3),(p4,a4)]):BdA x q st [p0,p1,p2,p3,p4]:=λ_ _ _ _ _ _ us hl=>match us,hl with|[_,_,_,_,_],_=>h _ _ _ _ _ _ _ _ _ _ _
section
variable {P:Program}{w:World}{K:Fg}{mg:Str->Option Value}{base h:Heap}{k:Nat}{ps:List Str}{sp:Sp}{x q:Str}{st:Stmt}{C:Addr}
theorem fG (Z:Zt P w K mg base h)(a:FG K x st)(H:∀{f fd},Fun K x x st f fd->FnOk P w K mg base v8 k f fd ps sp)(b:BdA x x st ps:=by first|exact bd1 λ_ _ _ _ _ _ _=>rfl|exact bd2 λ_ _ _ _ _ _ _ _=>rfl|exact bd3 λ_ _ _ _ _ _ _ _ _=>rfl|exact bd4 λ_ _ _ _ _ _ _ _ _ _=>rfl|exact bd5 λ_ _ _ _ _ _ _ _ _ _ _=>rfl):Fn P w K mg base k x ps sp:=by obtain ⟨f,oc,od,kV,dc,pm,an,cd,ct,sl,a,l,c,kp⟩:=a;exact ⟨f,_,H (zU l c kp),PySem.W.mg_of Z.X Z.G a,kp,(zU l c kp).binds b⟩
theorem fM (Z:Zt P w K mg base h)(kc:qa K C)(a:FM K C x q st)(H:∀{f fd},Fun K x q st f fd->FnOk P w K mg base v8 k f fd ps sp)(b:BdA x q st ps:=by first|exact bd1 λ_ _ _ _ _ _ _=>rfl|exact bd2 λ_ _ _ _ _ _ _ _=>rfl|exact bd3 λ_ _ _ _ _ _ _ _ _=>rfl|exact bd4 λ_ _ _ _ _ _ _ _ _ _=>rfl|exact bd5 λ_ _ _ _ _ _ _ _ _ _ _=>rfl):Mt P w K mg base k C x ps sp:=by obtain ⟨f,oc,od,kV,dc,pm,an,cd,ct,sl,a,i,l,c,kp⟩:=a;exact ⟨f,_,H (zU l c kp),⟨a,i,kp⟩,kc.c,(zU l c kp).binds b⟩
end
theorem fGY {P:Program}{w:World}{K:Fg}{mg:Str->Option Value}{base h:Heap}{k:Nat}{sp:Sp}(Z:Zt P w K mg base h)(a:FG K x st)(H:∀{f fd},Fun K x x st f fd->FnOk P w K mg base (p8 P w) k f fd ps sp)(b:BdA x x st ps:=by first|exact bd1 λ_ _ _ _ _ _ _=>rfl|exact bd2 λ_ _ _ _ _ _ _ _=>rfl|exact bd3 λ_ _ _ _ _ _ _ _ _=>rfl|exact bd4 λ_ _ _ _ _ _ _ _ _ _=>rfl|exact bd5 λ_ _ _ _ _ _ _ _ _ _ _=>rfl):Fy P w K mg base k x ps sp:=by obtain ⟨f,oc,od,kV,dc,pm,an,cd,ct,sl,a,l,c,kp⟩:=a;exact ⟨f,_,H (zU l c kp),PySem.W.mg_of Z.X Z.G a,kp,(zU l c kp).binds b⟩
def FXI (K:Fg)(C R:Addr)(f q:Str)(st:Stmt):Prop:=∃ fI oc od kV dc pm an cd ct sl,PySem.W.findIn K (.ref C) "__init__"=so fI/\K.lookup fI=fO oc od "__init__" q st .none kV dc pm an cd ct sl/\PySem.W.codeIn K cd q=true/\PySem.W.keepIn K (.ref fI)=true/\PySem.W.isFn K (.ref fI)=true/\PySem.W.keepIn K (.ref C)=true/\PySem.W.findIn K (.ref C) "__setattr__"=some (some (.builtin "object.__setattr__"))/\PySem.W.findIn K (.ref C) f=some none/\zH K C R fI=true
theorem FXI.i {K:Fg}{f:Str}{kV:Value}(a:PySem.W.findIn K (.ref C) "__init__"=so fI)(l:K.lookup fI=fO oc od "__init__" q st .none kV dc pm an cd ct sl)(c:PySem.W.codeIn K cd q=true)(k:PySem.W.keepIn K (.ref fI)=true)(i:PySem.W.isFn K (.ref fI)=true)(k2:PySem.W.keepIn K (.ref C)=true)(s:PySem.W.findIn K (.ref C) "__setattr__"=some (some (.builtin "object.__setattr__")))(n:PySem.W.findIn K (.ref C) f=some none)(x:zH K C R fI=true):FXI K C R f q st:=⟨_,_,_,_,_,_,_,_,_,_,a,l,c,k,i,k2,s,n,x⟩
theorem fXI {P:Program}{w:World}{K:Fg}{mg:Str->Option Value}{base h:Heap}{f:Str}(Z:Zt P w K mg base h)(g:mg x=some (.ref C))(a:FXI K C R f q st)(H:∀ {fI fd},Fun K "__init__" q st fI fd->zH K C R fI=true->PySem.W.findIn K (.ref C) "__setattr__"=some (some (.builtin "object.__setattr__"))->PySem.W.findIn K (.ref C) f=some none->FnOk P w K mg base v8 1 fI fd ps (wH C f))(b:BdA "__init__" q st ps:=by first|exact bd1 λ_ _ _ _ _ _ _=>rfl|exact bd2 λ_ _ _ _ _ _ _ _=>rfl|exact bd3 λ_ _ _ _ _ _ _ _ _=>rfl|exact bd4 λ_ _ _ _ _ _ _ _ _ _=>rfl|exact bd5 λ_ _ _ _ _ _ _ _ _ _ _=>rfl):XMk P w K mg base 1 x C f:=by obtain ⟨fI,oc,od,kV,dc,pm,an,cd,ct,sl,a,l,c,kp,i,k2,s,n,q⟩:=a;exact ⟨R,fI,_,_,q,i,k2,g,H (zU l c kp) q s n,(zU l c kp).binds b⟩
theorem all_mk {l:PySem.W.OpenLaw}{w:World}{K:Fg}{h:Heap}{mg:Str->Option Value}{fa f26 f30 f36:Addr}{od26 od30 od36 an26 an30 an36:Option Addr}{sl26 sl30 sl36:Array (Option Value)}{oc26 oc30 oc36 kV26 kV30 kV36 dc26 dc30 dc36 pm26 pm30 pm36 ct26 ct30 ct36 cd26 cd30 cd36:Value}{T26 T30:Addr}{qc26  qc30 :Value}{qd26 qd30:Option Addr}{qn26 qn30:Nat}{qs26 qs30:Array (Option Value)}{tq26_1 tq30_1:Tok}(X:K.In h)(TT:∀ P∈[],h.get? P=some (PySem.W.tabObj #[]))(hTB:TABS=[])(G:h.Ns mainGlobals mg)(hfa:mg "law"=some (.ref fa))(Q4:W.nsIn K mainGlobals "House"=some (some (.ref Ac)))(Nl:W.nsIn K mainGlobals "NoCloth"=some (some (.ref Af)))(Nf:W.nsIn K mainGlobals "NoRinses"=some (some (.ref Ab)))(Nj:W.nsIn K mainGlobals "NoStart"=some (some (.ref Ad)))(Im:W.nsIn K mainGlobals "RinseError"=some (some (.ref Ai)))(Ni:W.nsIn K mainGlobals "TooMany"=some (some (.ref Ae)))(Q2:W.nsIn K mainGlobals "Twice"=some (some (.ref Ag)))(Q1:W.nsIn K mainGlobals "Works"=some (some (.ref Aa)))(Nw:FXI K Ag Ai "name" "Twice.__init__" XI)(Nx:PySem.W.plainGet K Ac Str.empty=true)(Np:PySem.W.hasDictIn K Ac=true)(Nn:PySem.W.plainOver K Ac=true)(N3:W.findIn K (.ref Ac) "__setattr__"=some (some (.builtin "object.__setattr__")))(E8:PySem.W.makesIn K Ac=true)(Ib:W.keepIn K (.ref Ac)=true)(Ny:PySem.W.plainGet K Aa Str.empty=true)(N1:PySem.W.hasDictIn K Aa=true)(Nr:PySem.W.plainOver K Aa=true)(No:W.findIn K (.ref Aa) "__setattr__"=some (some (.builtin "object.__setattr__")))(Nm:PySem.W.makesIn K Aa=true)(Nt:W.keepIn K (.ref Aa)=true)(J7:W.findIn K (.ref Ac) "now"=some none)(Ih:W.findIn K (.ref Ac) "past"=some none)(Id:W.findIn K (.ref Aa) "given"=some none)(Ij:W.findIn K (.ref Aa) "held"=some none)(Ik:W.findIn K (.ref Aa) "last"=some none)(Ie:W.findIn K (.ref Aa) "least"=some none)(Ig:W.findIn K (.ref Aa) "time"=some none)(a0:FG K "_law_mixed" JS)(a1:FG K "_law_take" JY)(a2:FG K "_law_stream" XJ)(a3:FG K "_law_rinse" JV)(a4:FG K "_law_house" JG)(a5:FG K "is_whole" JM)(a6:FG K "name_of" JT)(a7:FG K "hue_of" JH)(a8:FG K "length_of" JQ)(a9:FG K "due_of" JF)(a10:FG K "weight_of" Va)(a11:FG K "is_from" JJ)(a12:FG K "is_name" JK)(a13:FG K "is_cloth" JI)(a14:FG K "is_rinse_row" JL)(a15:FG K "check_rinses" JD)(a16:FG K "straight_ways" JW)(a17:FG K "joined" JN)(a18:FG K "lesser" JR)(a19:FG K "ways_through" JZ)(a20:FG K "least_ways" JP)(a21:FG K "sums_of" JX)(a22:FG K "least_rinses" JO)(a23:FG K "check_start" JE)(a24:FG K "check_cloths" JC)(a25:FM K Aa "hues" "Works.hues" Jy)(a26:W.findIn K (.ref Aa) "__init__"=so f26)(i26:W.isFn K (.ref f26)=true)(l26:K.lookup f26=fO oc26 od26 "__init__" "Works.__init__" js (.ref T26) kV26 dc26 pm26 an26 cd26 ct26 sl26)(c26:W.codeIn K cd26 "Works.__init__"=true)(k26:W.keepIn K (.ref f26)=true)(q26:K.lookup T26=some ⟨qc26,qd26,.seq #[.none,(.int 0 tq26_1)] qn26,qs26⟩)(a27:FM K Aa "names" "Works.names" Jz)(a28:FM K Aa "start" "Works.start" JB)(a29:FM K Aa "rinses" "Works.rinses" JA)(a30:W.findIn K (.ref Ac) "__init__"=so f30)(i30:W.isFn K (.ref f30)=true)(l30:K.lookup f30=fO oc30 od30 "__init__" "House.__init__" jr (.ref T30) kV30 dc30 pm30 an30 cd30 ct30 sl30)(c30:W.codeIn K cd30 "House.__init__"=true)(k30:W.keepIn K (.ref f30)=true)(q30:K.lookup T30=some ⟨qc30,qd30,.seq #[.none,(.int 0 tq30_1)] qn30,qs30⟩)(a31:FM K Ac "works" "House.works" Jw)(a32:FM K Ac "done" "House.done" Jv)(a33:FM K Ac "worst" "House.worst" Jx)(a34:FG K "_law_no_rinses" JU)(a35:FG K "_law_word" Vb)(a36:W.nsIn K mainGlobals "law"=so f36)(l36:K.lookup f36=fO oc36 od36 "law" "law" vF .none kV36 dc36 pm36 an36 cd36 ct36 sl36)(c36:W.codeIn K cd36 "law"=true)(k36:W.keepIn K (.ref f36)=true)(Iy:W.nsIn K mainGlobals "ValueError"=some none)(Rb:W.nsIn K mainGlobals "all"=some none)(Q6:W.nsIn K mainGlobals "bool"=some none)(Q7:W.nsIn K mainGlobals "dict"=some none)(J3:W.nsIn K mainGlobals "enumerate"=some none)(Rc:W.nsIn K mainGlobals "int"=some none)(Ii:W.nsIn K mainGlobals "isinstance"=some none)(Rf:W.nsIn K mainGlobals "len"=some none)(Q8:W.nsIn K mainGlobals "list"=some none)(Q5:W.nsIn K mainGlobals "range"=some none)(Nu:W.nsIn K mainGlobals "sorted"=some none)(Ra:W.nsIn K mainGlobals "str"=some none)(Re:W.nsIn K mainGlobals "sum"=some none)(Q3:W.nsIn K mainGlobals "tuple"=some none)(Q9:W.nsIn K mainGlobals "zip"=some none)(E5:W.nsIn K mainGlobals "LONGEST_NAME"=some (some (.int 8 D6)))(Ic:W.nsIn K mainGlobals "MOST_CLOTHS"=some (some (.int 10 D9)))(J4:W.nsIn K mainGlobals "MOST_HUES"=some (some (.int 4 Ej)))(Q0:W.nsIn K mainGlobals "PARTS"=some (some (.int 5 J0)))(E2:PySem.W.excIn K Af [.type "ValueError",.type "Exception",.type "BaseException",.type "object"] "ValueError.__new__"=true)(D4:PySem.W.excIn K Ab [.type "ValueError",.type "Exception",.type "BaseException",.type "object"] "ValueError.__new__"=true)(Eo:PySem.W.excIn K Ad [.type "ValueError",.type "Exception",.type "BaseException",.type "object"] "ValueError.__new__"=true)(E3:PySem.W.excIn K Ae [.type "ValueError",.type "Exception",.type "BaseException",.type "object"] "ValueError.__new__"=true)(Nc:PySem.W.hasDictIn K Ab=true)(Io:W.findIn K (.ref Ab) "__getattribute__"=some (some (.builtin "BaseException.__getattribute__")))(Il:W.findIn K (.ref Ab) "__getattr__"=some none)(Ir:W.findIn K (.ref Ab) "__class__"=some (some (.builtin "object.__class__")))(Ix:PySem.W.mroIn K Ab (.type "object")=some true)(Iz:PySem.W.mroIn K Ab (.type "BaseException")=some true)(Nh:PySem.W.hasDictIn K Ad=true)(Nd:W.findIn K (.ref Ad) "__getattribute__"=some (some (.builtin "BaseException.__getattribute__")))(J8:W.findIn K (.ref Ad) "__getattr__"=some none)(J9:W.findIn K (.ref Ad) "__class__"=some (some (.builtin "object.__class__")))(J2:PySem.W.mroIn K Ad (.type "object")=some true)(Nb:PySem.W.mroIn K Ad (.type "BaseException")=some true)(usp:PySem.W.specialIn K (.builtin "object.__class__") "__get__"=some (some (.builtin "getset_descriptor.__get__")))(utk:PySem.W.takesIn K (.builtin "object.__class__")=some true)(Al:PySem.W.exmOne K (.ref Ab) (.ref Ai)=some true)(Am:PySem.W.exmOne K (.ref Ad) (.ref Ai)=some true)(Ao:PySem.W.kitOne K (.ref Ab) (.ref Ab)=some true)(As:PySem.W.kitOne K (.ref Ab) (.ref Ad)=some false)(Aj:PySem.W.kitAny K (.ref Ab) [.ref Af,.ref Ae]=some false)(A3:PySem.W.kitOne K (.ref Ab) (.type "ValueError")=some true)(At:PySem.W.kitOne K (.ref Ad) (.ref Ab)=some false)(Av:PySem.W.kitOne K (.ref Ad) (.ref Ad)=some true)(Ak:PySem.W.kitAny K (.ref Ad) [.ref Af,.ref Ae]=some false)(A4:PySem.W.kitOne K (.ref Ad) (.type "ValueError")=some true):∃ fd:FuncData,(∀ (s:Shared) (v:Value),BindsTo s fd ⟨[v],[]⟩ [("script",v)])/\vT K h/\∀ base:Heap,K.In base->base.Ns mainGlobals mg->FnOk l.prog w K mg base v8 10 fa fd ["script"] (Qw K):=by
 have e:=hfa.symm.trans (W.mg_of X G a36);cases e;have Ef:=W.mg_none_of X G Iy;have Ex:=W.mg_none_of X G Rb;have Ng:=W.mg_none_of X G Q6;have Eh:=W.mg_none_of X G Q7;have El:=W.mg_none_of X G J3;have N2:=W.mg_none_of X G Rc;have Ah:=W.mg_none_of X G Ii;have Aw:=W.mg_none_of X G Rf;have Ap:=W.mg_none_of X G Q8;have Az:=W.mg_none_of X G Q5;have E7:=W.mg_none_of X G Nu;have Nq:=W.mg_none_of X G Ra;have Na:=W.mg_none_of X G Re;have Ip:=W.mg_none_of X G Q3;have N0:=W.mg_none_of X G Q9;have D5:=W.mg_of X G E5;have D8:=W.mg_of X G Ic;have En:=W.mg_of X G J4;have Iw:=W.mg_of X G Q0;have D7:=W.mg_of X G Q4;have B8:=W.mg_of X G Nl;have A5:=W.mg_of X G Nf;have B0:=W.mg_of X G Nj;have Eg:=W.mg_of X G Im;have B7:=W.mg_of X G Ni;have N8:=W.mg_of X G Q2;have B4:=W.mg_of X G Q1;have B3:qS K Ab:=⟨WP Nc,Io,Il,Ir,usp,utk,Ix,Iz⟩;have B9:qS K Ad:=⟨WP Nh,Nd,J8,J9,usp,utk,J2,Nb⟩;have Iq:qa K Ac:=⟨⟨Nx,Np,Nn,N3⟩⟩;have E4:qa K Aa:=⟨⟨Ny,N1,Nr,No⟩⟩;have N9:u7 K Ac "now":=⟨J7⟩;have N7:u7 K Ac "past":=⟨Ih⟩;have Nv:u7 K Aa "given":=⟨Id⟩;have N5:u7 K Aa "held":=⟨Ij⟩;have N6:u7 K Aa "last":=⟨Ik⟩;have Nz:u7 K Aa "least":=⟨Ie⟩;have N4:u7 K Aa "time":=⟨Ig⟩;have F26:=Yi (st:=js) l26 c26 k26;have F30:=Yi (st:=jr) l30 c30 k30;have F36:=zU (st:=vF) l36 c36 k36;have b26:Binds K (W.fnOf "__init__" "Works.__init__" (qP js) (c7 js) (j6 js) (.ref T26) kV26 dc26 pm26 an26 cd26 ct26) ["self","rinses","cloths","last","time"] []:=Wu (T:=T26) rfl q26 rfl λus hl=>match us,hl with|[_,_,_,_,_],_=>⟨_,rfl,rfl⟩
 have b30:Binds K (W.fnOf "__init__" "House.__init__" (qP jr) (c7 jr) (j6 jr) (.ref T30) kV30 dc30 pm30 an30 cd30 ct30) ["self","rinses","last","time"] []:=Wu (T:=T30) rfl q30 rfl λus hl=>match us,hl with|[_,_,_,_],_=>⟨_,rfl,rfl⟩
 have TK:vT K h:=by refine ⟨λp hp=>?_,λp hp=>?_,λp hp q hq=>?_,λp hp=>?_,λp hp q hq e=>?_,λp hp=>?_⟩<;>rw [hTB] at hp<;>cases hp
 refine ⟨W.fnOf "law" "law" (qP vF) (c7 vF) (j6 vF) .none kV36 dc36 pm36 an36 cd36 ct36,λs v=> .of_eq rfl,TK,λbase _ _=>?_⟩;have Z:Zt l.prog w K mg base h:=⟨X,G⟩;have Iv:XMk l.prog w K mg base 1 "Twice" Ag "name":=fXI (st:=XI) Z N8 Nw λF q s n=>PP F q s n;have Ev:=fG Z a0 λF=>Cr F;have A8:=fG Z a1 λF=>CA F;have Ec:=fG Z a2 λF=>Cw F Ev Aw Az Na;have J1:=fG Z a3 λF=>Cu F A8;have Iu:=fG Z a4 λF=>Cd F J1 Ec A8 Az;have A0:=fG Z a5 λF=>Cj F Ng N2 Ah;have An:=fG Z a6 λF=>Cs F;have Ew:=fG Z a7 λF=>Ce F;have Ei:=fG Z a8 λF=>Cp F;have E9:=fG Z a9 λF=>Cc F;have Ek:=fG Z a10 λF=>CD F;have A6:=fG Z a11 λF=>Cg F A0;have Ez:=fG Z a12 λF=>Ch F Ex Ah Aw Nq D5;have Eu:=fG Z a13 λF=>Cf F E9 Ew A6 Ez A0 Ei An Ek Ah Aw Ip Iw;have D3:=fG Z a14 λF=>Ci F A0 Ex Ah Aw Ap;have D2:=fGY (sp:=(qW wq (jy Ab))) Z a15 λF=>Ca F D3 Ex Ah Aw Ap En A5 D4;have B6:=fG Z a16 λF=>Cv F El;have Ia:=fG Z a17 λF=>Ck F;have E6:=fG Z a18 λF=>Cq F;have D1:=fG Z a19 λF=>CB F Ia E6 N0;have Ed:=fG Z a20 λF=>Co F B6 D1 Aw Az;have E1:=fG Z a21 λF=>Cz F;have Ar:=fGY (sp:=(jt jd (wL Ab))) Z a22 λF=>Cn F D2 Ed E1;have Ay:=fGY (sp:=(qW zD (zf Ad))) Z a23 λF=>Cb F A6 B0 Eo;have Au:=fGY (sp:=(qW ja (wK Af Ae Ag))) Z a24 λF=>PZ F Eu An Aw D8 B8 B7 Iv E2 E3;have Aq:=fM (sp:=(y8 (xy Aa))) Z E4 a25 λF=>PQ F Aw;have B5:zK l.prog w K mg base _ Aa _ (qN (qr Aa (xM Aa) (zG Af Ab Ad Ae Ag Aa)) (vG Aa)):=⟨_,_,PR F26 Au Ay Ar An Eh Ap Aq,⟨Nm,a26,i26,Nt⟩,b26⟩;have Eb:=fM (sp:=(qz (Qf Aa))) Z E4 a27 λF=>PU F E7;have A7:=fM (sp:=(y8 (vm Aa))) Z E4 a28 λF=>PY F;have A9:=fM (sp:=(qz (wp Aa))) Z E4 a29 λF=>PX F Ap;have Ep:zK l.prog w K mg base _ Ac _ (qN (qr Ac (qQ Ac Aa) (xG Ac Af Ab Ad Ae Ag Aa)) (zt Ac Aa)):=⟨_,_,ZT F30 B4 B5,⟨E8,a30,i30,Ib⟩,b30⟩;have Es:wO l.prog w K mg base _ Ac _ [.int 0] (qN (qr Ac (qQ Ac Aa) (xG Ac Af Ab Ad Ae Ag Aa)) (zt Ac Aa)):=⟨_,_,[(.int 0 tq30_1)],ZT F30 B4 B5,⟨E8,a30,i30,Ib⟩,Wv 3 (T:=T30) rfl q30 rfl rfl λus hl=>match us,hl with|[_,_,_],_=>⟨_,rfl,rfl⟩,(.cons ⟨_,rfl⟩ .nil)⟩;have Et:wO l.prog w K mg base _ Ac _ [.non,.int 0] (qN (qr Ac (qQ Ac Aa) (xG Ac Af Ab Ad Ae Ag Aa)) (zt Ac Aa)):=⟨_,_,[.none,(.int 0 tq30_1)],ZT F30 B4 B5,⟨E8,a30,i30,Ib⟩,Wv 2 (T:=T30) rfl q30 rfl rfl λus hl=>match us,hl with|[_,_],_=>⟨_,rfl,rfl⟩,(.cons rfl (.cons ⟨_,rfl⟩ .nil))⟩;have Ax:=fM (sp:=(y8 (zC Ac))) Z Iq a31 λF=>PM F;have Ee:=fM (sp:=(qz (Qd Ac))) Z Iq a32 λF=>PL F Ap;have Ea:=fM (sp:=(y8 (Qe Ac))) Z Iq a33 λF=>PN F;have Em:=fG Z a34 λF=>Ct F Aw Ap Az;have Ey:=fG (sp:=(spR (zM Af Ab Ad Ae Ag Ac Aa))) Z a35 λF=>CF F Ef Ah D7 B8 A5 B0 Eg B7 B3 B9 Ep Al Am Ao As Aj A3 At Av Ak A4;exact Cm F36 Iu Em Ec A8 Ey Aw Ap D7 Ee Ax Ea Eb A9 A7 Ep Es Et
theorem walk {l:PySem.W.OpenLaw}{q:Program}{loose:List Str}{XP:(Str->Option Value)->Heap->Prop}{YP:World->Heap->Prop}{d:DefRec}{K:Params->Fg}(hn:l.most=some 63)(hdf:d.params.defaults=[])(hY:∀ (w:World) (h:Heap),YP w h->(K w.params).In h)(F:∀ (w:World) (mg:Str->Option Value) (fa:Addr) (h:Heap),YP w h->(K w.params).In h->h.Ns mainGlobals mg->mg d.name=some (.ref fa) -> ∃ fd:FuncData,(∀ (s:Shared) (u:Value),BindsTo s fd ⟨[u],[]⟩ [("script",u)])/\vT (K w.params) h/\∀ base:Heap,(K w.params).In base->base.Ns mainGlobals mg->FnOk l.prog w (K w.params) mg base v8 10 fa fd ["script"] (Qw (K w.params))):PySem.W.WalkO q loose XP YP l.row.toRowW d [] (λf vs=>PySem.call f vs) :=
 L2.LM (n:=63) (k:=10) (x:="script") (CX:=λ_=>v8) (sp:=λw=>Qw (K w.params)) hn (by decide) hdf ⟨rfl,by decide,by decide⟩ hY F (λ_ _ a ns hl _ hS=>⟨a,ns,rfl,hS,hl,λ_=>rfl⟩) λ_ _ _ _ _ z=>z
end Lw
open PySem PySem.W PyProof.Rows
set_option maxRecDepth 100000 in
set_option maxHeartbeats 0 in
theorem PySem.Challenge.cw_rinsework_k80_house_not_made_holds : PySem.Challenge.rw_rinsework_k80_house_not_made.Holds := by
  w_on; o_law; k_head; (case hw => w_witness2)
  k_fill
  refine Lw.walk (l := PySem.Challenge.rw_rinsework_k80_house_not_made) rfl rfl (λw h Y => PySem.W.kIn_of Y) ?F
  case F =>
    intro w mg fa h Y KX G hmg
    apply Lw.all_mk KX (λ_ z => nomatch z) rfl G hmg
    iterate 8 k_is
    iterate 1 (apply Lw.FXI.i;(iterate 8 k_is);kernel_rfl)
    iterate 19 k_is
    iterate 25 (apply Lw.FG.i;iterate 4 k_is)
    iterate 1 (apply Lw.FM.i;iterate 5 k_is)
    iterate 6 k_is
    iterate 3 (apply Lw.FM.i;iterate 5 k_is)
    iterate 6 k_is
    iterate 3 (apply Lw.FM.i;iterate 5 k_is)
    iterate 2 (apply Lw.FG.i;iterate 4 k_is)
    iterate 23 k_is
    iterate 4 k_exc
    iterate 14 k_is
    iterate 2 kts_exm
    iterate 8 kit_is
