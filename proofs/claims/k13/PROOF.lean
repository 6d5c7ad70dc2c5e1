import PyProof.Rows.All
import Wide.All
import OpenK.AllK
import Wide.FinOn
import Lean
import PyProof.EqAt
import PyProof.EqKinds
import PyProof.NeKinds
import PyProof.TupleCall
import PySem.Challenge.RW_rinsework_k13_done_one_behind_the_other
set_option Elab.async false
set_option linter.all false
set_option maxRecDepth 100000
namespace PySem.W.Fast
theorem tw8131712011966179360:True:=trivial
theorem tw935146731284783168:True:=trivial
theorem tw4402285305843824768:True:=trivial
theorem tw4187370937067986048:True:=trivial
theorem tw236981548047247520:True:=trivial
theorem tw4002763806902037664:True:=trivial
theorem tw4551189065663231136:True:=trivial
theorem tw5219438017999602976:True:=trivial
theorem tw8648642310490102048:True:=trivial
theorem tw14985619434865924384:True:=trivial
theorem tw4145230794498474304:True:=trivial
theorem tw15708844448213975456:True:=trivial
theorem tw3006459292210308576:True:=trivial
theorem tw13151760610008063456:True:=trivial
theorem tw15026589787003170304:True:=trivial
theorem tw14493888464300068352:True:=trivial
theorem tw15190029911530581568:True:=trivial
theorem tw16937373815643551360:True:=trivial
theorem tw8727187870282164960:True:=trivial
theorem tw8403257005943442176:True:=trivial
theorem tw2081281849434026752:True:=trivial
theorem tw3760528798888157984:True:=trivial
theorem tw17039212473096275776:True:=trivial
theorem tw3299245188320369472:True:=trivial
theorem tw7063738127460331328:True:=trivial
theorem tw16864413563872210752:True:=trivial
theorem tw2993511553616415584:True:=trivial
theorem tw11977546202641930080:True:=trivial
theorem tw8949183664773507936:True:=trivial
theorem tw11754340048043612064:True:=trivial
theorem tw9519609241313595296:True:=trivial
theorem tw7576371243983882176:True:=trivial
theorem tw10613917841455488001:True:=trivial
theorem tw14493004596935312385:True:=trivial
theorem tw15017232773636606977:True:=trivial
theorem tw10136480573807863905:True:=trivial
theorem tw5014323506259809377:True:=trivial
theorem tw12107248428080786529:True:=trivial
theorem tw6849518182430245025:True:=trivial
theorem tw1309992695616391361:True:=trivial
theorem tw11232060047928257729:True:=trivial
theorem tw11031049700503127265:True:=trivial
theorem tw3206330717228698849:True:=trivial
theorem tw11964014596947602689:True:=trivial
theorem tw1763539103529914689:True:=trivial
theorem tw8893226542740804161:True:=trivial
theorem tw10708008633534299745:True:=trivial
theorem tw17548435506252793441:True:=trivial
theorem tw8840328241680422529:True:=trivial
theorem tw16694216388821365473:True:=trivial
theorem tw11821873844687841121:True:=trivial
theorem tw7749395216887256961:True:=trivial
theorem tw118923172944776161:True:=trivial
theorem tw13692378659573655586:True:=trivial
theorem tw13264842649336664130:True:=trivial
theorem tw16081742672974513250:True:=trivial
theorem tw10449259322372372674:True:=trivial
theorem tw10410407708377349346:True:=trivial
theorem tw14073768401698177314:True:=trivial
theorem tw11952079875161928034:True:=trivial
theorem tw9092922306182995330:True:=trivial
theorem tw8403309020497497570:True:=trivial
theorem tw5162455964563938:True:=trivial
theorem tw12399802114343716354:True:=trivial
theorem tw12170617101201536514:True:=trivial
theorem tw11044956446680343138:True:=trivial
theorem tw16103647047094477442:True:=trivial
theorem tw7787251568781260450:True:=trivial
theorem tw3162507029595265730:True:=trivial
theorem tw7303538740951705346:True:=trivial
theorem tw15933442611231349634:True:=trivial
theorem tw5857942306786081698:True:=trivial
theorem tw5712513470981318562:True:=trivial
theorem tw5036274003347079106:True:=trivial
theorem tw16273666078288347106:True:=trivial
theorem tw12831626820919493635:True:=trivial
theorem tw6854565850657939523:True:=trivial
theorem tw10533383007029746819:True:=trivial
theorem tw10434375965890711747:True:=trivial
theorem tw13935372368936121667:True:=trivial
theorem tw7132707710257310147:True:=trivial
theorem tw1340920645685321187:True:=trivial
theorem tw11707220173349527011:True:=trivial
theorem tw12771875472781961763:True:=trivial
theorem tw17840636590849599043:True:=trivial
theorem tw16438097630720147043:True:=trivial
theorem tw1447232543275978371:True:=trivial
theorem tw12470055185831043875:True:=trivial
theorem tw9133579406905618211:True:=trivial
theorem tw12911448167858192163:True:=trivial
theorem tw17689574820245622595:True:=trivial
theorem tw9146134291715317571:True:=trivial
theorem tw2329468835411734403:True:=trivial
theorem tw18340855518902239171:True:=trivial
theorem tw8327467289709509603:True:=trivial
theorem tw5905278471117427780:True:=trivial
theorem tw9466935922598640708:True:=trivial
theorem tw3985811509007623332:True:=trivial
theorem tw11888083786574726340:True:=trivial
theorem tw6844147380591055140:True:=trivial
theorem tw3625639068870709572:True:=trivial
theorem tw4485519364252139940:True:=trivial
theorem tw6992632414080200196:True:=trivial
theorem tw13631052026313344580:True:=trivial
theorem tw15202698971949473348:True:=trivial
theorem tw7737634173004884548:True:=trivial
theorem tw414164185766396548:True:=trivial
theorem tw1789139971619647332:True:=trivial
theorem tw18358153364043378693:True:=trivial
theorem tw15950098568910286981:True:=trivial
theorem tw1216135511929878693:True:=trivial
theorem tw15230777888835584197:True:=trivial
theorem tw2517684926882438341:True:=trivial
theorem tw806866607960058085:True:=trivial
theorem tw17399856677767096581:True:=trivial
theorem tw155074192907453701:True:=trivial
theorem tw2726494169151791365:True:=trivial
theorem tw462019912199337221:True:=trivial
theorem tw7890762746388244773:True:=trivial
theorem tw12497981625871100197:True:=trivial
theorem tw1145022397568925029:True:=trivial
theorem tw16803054665568184677:True:=trivial
theorem tw1569146838950341989:True:=trivial
theorem tw6331491537715196261:True:=trivial
theorem tw529390944018861669:True:=trivial
theorem tw14004550912943067749:True:=trivial
theorem tw17729749107379667813:True:=trivial
theorem tw1674440772955879301:True:=trivial
theorem tw17512848464696559525:True:=trivial
theorem tw658774569356686277:True:=trivial
theorem tw7389239166542531557:True:=trivial
theorem tw5290623261134272518:True:=trivial
theorem tw3210866324166659078:True:=trivial
theorem tw11158787775365781606:True:=trivial
theorem tw17004036213336283270:True:=trivial
theorem tw11471022449447158918:True:=trivial
theorem tw671677822034754758:True:=trivial
theorem tw9473371454986665158:True:=trivial
theorem tw4378253204492835046:True:=trivial
theorem tw9312983836958507270:True:=trivial
theorem tw16224834578726345126:True:=trivial
theorem tw336104094510944742:True:=trivial
theorem tw17879958725200094886:True:=trivial
theorem tw12055011363203776198:True:=trivial
theorem tw14226623365172614982:True:=trivial
theorem tw16226653162716861318:True:=trivial
theorem tw11009334959981691814:True:=trivial
theorem tw8804480344564588518:True:=trivial
theorem tw9973499972720340999:True:=trivial
theorem tw14332174593734399015:True:=trivial
theorem tw1002312249211317287:True:=trivial
theorem tw12300527221428453447:True:=trivial
theorem tw4209884050066644071:True:=trivial
theorem tw4919864883418282151:True:=trivial
theorem tw12155633541709464775:True:=trivial
theorem tw12672269355837840871:True:=trivial
theorem tw4915133321006391847:True:=trivial
theorem tw10291153857482599975:True:=trivial
theorem tw456793425032444455:True:=trivial
theorem tw4141819544243184199:True:=trivial
theorem tw14867156420220335687:True:=trivial
theorem tw15250044638044316231:True:=trivial
theorem tw15777859642634212007:True:=trivial
theorem tw6236887928641213095:True:=trivial
theorem tw9396937702061201063:True:=trivial
theorem tw9742993369289445191:True:=trivial
theorem tw13842780495432119207:True:=trivial
theorem tw17449555833988773799:True:=trivial
theorem tw18373797970761698312:True:=trivial
theorem tw10867146271305007176:True:=trivial
theorem tw16486521760546057320:True:=trivial
theorem tw12959763752294659240:True:=trivial
theorem tw13130246777460746408:True:=trivial
theorem tw6509067430386024680:True:=trivial
theorem tw14057880496241663336:True:=trivial
theorem tw13205710974160404872:True:=trivial
theorem tw960636573439113640:True:=trivial
theorem tw4995929586942043592:True:=trivial
theorem tw7387293441502333416:True:=trivial
theorem tw9077670247850874376:True:=trivial
theorem tw17633370740119422472:True:=trivial
theorem tw10945153629551281704:True:=trivial
theorem tw9311147204279054952:True:=trivial
theorem tw8305837264013399752:True:=trivial
theorem tw16190960770933666504:True:=trivial
theorem tw6931426917246073576:True:=trivial
theorem tw15158488764448571112:True:=trivial
theorem tw649882082261344104:True:=trivial
theorem tw279163031420125064:True:=trivial
theorem tw12815818813252211721:True:=trivial
theorem tw8565368322619585577:True:=trivial
theorem tw14549871752551011401:True:=trivial
theorem tw5288890390629068905:True:=trivial
theorem tw4784895658260604041:True:=trivial
theorem tw13733609885451139241:True:=trivial
theorem tw2378045283934128297:True:=trivial
theorem tw7054354765684443401:True:=trivial
theorem tw5688162571213778185:True:=trivial
theorem tw13213246246360467817:True:=trivial
theorem tw12458421118830349737:True:=trivial
theorem tw11454261225228625321:True:=trivial
theorem tw9319622578887438857:True:=trivial
theorem tw17813743497123751497:True:=trivial
theorem tw7095449499299546729:True:=trivial
theorem tw13262683339620762249:True:=trivial
theorem tw8195968792607952553:True:=trivial
theorem tw16706081869714062025:True:=trivial
theorem tw11705128225375152937:True:=trivial
theorem tw9729524974721123241:True:=trivial
theorem tw8976277304983479209:True:=trivial
theorem tw15958058326532744105:True:=trivial
theorem tw2929257019923213418:True:=trivial
theorem tw1737844029372052650:True:=trivial
theorem tw5948073615468078378:True:=trivial
theorem tw11181282415484284202:True:=trivial
theorem tw231787383419175242:True:=trivial
theorem tw12816414926451233130:True:=trivial
theorem tw15236574323206747498:True:=trivial
theorem tw16396577329611858378:True:=trivial
theorem tw15392205176700372458:True:=trivial
theorem tw11983634333345797642:True:=trivial
theorem tw4856717353333971498:True:=trivial
theorem tw13850208298324382410:True:=trivial
theorem tw13089825995414037258:True:=trivial
theorem tw9401923036083714954:True:=trivial
theorem tw4890890424281693098:True:=trivial
theorem tw9054589253868810283:True:=trivial
theorem tw12177151252561152139:True:=trivial
theorem tw2546251799096857899:True:=trivial
theorem tw6860502247275140427:True:=trivial
theorem tw17683389490984625515:True:=trivial
theorem tw2228279854483293579:True:=trivial
theorem tw2792615750297245163:True:=trivial
theorem tw4170652881679410667:True:=trivial
theorem tw988158073693564395:True:=trivial
theorem tw8883614318247709195:True:=trivial
theorem tw3781968112649924299:True:=trivial
theorem tw12240414895065700107:True:=trivial
theorem tw18434302588713814795:True:=trivial
theorem tw14068436417641350955:True:=trivial
theorem tw15165389722977078187:True:=trivial
theorem tw16236566944529405867:True:=trivial
theorem tw10938921416209939403:True:=trivial
theorem tw3395949144101537739:True:=trivial
theorem tw11683351210319803371:True:=trivial
theorem tw9845003416035643532:True:=trivial
theorem tw8592447111360591180:True:=trivial
theorem tw8141708281469714796:True:=trivial
theorem tw17294141827602014572:True:=trivial
theorem tw11405135498841834892:True:=trivial
theorem tw1140917816299178444:True:=trivial
theorem tw1454439760225966572:True:=trivial
theorem tw980598279871092268:True:=trivial
theorem tw6876918346530115116:True:=trivial
theorem tw1932465262499376812:True:=trivial
theorem tw15743393382350706348:True:=trivial
theorem tw4040403493583259372:True:=trivial
theorem tw3111295705212606188:True:=trivial
theorem tw5077241017472616236:True:=trivial
theorem tw7886919454893543372:True:=trivial
theorem tw4530293642285430797:True:=trivial
theorem tw7973014971473636493:True:=trivial
theorem tw14436345538652455085:True:=trivial
theorem tw955253531913534669:True:=trivial
theorem tw6095705333326594285:True:=trivial
theorem tw13771313304159783277:True:=trivial
theorem tw10696532161996920237:True:=trivial
theorem tw3505082965695893965:True:=trivial
theorem tw2627433400369349101:True:=trivial
theorem tw16610275611414419117:True:=trivial
theorem tw3218928867545594573:True:=trivial
theorem tw1689886248182881005:True:=trivial
theorem tw6536008189475296013:True:=trivial
theorem tw1634279477034113805:True:=trivial
theorem tw13265712658674326445:True:=trivial
theorem tw12776425640285038573:True:=trivial
theorem tw2389613164973621294:True:=trivial
theorem tw11188547222474507310:True:=trivial
theorem tw11365012353207232558:True:=trivial
theorem tw1949803091835287662:True:=trivial
theorem tw15726405976905650318:True:=trivial
theorem tw8598949722254746766:True:=trivial
theorem tw16842092521339887790:True:=trivial
theorem tw7949839522005430446:True:=trivial
theorem tw17639624371299706158:True:=trivial
theorem tw17153194607055608174:True:=trivial
theorem tw13106123401737368942:True:=trivial
theorem tw13786678628665617806:True:=trivial
theorem tw8569725565024730606:True:=trivial
theorem tw4904772699703752206:True:=trivial
theorem tw743809070332872238:True:=trivial
theorem tw11562708409771435630:True:=trivial
theorem tw13535724972515766894:True:=trivial
theorem tw16998233486915424942:True:=trivial
theorem tw9253019492225218286:True:=trivial
theorem tw533954606580035342:True:=trivial
theorem tw5699244728729243438:True:=trivial
theorem tw167908776293367726:True:=trivial
theorem tw6654788111589330926:True:=trivial
theorem tw12710186394107619343:True:=trivial
theorem tw7506078574561898543:True:=trivial
theorem tw3128904476929571887:True:=trivial
theorem tw1441905325959504943:True:=trivial
theorem tw16297442260338634927:True:=trivial
theorem tw700503373272385775:True:=trivial
theorem tw8883250206757937455:True:=trivial
theorem tw5185401146725325167:True:=trivial
theorem tw17195336340065245647:True:=trivial
theorem tw6822395896722031055:True:=trivial
theorem tw11260731527261107791:True:=trivial
theorem tw13706025625368715887:True:=trivial
theorem tw8182229809709368975:True:=trivial
theorem tw10117118592210716335:True:=trivial
theorem tw8282318322247094959:True:=trivial
theorem tw10801935962547890895:True:=trivial
theorem tw16527033705389394831:True:=trivial
theorem tw14269272143414882191:True:=trivial
theorem tw4917787668859944847:True:=trivial
theorem tw6637048704771474415:True:=trivial
theorem tw649218141737469935:True:=trivial
theorem tw7493193594308889680:True:=trivial
theorem tw9305763542611790928:True:=trivial
theorem tw11409737493890112688:True:=trivial
theorem tw18327678869028414736:True:=trivial
theorem tw12856881666206546352:True:=trivial
theorem tw1095718199393412624:True:=trivial
theorem tw36998554778883664:True:=trivial
theorem tw3520031964216711792:True:=trivial
theorem tw5079851690391944880:True:=trivial
theorem tw17478406863295056624:True:=trivial
theorem tw15394068471304506192:True:=trivial
theorem tw7849052753494342480:True:=trivial
theorem tw1890064486654200752:True:=trivial
theorem tw15721372258204212144:True:=trivial
theorem tw11364625869064382448:True:=trivial
theorem tw17917052754743549936:True:=trivial
theorem tw16120157761803267089:True:=trivial
theorem tw8738012025977819217:True:=trivial
theorem tw4384092272250392689:True:=trivial
theorem tw2134231890224818353:True:=trivial
theorem tw16977146777264911601:True:=trivial
theorem tw1499403183096992049:True:=trivial
theorem tw14354988088120847665:True:=trivial
theorem tw13821490511310457169:True:=trivial
theorem tw9517031438135431537:True:=trivial
theorem tw5588677580307079665:True:=trivial
theorem tw7334873713621967377:True:=trivial
theorem tw15591494088224281137:True:=trivial
theorem tw2885856765048954513:True:=trivial
theorem tw7183933403859500753:True:=trivial
theorem tw3545281036473298673:True:=trivial
theorem tw7216124279682943761:True:=trivial
theorem tw18178058703892302705:True:=trivial
theorem tw4695662436141773713:True:=trivial
theorem tw10037597081702806449:True:=trivial
theorem tw6303903354137564081:True:=trivial
theorem tw5815918777620655089:True:=trivial
theorem tw8370408563631104018:True:=trivial
theorem tw2312648722400971922:True:=trivial
theorem tw5403769841568311538:True:=trivial
theorem tw16586340881517239634:True:=trivial
theorem tw17725340166605133202:True:=trivial
theorem tw8081729470952855954:True:=trivial
theorem tw10534207550261693874:True:=trivial
theorem tw5043029412970345970:True:=trivial
theorem tw17305066353202096658:True:=trivial
theorem tw13426243249532989042:True:=trivial
theorem tw15844595267968911058:True:=trivial
theorem tw5857826518156216050:True:=trivial
theorem tw11462769849810367346:True:=trivial
theorem tw4148859162262302578:True:=trivial
theorem tw17459007095694720882:True:=trivial
theorem tw882294967595251763:True:=trivial
theorem tw18307151524950058067:True:=trivial
theorem tw1057982181497657587:True:=trivial
theorem tw5016663314918608179:True:=trivial
theorem tw4999798722966933811:True:=trivial
theorem tw1123656669644415315:True:=trivial
theorem tw11249665059976069491:True:=trivial
theorem tw13305573062114567603:True:=trivial
theorem tw9159845795474970067:True:=trivial
theorem tw17245101329472247315:True:=trivial
theorem tw12566915492263446099:True:=trivial
theorem tw13743463659195229843:True:=trivial
theorem tw5305341077174608595:True:=trivial
theorem tw8069917533855247059:True:=trivial
theorem tw13181423250616042227:True:=trivial
theorem tw5560779588828358483:True:=trivial
theorem tw3320608949556189043:True:=trivial
theorem tw7440103606128676723:True:=trivial
theorem tw12753551440651400083:True:=trivial
theorem tw3655007837344345011:True:=trivial
theorem tw5623218704105526227:True:=trivial
theorem tw12452490916302608371:True:=trivial
theorem tw4184981805586866196:True:=trivial
theorem tw6933232122783601940:True:=trivial
theorem tw11802210335254854964:True:=trivial
theorem tw11474146716294924596:True:=trivial
theorem tw9988674920399459636:True:=trivial
theorem tw16732354388712462676:True:=trivial
theorem tw6142771580830928212:True:=trivial
theorem tw11922786712420206964:True:=trivial
theorem tw6568297456576488852:True:=trivial
theorem tw12046778583790378484:True:=trivial
theorem tw4176131910192677428:True:=trivial
theorem tw10758396407201920692:True:=trivial
theorem tw7924411360873913076:True:=trivial
theorem tw9111987762127482612:True:=trivial
theorem tw8527271012491577108:True:=trivial
theorem tw4973737344420226868:True:=trivial
theorem tw6819275867998635828:True:=trivial
theorem tw14538017964837045076:True:=trivial
theorem tw4095958688268739444:True:=trivial
theorem tw10513635042238230388:True:=trivial
theorem tw15426723085875145620:True:=trivial
theorem tw14029887713958050740:True:=trivial
theorem tw14138056672069468084:True:=trivial
theorem tw12349604519761996724:True:=trivial
theorem tw17180675135151357973:True:=trivial
theorem tw6888898366574911509:True:=trivial
theorem tw8138238150450606101:True:=trivial
theorem tw10422521943949475893:True:=trivial
theorem tw5594409015642333237:True:=trivial
theorem tw8054919865368922197:True:=trivial
theorem tw17431116565687766133:True:=trivial
theorem tw2348577005302133909:True:=trivial
theorem tw8292794735545885877:True:=trivial
theorem tw17872654898289608917:True:=trivial
theorem tw659130895849306325:True:=trivial
theorem tw16247142125246865653:True:=trivial
theorem tw7011143018481385813:True:=trivial
theorem tw6986226595138595221:True:=trivial
theorem tw3903237720114911669:True:=trivial
theorem tw1582182192945897013:True:=trivial
theorem tw16719888616271065653:True:=trivial
theorem tw8172755602037999189:True:=trivial
theorem tw8458687525898264149:True:=trivial
theorem tw15296030503938949813:True:=trivial
theorem tw15421761702473769653:True:=trivial
theorem tw14754521209393395381:True:=trivial
theorem tw17046515265500729045:True:=trivial
theorem tw362547608481880789:True:=trivial
theorem tw5368543111725268853:True:=trivial
theorem tw11282975753331195797:True:=trivial
theorem tw488401931886947221:True:=trivial
theorem tw13257622238092925877:True:=trivial
theorem tw6767707075511529461:True:=trivial
theorem tw340936072752762902:True:=trivial
theorem tw15746567076192082038:True:=trivial
theorem tw13211661790158325910:True:=trivial
theorem tw8752504848058945686:True:=trivial
theorem tw7757295173605551286:True:=trivial
theorem tw8006884811234131158:True:=trivial
theorem tw13903124905001873718:True:=trivial
theorem tw17125894852307694934:True:=trivial
theorem tw15317873545739221494:True:=trivial
theorem tw4387016998553066006:True:=trivial
theorem tw18184737568050727446:True:=trivial
theorem tw18003144469890701974:True:=trivial
theorem tw15874791430226473622:True:=trivial
theorem tw12514693357831575222:True:=trivial
theorem tw17521840253778641654:True:=trivial
theorem tw4844044807012812630:True:=trivial
theorem tw13741284199270126422:True:=trivial
theorem tw1864406928387927030:True:=trivial
theorem tw12948420327001294903:True:=trivial
theorem tw8443172577652384887:True:=trivial
theorem tw9192091612189124727:True:=trivial
theorem tw15946503973442729111:True:=trivial
theorem tw6162528333767943351:True:=trivial
theorem tw9149828707964744887:True:=trivial
theorem tw16882688626328129847:True:=trivial
theorem tw5246774401482174903:True:=trivial
theorem tw4008027762844360119:True:=trivial
theorem tw7277775691586919959:True:=trivial
theorem tw5168087071715129911:True:=trivial
theorem tw12479961450961604215:True:=trivial
theorem tw5088689215096806007:True:=trivial
theorem tw13459906762896943831:True:=trivial
theorem tw5882417996157418263:True:=trivial
theorem tw161031437401416567:True:=trivial
theorem tw12627028602921194391:True:=trivial
theorem tw3090420862180638615:True:=trivial
theorem tw14878994318293950391:True:=trivial
theorem tw6139974511861822391:True:=trivial
theorem tw3573284745376959544:True:=trivial
theorem tw7664741342943986776:True:=trivial
theorem tw233926482135548056:True:=trivial
theorem tw17120608065119009976:True:=trivial
theorem tw17469433416422905112:True:=trivial
theorem tw10518952821192845688:True:=trivial
theorem tw6022116787972755960:True:=trivial
theorem tw6944308064650157592:True:=trivial
theorem tw9251824164321390136:True:=trivial
theorem tw3385917758140460696:True:=trivial
theorem tw6703504713971763896:True:=trivial
theorem tw2563463487871726264:True:=trivial
theorem tw6537683028902802104:True:=trivial
theorem tw5323241261092383448:True:=trivial
theorem tw11356661311546431256:True:=trivial
theorem tw1912326405122184984:True:=trivial
theorem tw16563553234566077304:True:=trivial
theorem tw17297175995857024920:True:=trivial
theorem tw9276950191290859416:True:=trivial
theorem tw1570344287611067352:True:=trivial
theorem tw13275100872051868632:True:=trivial
theorem tw13512784032068734968:True:=trivial
theorem tw4386523852046671897:True:=trivial
theorem tw16669424041992368217:True:=trivial
theorem tw18412732941963125849:True:=trivial
theorem tw11442969929349149945:True:=trivial
theorem tw6376869611909011737:True:=trivial
theorem tw7248380965813555545:True:=trivial
theorem tw6656327302312490361:True:=trivial
theorem tw16586803549526254009:True:=trivial
theorem tw13866300637599142361:True:=trivial
theorem tw5226761975140391385:True:=trivial
theorem tw2643681644811812377:True:=trivial
theorem tw11044936250886384249:True:=trivial
theorem tw15364206648356805337:True:=trivial
theorem tw4022528507521992441:True:=trivial
theorem tw2277604136703168249:True:=trivial
theorem tw526420806902184761:True:=trivial
theorem tw8067310184677882713:True:=trivial
theorem tw5748238757166507929:True:=trivial
theorem tw3321820289887948697:True:=trivial
theorem tw7164912362187614137:True:=trivial
theorem tw6228844138038609978:True:=trivial
theorem tw6340867759959719034:True:=trivial
theorem tw4660272205972719770:True:=trivial
theorem tw11771599622604646842:True:=trivial
theorem tw17536166695667706330:True:=trivial
theorem tw16124621063173135898:True:=trivial
theorem tw11974522290874806906:True:=trivial
theorem tw16150420832131490554:True:=trivial
theorem tw12268168225760550714:True:=trivial
theorem tw7146281040246597434:True:=trivial
theorem tw13789197980447812442:True:=trivial
theorem tw17812691958313323482:True:=trivial
theorem tw10733912971344124890:True:=trivial
theorem tw15991126956923604986:True:=trivial
theorem tw519078397108174971:True:=trivial
theorem tw14887236257511708827:True:=trivial
theorem tw16465725197813967003:True:=trivial
theorem tw6207444023406040283:True:=trivial
theorem tw6460855710657052955:True:=trivial
theorem tw950129345980713307:True:=trivial
theorem tw17710419230557094267:True:=trivial
theorem tw1042923561590965659:True:=trivial
theorem tw6335678829010652731:True:=trivial
theorem tw9872257078856946235:True:=trivial
theorem tw11376737908000455259:True:=trivial
theorem tw6018628862371239611:True:=trivial
theorem tw956255704122527579:True:=trivial
theorem tw17422088978803950587:True:=trivial
theorem tw15985669235943409692:True:=trivial
theorem tw9898034821655281820:True:=trivial
theorem tw6762309493560818940:True:=trivial
theorem tw8033287720526802204:True:=trivial
theorem tw10841072504797352316:True:=trivial
theorem tw3008700375748111804:True:=trivial
theorem tw10531690544909594076:True:=trivial
theorem tw503697577484727964:True:=trivial
theorem tw12495391571840694076:True:=trivial
theorem tw6350533382991763292:True:=trivial
theorem tw6281448375213468540:True:=trivial
theorem tw8775569076973256572:True:=trivial
theorem tw2060194923589413788:True:=trivial
theorem tw7911824409672805276:True:=trivial
theorem tw348369102885498844:True:=trivial
theorem tw17374707088243414077:True:=trivial
theorem tw641083552618542141:True:=trivial
theorem tw11463036632350851197:True:=trivial
theorem tw13769440583562696893:True:=trivial
theorem tw10267173178640843037:True:=trivial
theorem tw10816534209860334909:True:=trivial
theorem tw5201022246749608349:True:=trivial
theorem tw7620685061154250141:True:=trivial
theorem tw4494113285857086909:True:=trivial
theorem tw418665876222681533:True:=trivial
theorem tw464769039700168253:True:=trivial
theorem tw8816627420105258557:True:=trivial
theorem tw12329164065079620221:True:=trivial
theorem tw15641102247454672541:True:=trivial
theorem tw12304688196330990269:True:=trivial
theorem tw16247437117191412445:True:=trivial
theorem tw14209415937850754813:True:=trivial
theorem tw623658357997113117:True:=trivial
theorem tw5642447887585859517:True:=trivial
theorem tw17810183670465465309:True:=trivial
theorem tw17657444656626494494:True:=trivial
theorem tw9924165839833489502:True:=trivial
theorem tw11071008129213060222:True:=trivial
theorem tw14585024587503726718:True:=trivial
theorem tw8093674514056628414:True:=trivial
theorem tw7437338813119122686:True:=trivial
theorem tw9412951460007017758:True:=trivial
theorem tw14001047367778567486:True:=trivial
theorem tw14215873093808857502:True:=trivial
theorem tw6702310793401269662:True:=trivial
theorem tw7688291825027450302:True:=trivial
theorem tw2590313914376665566:True:=trivial
theorem tw7843777745268919774:True:=trivial
theorem tw3866276357772504670:True:=trivial
theorem tw7755173538625089182:True:=trivial
theorem tw15948678749212602014:True:=trivial
theorem tw9039047086240415422:True:=trivial
theorem tw474326869476964158:True:=trivial
theorem tw1214974381750446974:True:=trivial
theorem tw16663605012395242398:True:=trivial
theorem tw9675907854264522654:True:=trivial
theorem tw11677548091677861854:True:=trivial
theorem tw7882484332657740798:True:=trivial
theorem tw6474003364499820575:True:=trivial
theorem tw7536557322508679199:True:=trivial
theorem tw1860885142235326527:True:=trivial
theorem tw6436877179510328447:True:=trivial
theorem tw17971709067476614271:True:=trivial
theorem tw631857061048074527:True:=trivial
theorem tw109293547742771519:True:=trivial
theorem tw10257756191408149823:True:=trivial
theorem tw13946841583007581599:True:=trivial
theorem tw15186321002535700127:True:=trivial
theorem tw386234181623889727:True:=trivial
theorem tw17938986918800214847:True:=trivial
theorem tw15478698202155116383:True:=trivial
end PySem.W.Fast
namespace L2
open PySem PySem.Spec PyProof.Rows
abbrev Key:=Sum Int Str
def qqp:Key->Value->Bool
 | .inl k,v=>Value.isInt k v
 | .inr x,v=>Value.isStrOf x v
def keyH (w:World):Key->Int
 | .inl k=>hashInt k
 | .inr x=>hashStr w x
theorem qb1:∀ {k:Key} {v:Value},qqp k v=true->(∃ i t,k=Sum.inl i/\v=Value.int i t) ∨ (∃ x t,k=Sum.inr x/\v=Value.str x t)
 | .inl i,v,h=>by
  obtain ⟨t,e⟩:=Value.isInt_shape (k:=i) (v:=v) h
  exact .inl ⟨i,t,rfl,e⟩
 | .inr x,v,h=>by
  obtain ⟨t,e⟩:=Value.isStrOf_shape (x:=x) (v:=v) h
  exact .inr ⟨x,t,rfl,e⟩
theorem qwe (i:Int) (t:Tok):qqp (.inl i) (.int i t)=true:=by simp [qqp,Value.isInt]
theorem qo4 (x:Str) (t:Tok):qqp (.inr x) (.str x t)=true:=by simp [qqp,Value.isStrOf]
theorem key_ll (a b:Int):decide ((Sum.inl a:Key)=Sum.inl b)=(a == b):=by
 by_cases e:a=b
 ·subst e;simp
 ·have h:¬ (Sum.inl a:Key)=Sum.inl b:=fun q=>e (Sum.inl.inj q)
  rw [decide_eq_false h]
  exact (beq_eq_false_iff_ne.mpr e).symm
theorem key_rr (a b:Str):decide ((Sum.inr a:Key)=Sum.inr b)=decide (a=b):=by
 by_cases e:a=b
 ·subst e;simp
 ·have h:¬ (Sum.inr a:Key)=Sum.inr b:=fun q=>e (Sum.inr.inj q)
  rw [decide_eq_false h,decide_eq_false e]
theorem key_lr (a:Int) (b:Str):decide ((Sum.inl a:Key)=Sum.inr b)=false:=decide_eq_false (fun q=>nomatch q)
theorem key_rl (a:Str) (b:Int):decide ((Sum.inr a:Key)=Sum.inl b)=false:=decide_eq_false (fun q=>nomatch q)

def qbq (prog:Program) (w:World):PySem.KeyKind prog w Key where
 is:=qqp
 hash:=keyH w
 inj:=fun v a b ha hb=>by
  rcases qb1 ha with ⟨i,t,rfl,rfl⟩ | ⟨x,t,rfl,rfl⟩
  ·rcases qb1 hb with ⟨j,u,rfl,e⟩ | ⟨y,u,rfl,e⟩
   ·injection e with e1 _;rw [e1]
   ·exact nomatch e
  ·rcases qb1 hb with ⟨j,u,rfl,e⟩ | ⟨y,u,rfl,e⟩
   ·exact nomatch e
   ·injection e with e1 _;rw [e1]
 byValue:=fun k v h=>by
  rcases qb1 h with ⟨i,t,rfl,rfl⟩ | ⟨x,t,rfl,rfl⟩ <;> rfl
 pyHash:=fun hv h=>by
  rcases qb1 hv with ⟨i,t,rfl,rfl⟩ | ⟨x,t,rfl,rfl⟩
  ·exact wpAny_pyHash_int h
  ·exact wpAny_pyHash_str h
 eqBool:=fun hu hv h=>by
  rcases qb1 hu with ⟨i,t,rfl,rfl⟩ | ⟨x,t,rfl,rfl⟩
  ·rcases qb1 hv with ⟨j,u,rfl,rfl⟩ | ⟨y,u,rfl,rfl⟩
   ·rw [key_ll] at h;exact wpAny_eqBool_int h
   ·rw [key_lr] at h;exact SeqAt.EqAt.int_str i t y u _ _ _ _ h
  ·rcases qb1 hv with ⟨j,u,rfl,rfl⟩ | ⟨y,u,rfl,rfl⟩
   ·rw [key_rl] at h;exact SeqAt.EqAt.str_int x t j u _ _ _ _ h
   ·rw [key_rr] at h;exact wpAny_eqBool_str h
 «strs»:=fun k x t v h=>by
  rcases qb1 h with ⟨i,u,rfl,e⟩ | ⟨y,u,rfl,e⟩
  ·exact nomatch e
  ·injection e with e1 _
   subst e1
   cases v <;> rfl

theorem qqk (prog:Program) (w:World) (i:Int) (t:Tok):(qbq prog w).is (.inl i) (.int i t)=true:=qwe i t
theorem qg1 (prog:Program) (w:World) (x:Str) (t:Tok):(qbq prog w).is (.inr x) (.str x t)=true:=qo4 x t
end L2
namespace L2
open PySem PySem.Spec PyProof.Rows
inductive V where
 | non | bl (b:Bool) | int (i:Int) | str (x:Str) | byt (b:Array UInt8) | flt (b:UInt64) | ref (a:Addr) | ty (n:String)
 deriving DecidableEq

def RelV:V->Value->Prop
 | .non,u=>u=Value.none
 | .bl b,u=>u=Value.bool b
 | .int i,u=>∃ t,u=Value.int i t
 | .str x,u=>∃ t,u=Value.str x t
 | .byt b,u=>∃ t,u=Value.bytes b t
 | .flt b,u=>∃ t,u=Value.float b t
 | .ref a,u=>u=Value.ref a
 | .ty n,u=>u=Value.type n

abbrev Vals:List V->List Value->Prop:=Paired RelV
theorem Vals.length {xs:List V} {us:List Value} (r:Vals xs us):xs.length=us.length:=Paired.length r
theorem Vals.get:∀ {xs:List V} {us:List Value} {i:Nat} {x:V},Vals xs us->xs[i]?=some x->∃ u,us[i]?=some u/\RelV x u
 | _,_,_,_,.nil,e=>by simp at e
 | _,_,0,_,.cons r _,e=>by simp at e;subst e;exact ⟨_,rfl,r⟩
 | _,_,i + 1,x,.cons _ t,e=>by
  obtain ⟨u,h1,h2⟩:=Vals.get (i:=i) (x:=x) t (by simpa using e)
  exact ⟨u,by simpa using h1,h2⟩
theorem Vals.set {x:V} {u:Value} (r:RelV x u):∀ {xs:List V} {us:List Value} (i:Nat),Vals xs us->Vals (xs.set i x) (us.set i u)
 | _,_,_,.nil=> .nil
 | _,_,0,.cons _ t=> .cons r t
 | _,_,i + 1,.cons q t=> .cons q (Vals.set r i t)
theorem Vals.append:∀ {xs ys:List V} {us ws:List Value},Vals xs us->Vals ys ws->Vals (xs++ys) (us++ws)
 | _,_,_,_,.nil,s=>s
 | _,_,_,_,.cons r t,s=> .cons r (Vals.append t s)
theorem Vals.take:∀ {xs:List V} {us:List Value} (n:Nat),Vals xs us->Vals (xs.take n) (us.take n)
 | _,_,0,_=> .nil
 | _,_,_ + 1,.nil=> .nil
 | _,_,n + 1,.cons r t=> .cons r (Vals.take n t)
theorem Vals.drop:∀ {xs:List V} {us:List Value} (n:Nat),Vals xs us->Vals (xs.drop n) (us.drop n)
 | _,_,0,r=>r
 | _,_,_ + 1,.nil=> .nil
 | _,_,n + 1,.cons _ t=>Vals.drop n t
def RelO:Option V->Option Value->Prop
 | some v,some u=>RelV v u
 | none,none=>True
 | _,_=>False
def KV {κ:Type}:List (κ × V)->List (κ × Value)->Prop:=Paired fun (p:κ × V) (q:κ × Value)=>p.1=q.1/\RelV p.2 q.2

def kV:Key->V
 | .inl i=> .int i
 | .inr x=> .str x

inductive HO where
 /-- a list -/
 | lst (xs:List V)
 /-- a tuple (never changes) -/
 | tup (xs:List V)
 /-- a dict whose keys are ints and texts;one whose keys are tuples of ints and texts (the empty one is both) -/
 | dK (kvs:List (Key × V)) | dT (kvs:List (List Key × V))
 /-- a set of ints: its members,its size -/
 | set (S:Int->Bool) (n:Nat)
 /-- an instance of the class at C,its dict at dx,its attributes -/
 | ins (C dx:Addr) (fs:List (Str × V))
 /-- the dict of the instance at x -/
 | own (x:Addr)
 /-- the dict of an exception -/
 | xd (fs:List (Str × V))
 /-- a bound method,f of x -/
 | met (f x:Addr)
 /-- a range object lo,lo + 1,.. below hi -/
 | rng (lo hi:Int)
 /-- a thing that is known to the object (the script;a dict while a loop walks it): read,never written while it is so -/
 | frz (o:Obj) (u:HO)
 /-- a code object's table -/
 | tbl (ps:Array Value)
 /-- any other thing,by what is true of its one object (a def of one's own: SetO a S n:=HO.ext fun h=> ..) -/
 | ext (φ:Heap->Prop)

abbrev Hp:=Addr->Option HO
def upd (H:Hp) (a:Addr) (o:HO):Hp:=fun b=>if b=a then some o else H b
theorem qan {H:Hp} {a:Addr} {o:HO}:upd H a o a=some o:=by unfold upd;rw [if_pos rfl]
theorem qam {H:Hp} {a b:Addr} {o:HO} (h:b ≠ a):upd H a o b=H b:=by unfold upd;rw [if_neg h]
theorem ne_of {H:Hp} {a b:Addr} {o u:HO} (h:H a=some o) (h':H b=some u) (d:o ≠ u):a ≠ b:=by
 intro e;subst e;rw [h] at h';exact d (Option.some.inj h')
theorem qai {H:Hp} {a b:Addr} {o:HO} (h:H a=some o) (h':H b=none):a ≠ b:=by
 intro e;subst e;rw [h] at h';cases h'

section
variable (P:Program) (w:World)
def ObjOk (H:Hp) (h:Heap) (a:Addr):HO->Prop
 | .lst xs=>xs.length<=sizeLine/\∃ (its:List Value) (n:Nat),Vals xs its/\h.get? a=some { cls:= .type "list",data:= .seq its.toArray n }
 | .tup xs=>xs.length<=sizeLine/\∃ its:List Value,Vals xs its/\IsTup h a its.toArray
 | .dK kvs=>kvs.length<=sizeLine/\(a == sysModules)=false/\∃ vs,KV kvs vs/\h.DictOf (qbq P w) a vs
 | .dT kvs=>kvs.length<=sizeLine/\(a == sysModules)=false/\∃ xs:List (List Key × Addr × Value),
   Paired (fun (p:List Key × V) (q:List Key × Addr × Value)=>p.1=q.1/\H q.2.1=some (.tup (p.1.map kV))/\RelV p.2 q.2.2) kvs xs /\
   ∃ o es ep,h.get? a=some o/\o.ExactDict/\o.data = .dict es ep/\es.toList=xs.map (entryOfKey (tupleKind (qbq P w)))/\(xs.map (·.1)).Nodup
 | .set S n=>h.SetOf (intKind P w) a S n
 | .ins C dx fs=>H dx=some (.own a)/\fs.length<=1000/\dx ≠ a/\h.get? a=some (PySem.W.instObj C dx) /\
   ∃ mA,h.Ns1 dx mA/\(∀ f,RelO (fs.lookup f) (mA f))/\PySem.Within mA (fs.map (·.1))
 | .own _=>∃ o,h.get? a=some o
 | .xd fs=>∃ mA,h.Ns1 a mA/\∀ f,RelO (fs.lookup f) (mA f)
 | .rng lo hi=>∃ t u v,h.get? a=some { cls:= .type "range",data:= .fields #[.int lo t,.int hi u,.int 1 v] }
 | .frz o u=>h.get? a=some o/\ObjOk H h a u
 | .tbl ps=>h.get? a=some { cls:= .none,data:= .fields ps }
 | .met f x=>h.get? a=some (PySem.W.methodObj (.ref f) (.ref x))
 | .ext φ=>φ h/\(∃ o,h.get? a=some o)/\∀ h1 h2:Heap,φ h1->(∀ o,h1.get? a=some o->h2.get? a=some o)->φ h2
def HOk (H:Hp) (h:Heap):Prop:=∀ a o,H a=some o->ObjOk P w H h a o
end
section
variable {P:Program} {w:World} {H H':Hp} {h h':Heap} {a:Addr} {o:HO}
theorem ObjOk.lt (x:ObjOk P w H h a o):a < h.objs.size:=by
 cases o with
 | lst xs=>obtain ⟨_,_,_,_,e⟩:=x;exact Heap.lt_size e
 | tup xs=>obtain ⟨_,_,_,p⟩:=x;exact p.lt
 | dK kvs=>obtain ⟨_,_,_,_,o,_,_,e,_⟩:=x;exact Heap.lt_size e
 | dT kvs=>obtain ⟨_,_,_,_,o,_,_,e,_⟩:=x;exact Heap.lt_size e
 | set S n=>obtain ⟨o,_,_,_,e,_⟩:=x;exact Heap.lt_size e
 | ins C dx fs=>obtain ⟨_,_,_,e,_⟩:=x;exact Heap.lt_size e
 | own y=>obtain ⟨_,e⟩:=x;exact Heap.lt_size e
 | xd fs=>obtain ⟨_,⟨_,_,_,e,_⟩,_⟩:=x;exact Heap.lt_size e
 | rng lo hi=>obtain ⟨_,_,_,e⟩:=x;exact Heap.lt_size e
 | frz ob u=>obtain ⟨e,_⟩:=x;exact Heap.lt_size e
 | tbl ps=>exact Heap.lt_size (show h.get? a=some _ from x)
 | met f y=>exact Heap.lt_size (show h.get? a=some _ from x)
 | ext φ=>obtain ⟨_,⟨_,e⟩,_⟩:=x;exact Heap.lt_size e
theorem Paired.mapP {α β:Type} {F G:α->β->Prop}:∀ {l₁:List α} {l₂:List β},Paired F l₁ l₂->(∀ a b,F a b->G a b)->Paired G l₁ l₂
 | _,_,.nil,_=> .nil
 | _,_,.cons r t,f=> .cons (f _ _ r) (Paired.mapP t f)
theorem ObjOk.stay (x:ObjOk P w H h a o) (k:∀ b u,(b=a ∨ H b=some (.own a))->h.get? b=some u->h'.get? b=some u)
  (ho:∀ b,H b=some (.own a)->H' b=some (.own a)) (ht:∀ b xs,H b=some (.tup xs)->H' b=some (.tup xs)):ObjOk P w H' h' a o:=by
 induction o with
 | lst xs=>obtain ⟨z,its,n,r,e⟩:=x;exact ⟨z,its,n,r,k _ _ (.inl rfl) e⟩
 | tup xs=>obtain ⟨z,its,r,ob,e,c⟩:=x;exact ⟨z,its,r,ob,k _ _ (.inl rfl) e,c⟩
 | dK kvs=>obtain ⟨z,y,vs,r,ob,es,ep,e,c⟩:=x;exact ⟨z,y,vs,r,ob,es,ep,k _ _ (.inl rfl) e,c⟩
 | dT kvs =>
  obtain ⟨z,y,xs,r,ob,es,ep,e,c⟩:=x
  exact ⟨z,y,xs,Paired.mapP r fun p q z=>⟨z.1,ht _ _ z.2.1,z.2.2⟩,ob,es,ep,k _ _ (.inl rfl) e,c⟩
 | set S n=>obtain ⟨ob,es,ep,t,e,c⟩:=x;exact ⟨ob,es,ep,t,k _ _ (.inl rfl) e,c⟩
 | ins C dx fs =>
  obtain ⟨d,z,ne,e,mA,⟨od,es,ep,e2,c⟩,r⟩:=x
  exact ⟨ho _ d,z,ne,k _ _ (.inl rfl) e,mA,⟨od,es,ep,k _ _ (.inr d) e2,c⟩,r⟩
 | own y=>obtain ⟨ob,e⟩:=x;exact ⟨ob,k _ _ (.inl rfl) e⟩
 | xd fs=>obtain ⟨mA,⟨od,es,ep,e,c⟩,r⟩:=x;exact ⟨mA,⟨od,es,ep,k _ _ (.inl rfl) e,c⟩,r⟩
 | rng lo hi=>obtain ⟨t,u,v,e⟩:=x;exact ⟨t,u,v,k _ _ (.inl rfl) e⟩
 | frz ob u ih=>obtain ⟨e,q⟩:=x;exact ⟨k _ _ (.inl rfl) e,ih q⟩
 | tbl ps =>
  have e:h.get? a=some { cls:= .none,data:= .fields ps }:=x
  show h'.get? a=some { cls:= .none,data:= .fields ps }
  exact k a _ (.inl rfl) e
 | met f y =>
  have e:h.get? a=some (PySem.W.methodObj (.ref f) (.ref y)):=x
  show h'.get? a=some (PySem.W.methodObj (.ref f) (.ref y))
  exact k a _ (.inl rfl) e
 | ext φ=>obtain ⟨p,⟨o,e⟩,st⟩:=x;exact ⟨st _ _ p fun o q=>k _ _ (.inl rfl) q,⟨o,k _ _ (.inl rfl) e⟩,st⟩
theorem HOk.lt (x:HOk P w H h) (e:H a=some o):a < h.objs.size:=(x a o e).lt
theorem HOk.fresh (x:HOk P w H h) (e:h.objs.size<=a):H a=none:=by
 cases q:H a with
 | none=>rfl
 | some u=>exact absurd (Nat.lt_of_lt_of_le (x.lt q) e) (Nat.lt_irrefl _)
theorem HOk.kept (x:HOk P w H h) (k:∀ b u,h.get? b=some u->h'.get? b=some u):HOk P w H h':=fun a o e =>
 (x a o e).stay (fun b u _ q=>k b u q) (fun _ q=>q) fun _ _ q=>q
theorem HOk.laid (x:HOk P w H h) (k:∀ b u,h.get? b=some u->h'.get? b=some u) (hp:h.objs.size<=a) (new:ObjOk P w (upd H a o) h' a o):HOk P w (upd H a o) h':=fun b u e=>by
 have hn:=x.fresh hp
 by_cases hb:b=a
 ·subst hb;rw [qan] at e;cases e;exact new
 ·rw [qam hb] at e
  exact (x b u e).stay (fun c v _ q=>k c v q) (fun c q=>by rw [qam (qai q hn)];exact q) fun c xs q=>by rw [qam (qai q hn)];exact q
end
def Rd (H:Hp) (a:Addr) (u:HO):Prop:=H a=some u ∨ ∃ o,H a=some (.frz o u)
theorem Rd.ok {P:Program} {w:World} {H:Hp} {h:Heap} {a:Addr} {u:HO} (r:Rd H a u) (x:HOk P w H h):ObjOk P w H h a u:=by
 rcases r with r | ⟨o,r⟩
 ·exact x a u r
 ·obtain ⟨_,q⟩:=x a _ r
  exact q
def Mut:Option HO->Prop
 | some (.lst _)=>True
 | some (.dK _)=>True
 | some (.dT _)=>True
 | some (.set _ _)=>True
 | some (.ins _ _ _)=>True
 | some (.ext _)=>True
 | _=>False
section
variable {P:Program} {w:World} {H:Hp} {h h':Heap} {x e:Addr} {o':HO}
theorem HOk.write (ok:HOk P w H h) (mu:Mut (H x)) (he:e=x ∨ H e=some (.own x)) (k:∀ b u,b ≠ e->h.get? b=some u->h'.get? b=some u) (heo:∃ u,h'.get? e=some u)
  (new:ObjOk P w (upd H x o') h' x o'):HOk P w (upd H x o') h':=fun b u q=>by
 have nown:∀ c y,H c=some (.own y)->c ≠ x:=fun c y r z=>by subst z;rw [r] at mu;exact mu
 have ntup:∀ c xs,H c=some (.tup xs)->c ≠ x:=fun c xs r z=>by subst z;rw [r] at mu;exact mu
 by_cases hb:b=x
 ·subst hb;rw [qan] at q;cases q;exact new
 ·rw [qam hb] at q
  by_cases hbe:b=e
  ·have q':H b=some (.own x):=by
    rcases he with z | z
    ·exact absurd (hbe.trans z) hb
    ·rw [hbe];exact z
   rw [q] at q';cases q'
   obtain ⟨v,hv⟩:=heo
   exact ⟨v,by rw [hbe];exact hv⟩
  ·refine (ok b u q).stay (fun c v hc r=>k c v ?_ r) (fun c r=>by rw [qam (nown c b r)];exact r) fun c xs r=>by rw [qam (ntup c xs r)];exact r
   rcases hc with rfl | hc
   ·exact hbe
   ·rintro rfl
    rcases he with z | z
    ·exact nown c b hc z
    ·rw [hc] at z;cases z;exact hb rfl
end
structure Un (fs ex:List Addr) (H H':Hp) (h h':Heap):Prop where
 keep:∀ b o,h.get? b=some o->H b=none->b ∉ fs->b ∉ ex->h'.get? b=some o
 slot:∀ b o,h.get? b=some o->H b=none->b ∈ fs->b ∉ ex->∃ sl,h'.get? b=some { o with slots:=sl }
 free:∀ b o,h.get? b=some o->H b=none->b ∉ ex->H' b=none
 there:∀ b o,h.get? b=some o->b ∉ ex->∃ o',h'.get? b=some o'
 tups:∀ b xs,H b=some (.tup xs)->H' b=some (.tup xs)
 frzs:∀ b o u,H b=some (.frz o u)->H' b=some (.frz o u)
 tbls:∀ b ps,H b=some (.tbl ps)->∃ more,H' b=some (.tbl (ps++more))
section
variable {fs fs' ex ex':List Addr} {H H1 H2:Hp} {h h1 h2 h':Heap} {a x e:Addr} {o:HO}
theorem Un.any (u:Un fs ex H H1 h h1) {b:Addr} {ob:Obj} (q:h.get? b=some ob) (n:H b=none) (hx:b ∉ ex):∃ sl,h1.get? b=some { ob with slots:=sl }:=by
 by_cases hb:b ∈ fs
 ·exact u.slot b ob q n hb hx
 ·exact ⟨ob.slots,u.keep b ob q n hb hx⟩
theorem Un.kept (k:∀ b u,h.get? b=some u->h'.get? b=some u):Un fs ex H H h h' :=
 ⟨fun b ob q _ _ _=>k b ob q,fun b ob q _ _ _=>⟨ob.slots,k b ob q⟩,fun _ _ _ n _=>n,fun b ob q _=>⟨ob,k b ob q⟩,fun _ _ q=>q,fun _ _ _ q=>q,fun _ ps q=>⟨#[],by rw [q];simp⟩⟩
theorem Un.refl:Un fs ex H H h h:=Un.kept fun _ _ q=>q
theorem Un.laid (k:∀ b u,h.get? b=some u->h'.get? b=some u) (hp:h.objs.size<=a) (hn:H a=none):Un fs ex H (upd H a o) h h' where
 keep:=fun b u q _ _ _=>k b u q
 slot:=fun b u q _ _ _=>⟨u.slots,k b u q⟩
 free:=fun b u q n _=>by rw [qam (Nat.ne_of_lt (Nat.lt_of_lt_of_le (Heap.lt_size q) hp))];exact n
 there:=fun b u q _=>⟨u,k b u q⟩
 tups:=fun b xs q=>by rw [qam (qai q hn)];exact q
 frzs:=fun b u xs q=>by rw [qam (qai q hn)];exact q
 tbls:=fun b ps q=>⟨#[],by rw [qam (qai q hn),q];simp⟩
theorem Un.write (mu:Mut (H x)) (he:e=x ∨ H e=some (.own x)) (k:∀ b u,b ≠ e->h.get? b=some u->h'.get? b=some u) (heo:∃ u,h'.get? e=some u):Un fs ex H (upd H x o) h h':=by
 have hx:∀ b,H b=none->b ≠ x:=fun b n z=>by subst z;rw [n] at mu;exact mu
 have hb:∀ b,H b=none->b ≠ e:=fun b n z=>by
  subst z
  rcases he with r | r
  ·exact hx b n r
  ·rw [n] at r;cases r
 have hm:∀ b u,H b=some u->¬ Mut (some u)->b ≠ x:=fun b u q nm z=>by subst z;rw [q] at mu;exact nm mu
 refine ⟨fun b u q n _ _=>k b u (hb b n) q,fun b u q n _ _=>⟨u.slots,k b u (hb b n) q⟩,fun b u q n _=>by rw [qam (hx b n)];exact n,fun b u q _=>?_,
  fun b xs q=>by rw [qam (hm b _ q fun z=>z)];exact q,fun b u xs q=>by rw [qam (hm b _ q fun z=>z)];exact q,fun b ps q=>⟨#[],by rw [qam (hm b _ q fun z=>z),q];simp⟩⟩
 by_cases hbe:b=e
 ·subst hbe;exact heo
 ·exact ⟨u,k b u hbe q⟩
end
def trk (h:Heap) (H:Hp):List Addr:=(List.range h.objs.size).filter fun a=>(H a).isSome
def hidT (h:Heap) (H:Hp):Heap:=PySem.W.hideAll h (trk h H)
theorem qwr (h:Heap) (H:Hp):(hidT h H).objs.size=h.objs.size:=PySem.W.hideAll_size _ _
theorem hidT_get {h:Heap} {H:Hp} {b:Addr} {o:Obj} (e:h.get? b=some o) (n:H b=none):(hidT h H).get? b=some o :=
 PySem.W.hideAll_get _ e fun hm=>by
  have q:(H b).isSome=true:=(List.mem_filter.mp hm).2
  rw [n] at q;simp at q
theorem of_hidT {h:Heap} {H:Hp} {b:Addr} {o:Obj} (e:(hidT h H).get? b=some o):h.get? b=some o/\H b=none:=by
 have e':h.get? b=some o:=PySem.W.of_hideAll (trk h H) e
 refine ⟨e',?_⟩
 cases q:H b with
 | none=>rfl
 | some x =>
  have hm:b ∈ trk h H:=List.mem_filter.mpr ⟨List.mem_range.mpr (Heap.lt_size e'),by simp [q]⟩
  have z:(hidT h H).get? b=none:=PySem.W.hideAll_none (trk h H) hm
  rw [z] at e;cases e

end L2
namespace L2
open PySem PySem.Spec PyProof.Rows
structure Mod (K:PySem.W.Frag) (mg:Str->Option Value) (base:Heap):Prop where
 kin:K.In base
 glob:base.Ns mainGlobals mg
 blt:∃ mb,base.Ns builtinsNs mb/\∀ x:Str,x ≠ "__name__"->mb x=bootBuiltins x
 nolimit:base.NoLimit

structure Cx where
 prog:Program
 w:World
 K:PySem.W.Frag
 mg:Str->Option Value
 base:Heap
 A:Around
 N:List Str
 s₀:Shared
 H₀:Hp
 env:Env
 outer:List Env
 stack:List Env
 ex:List Addr
 fn:Str->Bool
 calm:Bool
 pn:List (Addr × Obj)
 xe:Value->Shared->Prop
def frs (l:List Env):List Addr:=l.filterMap (·.frame)
abbrev Cx.fs (X:Cx):List Addr:=frs X.outer

def Vis (sc:Scope) (x:Str):Prop:=sc.names.lookup x=some .local ∨ sc.names.lookup x=some .cell ∨ sc.names.lookup x=some .free
def Loc (sc:Scope) (x:Str):Prop:=sc.names.lookup x=some .local ∨ sc.names.lookup x=some .cell
def Look (env:Env) (h:Heap) (m:Str->Option Value) (x:Str) (u:Value):Prop :=
 (env.kindOf x=some .local/\m x=some u) ∨ ((env.kindOf x=some .cell ∨ env.kindOf x=some .free)/\∃ c,env.cells.lookup x=some c/\h.IsCell c (some u))

structure Cx.Ok (X:Cx):Prop where
 mod:Mod X.K X.mg X.base
 kind:X.env.scope.kind = .function
 glob:X.env.globals=mainGlobals
 blt:X.env.builtins=builtinsNs
 above:X.s₀.heap.objs.size<=X.env.locals
 inj:∀ x y c,X.env.cells.lookup x=some c->X.env.cells.lookup y=some c->x=y
 has:∀ x,(X.env.kindOf x=some .cell ∨ X.env.kindOf x=some .free)->∃ c,X.env.cells.lookup x=some c
 cab:∀ x c,X.fn x=true->X.env.cells.lookup x=some c->X.s₀.heap.objs.size<=c
 hd:X.calm=true->X.A.handled=none
 frames:X.A.frames=some X.stack
 stk:X.stack=X.outer ∨ (X.stack=X.env::X.outer/\X.env.frame=some X.env.locals)
 exf:∀ b ∈ X.ex,b ≠ X.env.locals/\∀ x c,X.env.cells.lookup x=some c->c ≠ b
 bs:∀ b o,X.base.get? b=some o->X.s₀.heap.get? b=some o/\X.H₀ b=none
 bsz:X.base.objs.size<=X.s₀.heap.objs.size
 noex:∀ b o,X.base.get? b=some o->b ∉ X.ex
 exfs:∀ b ∈ X.ex,b ∉ X.fs
 funs:X.s₀.heap.FunFrames X.base X.outer
 frf:∀ b ∈ X.fs,X.H₀ b=none

structure Inv (X:Cx) (pins:List (Addr × Obj)) (σ:List (Option V)) (H:Hp) (s:Shared):Prop where
 ok:X.Ok
 os:s.os=X.s₀.os
 bare:AllBare s.gens
 base:Un X.fs X.ex X.H₀ H X.s₀.heap s.heap
 loc:∃ m,s.heap.Ns X.env.locals m/\∀ (i:Nat) (x:Str) (v:V),X.N[i]?=some x->σ[i]?=some (some v)->Vis X.env.scope x->∃ u,RelV v u/\Look X.env s.heap m x u
 cell:∀ x c,X.env.cells.lookup x=some c->∃ v,s.heap.IsCell c v
 free:H X.env.locals=none
 freeC:∀ x c,X.env.cells.lookup x=some c->H c=none
 pin:∀ p ∈ X.pn++pins,s.heap.get? p.1=some p.2/\H p.1=none/\p.1 ≠ X.env.locals/\p.1 ∉ X.fs/\∀ v,p.2.data ≠ .cell v
 hok:HOk X.prog X.w H s.heap
 len:σ.length=X.N.length

section
variable {X:Cx} {pins:List (Addr × Obj)} {σ:List (Option V)} {H H':Hp} {s:Shared} {h':Heap}
theorem Cx.Ok.nofr (ok:X.Ok) {b:Addr} {o:Obj} (e:X.base.get? b=some o):b ∉ X.fs:=fun hb=>by
 have:=(ok.funs.mem hb).1
 rw [e] at this;cases this
theorem Inv.bs (I:Inv X pins σ H s):∀ b o,X.base.get? b=some o->s.heap.get? b=some o/\H b=none:=fun b o e =>
 ⟨I.base.keep b o (I.ok.bs b o e).1 (I.ok.bs b o e).2 (I.ok.nofr e) (I.ok.noex b o e),I.base.free b o (I.ok.bs b o e).1 (I.ok.bs b o e).2 (I.ok.noex b o e)⟩
theorem Inv.bk (I:Inv X pins σ H s):∀ b o,X.base.get? b=some o->s.heap.get? b=some o:=fun b o e=>(I.bs b o e).1
theorem Inv.mod (I:Inv X pins σ H s):Mod X.K X.mg X.base:=I.ok.mod
theorem Inv.kIn (I:Inv X pins σ H s):X.K.In s.heap:=I.ok.mod.kin.keeps I.bk
theorem Inv.fr (I:Inv X pins σ H s):∃ m,Fr X.base X.env.locals s.heap m :=
 let ⟨m,hn,_⟩:=I.loc
 ⟨m,hn,I.bk,Nat.le_trans I.ok.bsz I.ok.above⟩
theorem Inv.lt (I:Inv X pins σ H s):X.env.locals < s.heap.objs.size:=let ⟨_,hn,_⟩:=I.loc;hn.lt
theorem Inv.sz (I:Inv X pins σ H s):X.s₀.heap.objs.size<=s.heap.objs.size:=Nat.le_trans I.ok.above (Nat.le_of_lt I.lt)
theorem Inv.nofs (I:Inv X pins σ H s) {a:Addr} (h:s.heap.objs.size<=a):a ∉ X.fs:=fun hb=>by
 obtain ⟨_,o,ho,_⟩:=I.ok.funs.mem hb
 exact absurd (Nat.lt_of_lt_of_le (Heap.lt_size ho) (Nat.le_trans I.sz h)) (Nat.lt_irrefl _)
theorem Inv.cne (I:Inv X pins σ H s):∀ x c,X.env.cells.lookup x=some c->c ≠ X.env.locals:=fun x c e z=>by
 obtain ⟨v,o,ho,hd⟩:=I.cell x c e
 obtain ⟨m,⟨o',es,ep,ho',hd',_⟩,_⟩:=I.loc
 rw [z,ho'] at ho;cases ho;rw [hd'] at hd;cases hd
theorem Inv.funs (I:Inv X pins σ H s):s.heap.FunFrames X.base X.outer:=by
 have all:∀ (l:List Env),(∀ b ∈ frs l,b ∈ X.fs)->X.s₀.heap.FunFrames X.base l->s.heap.FunFrames X.base l:=by
  intro l
  induction l with
  | nil=>intro _ _;trivial
  | cons env r ih =>
   intro hs hl
   obtain ⟨hk,⟨L,o,hf,hn,ho,hd⟩,hr⟩:=hl
   have hL:L ∈ X.fs:=hs L (by unfold frs;rw [List.filterMap_cons,hf];exact List.mem_cons_self)
   obtain ⟨sl,e⟩:=I.base.slot L o ho (I.ok.frf L hL) hL fun z=>I.ok.exfs L z hL
   exact ⟨hk,⟨L,_,hf,hn,e,hd⟩,ih (fun b hb=>hs b (by unfold frs;rw [List.filterMap_cons,hf];exact List.mem_cons_of_mem _ hb)) hr⟩
 exact all X.outer (fun _ hb=>hb) I.ok.funs

theorem Inv.stack (I:Inv X pins σ H s):s.heap.FunFrames X.base X.stack:=by
 rcases I.ok.stk with e | ⟨e,hf⟩
 ·rw [e];exact I.funs
 ·rw [e]
  obtain ⟨m,hn,_⟩:=I.loc
  refine .cons (by rw [I.ok.kind];decide) hf hn ?_ I.funs
  exact Heap.get?_none_of_le (Nat.le_trans I.ok.bsz I.ok.above)
theorem Inv.stkSub (I:Inv X pins σ H s):∀ b ∈ frs X.stack,b ∈ X.env.locals::X.fs:=fun b hb=>by
 rcases I.ok.stk with e | ⟨e,hf⟩
 ·rw [e] at hb;exact List.mem_cons_of_mem _ hb
 ·rw [e] at hb
  unfold frs at hb
  rw [List.filterMap_cons,hf] at hb
  exact hb
theorem Inv.stkFree (I:Inv X pins σ H s):∀ b ∈ frs X.stack,H b=none:=fun b hb=>by
 rcases List.mem_cons.mp (I.stkSub b hb) with e | hb
 ·rw [e];exact I.free
 ·obtain ⟨_,o,ho,_⟩:=I.ok.funs.mem hb
  exact I.base.free b o ho (I.ok.frf b hb) fun z=>I.ok.exfs b z hb

theorem Inv.step {g':Array GenState} {t':Nat} {d':Drawn} {ch:List Addr} (I:Inv X pins σ H s)
  (hch:∀ b ∈ ch,(b ∈ X.ex ∨ X.s₀.heap.objs.size<=b)/\b ≠ X.env.locals/\(∀ x c,X.env.cells.lookup x=some c->c ≠ b)/\∀ p ∈ X.pn++pins,p.1 ≠ b)
  (keep:∀ b o,b ≠ X.env.locals->b ∉ X.fs->b ∉ ch->s.heap.get? b=some o->H b=none->h'.get? b=some o)
  (slot:∀ b o,b ≠ X.env.locals->b ∈ X.fs->b ∉ ch->s.heap.get? b=some o->H b=none->∃ sl,h'.get? b=some { o with slots:=sl }) (free:∀ b o,b ∉ ch->s.heap.get? b=some o->H b=none->H' b=none)
  (there:∀ b o,b ∉ ch->s.heap.get? b=some o->∃ o',h'.get? b=some o')
  (tups:∀ b xs,H b=some (.tup xs)->H' b=some (.tup xs)) (frzs:∀ b o u,H b=some (.frz o u)->H' b=some (.frz o u)) (tbls:∀ b ps,H b=some (.tbl ps)->∃ more,H' b=some (.tbl (ps++more)))
  (ns:∀ m,s.heap.Ns X.env.locals m->h'.Ns X.env.locals m) (hok:HOk X.prog X.w H' h') (hg:AllBare g') :
  Inv X pins σ H' { s with heap:=h',gens:=g',drawn:=d',toks:=t' }:=by
 have neL:∀ b o,X.s₀.heap.get? b=some o->b ≠ X.env.locals:=fun b o e=>Nat.ne_of_lt (Nat.lt_of_lt_of_le (Heap.lt_size e) I.ok.above)
 have neC:∀ b o,X.s₀.heap.get? b=some o->b ∉ X.ex->b ∉ ch:=fun b o e hx hb=>by
  rcases (hch b hb).1 with z | z
  ·exact hx z
  ·exact absurd (Nat.lt_of_lt_of_le (Heap.lt_size e) z) (Nat.lt_irrefl _)
 have cellK:∀ x c,X.env.cells.lookup x=some c->∀ v,s.heap.IsCell c v->h'.IsCell c v:=fun x c e v ⟨o,ho,hd⟩=>by
  have nch:c ∉ ch:=fun z=>(hch c z).2.2.1 x c e rfl
  by_cases hc:c ∈ X.fs
  ·obtain ⟨sl,q⟩:=slot c o (I.cne x c e) hc nch ho (I.freeC x c e)
   exact ⟨_,q,hd⟩
  ·exact ⟨o,keep c o (I.cne x c e) hc nch ho (I.freeC x c e),hd⟩
 refine ⟨I.ok,I.os,hg,⟨fun b o e n hb hx=>?_,fun b o e n hb hx=>?_,fun b o e n hx=>?_,fun b o e hx=>?_,fun b xs e=>tups b xs (I.base.tups b xs e),fun b o xs e=>frzs b o xs (I.base.frzs b o xs e),fun b ps e=>?_⟩,?_,fun x c e=>?_,?_,fun x c e=>?_,fun p hp=>?_,hok,I.len⟩
 ·exact keep b o (neL b o e) hb (neC b o e hx) (I.base.keep b o e n hb hx) (I.base.free b o e n hx)
 ·obtain ⟨sl,e1⟩:=I.base.slot b o e n hb hx
  obtain ⟨sl',e2⟩:=slot b _ (neL b o e) hb (neC b o e hx) e1 (I.base.free b o e n hx)
  exact ⟨sl',e2⟩
 ·obtain ⟨o',e1⟩:=I.base.there b o e hx
  exact free b o' (neC b o e hx) e1 (I.base.free b o e n hx)
 ·obtain ⟨o',e1⟩:=I.base.there b o e hx
  exact there b o' (neC b o e hx) e1
 ·obtain ⟨m1,e1⟩:=I.base.tbls b ps e
  obtain ⟨m2,e2⟩:=tbls b _ e1
  exact ⟨m1++m2,by rw [e2,Array.append_assoc]⟩
 ·obtain ⟨m,hn,hl⟩:=I.loc
  refine ⟨m,ns m hn,fun i x v e1 e2 e3=>?_⟩
  obtain ⟨u,r,l⟩:=hl i x v e1 e2 e3
  refine ⟨u,r,?_⟩
  rcases l with l | ⟨k,c,e,z⟩
  ·exact .inl l
  ·exact .inr ⟨k,c,e,cellK x c e _ z⟩
 ·obtain ⟨v,z⟩:=I.cell x c e
  exact ⟨v,cellK x c e v z⟩
 ·obtain ⟨m,⟨o,_,_,ho,_⟩,_⟩:=I.loc
  exact free _ o (fun z=>(hch _ z).2.1 rfl) ho I.free
 ·obtain ⟨v,o,ho,hd⟩:=I.cell x c e
  exact free c o (fun z=>(hch c z).2.2.1 x c e rfl) ho (I.freeC x c e)
 ·obtain ⟨e,n,ne,nf,d⟩:=I.pin p hp
  have nch:p.1 ∉ ch:=fun z=>(hch p.1 z).2.2.2 p hp rfl
  exact ⟨keep p.1 p.2 ne nf nch e n,free p.1 p.2 nch e n,ne,nf,d⟩
theorem Inv.un {t':Nat} (I:Inv X pins σ H s) (u:Un X.fs [] H H' s.heap h') (hok:HOk X.prog X.w H' h'):Inv X pins σ H' { s with heap:=h',toks:=t' }:=by
 obtain ⟨m,⟨o,es,ep,ho,r⟩,_⟩:=id I.loc
 obtain ⟨sl,hL⟩:=u.any ho I.free (by simp)
 exact I.step (g':=s.gens) (d':=s.drawn) (ch:=[]) (fun _ z=>nomatch z) (fun b o _ hb _ e n=>u.keep b o e n hb (by simp)) (fun b o _ hb _ e n=>u.slot b o e n hb (by simp)) (fun b o _ e n=>u.free b o e n (by simp)) (fun b o _ e=>u.there b o e (by simp)) u.tups u.frzs u.tbls (fun m' hm=>by
  obtain ⟨o',es',ep',ho',r'⟩:=hm
  rw [ho] at ho';cases ho'
  exact ⟨_,es',ep',hL,r'⟩) hok I.bare
theorem Inv.call {g':Array GenState} {t':Nat} {d':Drawn} {ch:List Addr} (I:Inv X pins σ H s) (u:Un (frs X.stack) ch H H' s.heap h') (hok:HOk X.prog X.w H' h') (hg:AllBare g')
  (hch:∀ b ∈ ch,(b ∈ X.ex ∨ X.s₀.heap.objs.size<=b)/\b ≠ X.env.locals/\(∀ x c,X.env.cells.lookup x=some c->c ≠ b)/\∀ p ∈ X.pn++pins,p.1 ≠ b) :
  Inv X pins σ H' { s with heap:=h',gens:=g',drawn:=d',toks:=t' }:=by
 obtain ⟨m,⟨o,es,ep,ho,r⟩,_⟩:=id I.loc
 obtain ⟨sl,hL⟩:=u.any ho I.free fun z=>(hch _ z).2.1 rfl
 exact I.step (ch:=ch) hch (fun b o hL hb hc e n=>u.keep b o e n (fun z=>(List.mem_cons.mp (I.stkSub b z)).elim hL hb) hc) (fun b o _ _ hc e n=>u.any e n hc) (fun b o hc e n=>u.free b o e n hc) (fun b o hc e=>u.there b o e hc) u.tups u.frzs u.tbls (fun m' hm=>by
  obtain ⟨o',es',ep',ho',r'⟩:=hm
  rw [ho] at ho';cases ho'
  exact ⟨_,es',ep',hL,r'⟩) hok hg
theorem Inv.turned {t':Nat} {it:Addr} (I:Inv X pins σ H s) (k:∀ b o,b ≠ it->s.heap.get? b=some o->h'.get? b=some o) (hn:H it=none) (hL:it ≠ X.env.locals)
  (h1:it ∈ X.ex ∨ X.s₀.heap.objs.size<=it) (h2:∀ x c,X.env.cells.lookup x=some c->c ≠ it) (h3:∀ p ∈ X.pn++pins,p.1 ≠ it):Inv X pins σ H { s with heap:=h',toks:=t' }:=by
 have nit:∀ b u,H b=some u->b ≠ it:=fun b u e z=>by rw [z,hn] at e;cases e
 refine I.step (g':=s.gens) (d':=s.drawn) (ch:=[it]) (fun b hb=>?_) (fun b o _ _ hc e _=>k b o (fun z=>hc (by simp [z])) e) (fun b o _ _ hc e _=>⟨o.slots,k b o (fun z=>hc (by simp [z])) e⟩) (fun _ _ _ _ n=>n)
  (fun b o hc e=>⟨o,k b o (fun z=>hc (by simp [z])) e⟩) (fun _ _ e=>e) (fun _ _ _ e=>e) (fun b ps e=>⟨#[],by rw [e];simp⟩) (fun m hm=>?_) (fun b u e=>?_) I.bare
 ·have e:b=it:=by simpa using hb
  subst e
  exact ⟨h1,hL,h2,h3⟩
 ·obtain ⟨o,es,ep,ho,r⟩:=hm
  exact ⟨o,es,ep,k _ o (Ne.symm hL) ho,r⟩
 ·refine (I.hok b u e).stay (fun c v hc q=>k c v ?_ q) (fun _ q=>q) fun _ _ q=>q
  rcases hc with z | z
  ·rw [z];exact nit b u e
  ·exact nit c _ z
theorem Inv.tok (I:Inv X pins σ H s) (t:Nat):Inv X pins σ H { s with toks:=t }:=I.un (h':=s.heap) (t':=t) Un.refl I.hok
theorem Inv.kept {t':Nat} (I:Inv X pins σ H s) (k:∀ b u,s.heap.get? b=some u->h'.get? b=some u):Inv X pins σ H { s with heap:=h',toks:=t' }:=I.un (Un.kept k) (I.hok.kept k)
theorem Inv.laid {a:Addr} {o:HO} {t':Nat} (I:Inv X pins σ H s) (k:∀ b u,s.heap.get? b=some u->h'.get? b=some u) (hp:s.heap.objs.size<=a) (new:ObjOk X.prog X.w (upd H a o) h' a o) :
  Inv X pins σ (upd H a o) { s with heap:=h',toks:=t' }:=I.un (Un.laid k hp (I.hok.fresh hp)) (I.hok.laid k hp new)
theorem Inv.write {x e:Addr} {o:HO} {t':Nat} (I:Inv X pins σ H s) (mu:Mut (H x)) (he:e=x ∨ H e=some (.own x)) (k:∀ b u,b ≠ e->s.heap.get? b=some u->h'.get? b=some u) (heo:∃ u,h'.get? e=some u)
  (new:ObjOk X.prog X.w (upd H x o) h' x o):Inv X pins σ (upd H x o) { s with heap:=h',toks:=t' }:=I.un (Un.write mu he k heo) (I.hok.write mu he k heo new)
theorem Inv.weak {σ':List (Option V)} (I:Inv X pins σ H s) (hl:σ'.length=σ.length) (w:∀ (i:Nat) v,σ'[i]?=some (some v)->σ[i]?=some (some v)):Inv X pins σ' H s :=
 ⟨I.ok,I.os,I.bare,I.base,let ⟨m,hn,hl'⟩:=I.loc;⟨m,hn,fun i x v e1 e2 e3=>hl' i x v e1 (w i v e2) e3⟩,I.cell,I.free,I.freeC,I.pin,I.hok,hl.trans I.len⟩
theorem Inv.pins_of {pins':List (Addr × Obj)} (I:Inv X pins σ H s) (h:∀ p ∈ pins',s.heap.get? p.1=some p.2/\H p.1=none/\p.1 ≠ X.env.locals/\p.1 ∉ X.fs/\∀ v,p.2.data ≠ .cell v):Inv X pins' σ H s :=
 ⟨I.ok,I.os,I.bare,I.base,I.loc,I.cell,I.free,I.freeC,fun p hp=>(List.mem_append.mp hp).elim (fun z=>I.pin p (List.mem_append_left _ z)) (h p),I.hok,I.len⟩

theorem qrx {N:List Str} (hN:N.Nodup) {i j:Nat} {x:Str} (a:N[i]?=some x) (b:N[j]?=some x):i=j:=by
 obtain ⟨h1,e1⟩:=List.getElem?_eq_some_iff.mp a
 obtain ⟨h2,e2⟩:=List.getElem?_eq_some_iff.mp b
 exact (List.getElem_inj hN).mp (e1.trans e2.symm)

theorem qjn {M:Model} {A:Around} {E:Value->Shared->Prop} {i:Nat} {x:Str} {v:V} {u:Value} {Q:Unit->Shared->Prop} (I:Inv X pins σ H s) (hN:X.N.Nodup) (hi:X.N[i]?=some x) (hx:Loc X.env.scope x) (r:RelV v u)
  (h:∀ s',Inv X pins (σ.set i (some v)) H s'->(∃ a,Heap.SameBut a s.heap s'.heap/\(a=X.env.locals ∨ X.env.cells.lookup x=some a))->Q () s') (hf:X.fn x=true ∨ X.env.scope.names.lookup x=some .local:=by first | exact .inl rfl | exact .inr rfl | assumption):wpAny M A (storeName X.env x u) Q E s:=by
 obtain ⟨m,hn,hl⟩:=id I.loc
 have hcls:(X.env.scope.kind == .class || (X.env.scope.kind == .module && X.env.locals != X.env.globals))=false:=by rw [I.ok.kind];rfl
 have hiσ:i < σ.length:=by rw [I.len];exact (List.getElem?_eq_some_iff.mp hi).1
 have cne:=I.cne
 have tracked:∀ {a:Addr} {h':Heap},(∃ o,s.heap.get? a=some o/\H a=none)->Heap.SameBut a s.heap h'->HOk X.prog X.w H h':=fun {a h'} ha hs b ob e=>by
  obtain ⟨_,_,hfree⟩:=ha
  refine (I.hok b ob e).stay (fun c w' hc q=>(hs.2 c ?_).trans q) (fun _ q=>q) fun _ _ q=>q
  rintro rfl
  rcases hc with rfl | hc
  ·rw [hfree] at e;cases e
  ·rw [hfree] at hc;cases hc
 rcases hx with hk | hk
 ·refine wpAny_storeName_local hk hn (fun h' hn' hs=>?_) hcls
  obtain ⟨oL,_,_,hoL,_⟩:=id hn
  refine h _ ⟨I.ok,I.os,I.bare,⟨fun b o e n hb hx=>?_,fun b o e n hb hx=>?_,I.base.free,fun b o e hx=>?_,I.base.tups,I.base.frzs,I.base.tbls⟩,⟨_,hn',fun j y v' e1 e2 e3=>?_⟩,fun y c e=>?_,I.free,I.freeC,fun p hp=>?_,tracked ⟨oL,hoL,I.free⟩ hs,by simpa using I.len⟩ ⟨_,hs,.inl rfl⟩
  ·exact (hs.2 b (Nat.ne_of_lt (Nat.lt_of_lt_of_le (Heap.lt_size e) I.ok.above))).trans (I.base.keep b o e n hb hx)
  ·obtain ⟨sl,e1⟩:=I.base.slot b o e n hb hx
   exact ⟨sl,(hs.2 b (Nat.ne_of_lt (Nat.lt_of_lt_of_le (Heap.lt_size e) I.ok.above))).trans e1⟩
  ·obtain ⟨o',e1⟩:=I.base.there b o e hx
   exact ⟨o',(hs.2 b (Nat.ne_of_lt (Nat.lt_of_lt_of_le (Heap.lt_size e) I.ok.above))).trans e1⟩
  ·by_cases hj:j=i
   ·subst hj
    rw [hi] at e1;cases e1
    rw [List.getElem?_set_self hiσ] at e2
    cases e2
    exact ⟨u,r,.inl ⟨hk,by simp⟩⟩
   ·rw [List.getElem?_set_ne (Ne.symm hj)] at e2
    obtain ⟨u',r',q⟩:=hl j y v' e1 e2 e3
    refine ⟨u',r',?_⟩
    rcases q with ⟨k,e⟩ | ⟨k,c,e,z⟩
    ·refine .inl ⟨k,?_⟩
     have:y ≠ x:=fun e=>hj (qrx hN e1 (e ▸ hi))
     simp [this,e]
    ·exact .inr ⟨k,c,e,z.sameBut hs (cne y c e)⟩
  ·obtain ⟨w',z⟩:=I.cell y c e
   exact ⟨w',z.sameBut hs (cne y c e)⟩
  ·obtain ⟨e,n,ne,nf,d⟩:=I.pin p hp
   exact ⟨(hs.2 p.1 ne).trans e,n,ne,nf,d⟩
 ·have hfn:X.fn x=true:=by
   rcases hf with z | z
   ·exact z
   ·rw [z] at hk;cases hk
  obtain ⟨c,hc⟩:=I.ok.has x (.inl hk)
  obtain ⟨w',z⟩:=I.cell x c hc
  refine wpAny_storeName_cell I.ok.kind hk hc z (fun h' hc' hs=>?_)
  obtain ⟨oc,hoc,hocd⟩:=id z
  refine h { s with heap:=h' } ⟨I.ok,I.os,I.bare,⟨fun b o e n hb hx=>?_,fun b o e n hb hx=>?_,I.base.free,fun b o e hx=>?_,I.base.tups,I.base.frzs,I.base.tbls⟩,⟨m,hn.sameBut hs (Ne.symm (cne x c hc)),fun j y v' e1 e2 e3=>?_⟩,fun y c' e=>?_,I.free,I.freeC,fun p hp=>?_,tracked ⟨oc,hoc,I.freeC x c hc⟩ hs,by simpa using I.len⟩ ⟨c,hs,.inr hc⟩
  ·exact (hs.2 b (Nat.ne_of_lt (Nat.lt_of_lt_of_le (Heap.lt_size e) (I.ok.cab x c hfn hc)))).trans (I.base.keep b o e n hb hx)
  ·obtain ⟨sl,e1⟩:=I.base.slot b o e n hb hx
   exact ⟨sl,(hs.2 b (Nat.ne_of_lt (Nat.lt_of_lt_of_le (Heap.lt_size e) (I.ok.cab x c hfn hc)))).trans e1⟩
  ·obtain ⟨o',e1⟩:=I.base.there b o e hx
   exact ⟨o',(hs.2 b (Nat.ne_of_lt (Nat.lt_of_lt_of_le (Heap.lt_size e) (I.ok.cab x c hfn hc)))).trans e1⟩
  ·by_cases hj:j=i
   ·subst hj
    rw [hi] at e1;cases e1
    rw [List.getElem?_set_self hiσ] at e2
    cases e2
    exact ⟨u,r,.inr ⟨.inl hk,c,hc,hc'⟩⟩
   ·rw [List.getElem?_set_ne (Ne.symm hj)] at e2
    obtain ⟨u',r',q⟩:=hl j y v' e1 e2 e3
    refine ⟨u',r',?_⟩
    rcases q with q | ⟨k,c',e,z'⟩
    ·exact .inl q
    ·refine .inr ⟨k,c',e,z'.sameBut hs ?_⟩
     rintro rfl
     exact hj (qrx hN e1 (I.ok.inj _ _ _ e hc ▸ hi))
  ·by_cases hcc:c'=c
   ·subst hcc;exact ⟨_,hc'⟩
   ·obtain ⟨w2,z2⟩:=I.cell y c' e
    exact ⟨w2,z2.sameBut hs hcc⟩
  ·obtain ⟨e,n,ne,nf,d⟩:=I.pin p hp
   refine ⟨(hs.2 p.1 ?_).trans e,n,ne,nf,d⟩
   intro q
   rw [q,hoc] at e
   have q':oc=p.2:=Option.some.inj e
   exact d w' (by rw [<- q'];exact hocd)
theorem qrk {M:Model} {A:Around} {E:Value->Shared->Prop} {i:Nat} {x:Str} {v:V} {u:Value} {Q:Unit->Shared->Prop} (I:Inv X pins σ H s) (hN:X.N.Nodup) (hi:X.N[i]?=some x) (hx:Loc X.env.scope x) (r:RelV v u)
  (h:∀ s',Inv X pins (σ.set i (some v)) H s'->Q () s') (hf:X.fn x=true ∨ X.env.scope.names.lookup x=some .local:=by first | exact .inl rfl | exact .inr rfl | assumption):wpAny M A (storeName X.env x u) Q E s :=
 qjn I hN hi hx r (fun s' I' _=>h s' I') hf
theorem Inv.call' {s':Shared} {ch:List Addr} (I:Inv X pins σ H s) (ho:s'.os=s.os) (u:Un (frs X.stack) ch H H' s.heap s'.heap) (hok:HOk X.prog X.w H' s'.heap) (hg:AllBare s'.gens)
  (hch:∀ b ∈ ch,(b ∈ X.ex ∨ X.s₀.heap.objs.size<=b)/\b ≠ X.env.locals/\(∀ x c,X.env.cells.lookup x=some c->c ≠ b)/\∀ p ∈ X.pn++pins,p.1 ≠ b):Inv X pins σ H' s':=by
 obtain ⟨h',g',d',t',o'⟩:=s'
 have e:o'=s.os:=ho
 subst e
 exact I.call (g':=g') (t':=t') (d':=d') u hok hg hch
end
abbrev XK:=Value->Option Addr->Hp->Prop
abbrev St:=List (Option V)
abbrev VK:=V->Hp->Prop
abbrev TE:=St->Hp->VK->Prop
abbrev TT:=St->Hp->(Bool->Hp->Prop)->Prop
abbrev TA:=St->Hp->(List V->Hp->Prop)->Prop
structure qrc where
 nx:St->Hp->Prop
 rt:VK
 bk:St->Hp->Prop:=fun _ _=>False
 ct:St->Hp->Prop:=fun _ _=>False
abbrev TS:=qrc->St->Hp->Prop

def EP (X:Cx) (pins:List (Addr × Obj)) (σ:St) (Q:VK) (u:Value) (s':Shared):Prop:=∃ v H',Inv X pins σ H' s'/\RelV v u/\Q v H'
def TP (X:Cx) (pins:List (Addr × Obj)) (σ:St) (Q:Bool->Hp->Prop) (b:Bool) (s':Shared):Prop:=∃ H',Inv X pins σ H' s'/\Q b H'
def AP (X:Cx) (pins:List (Addr × Obj)) (σ:St) (Q:List V->Hp->Prop) (us:List Value) (s':Shared):Prop:=∃ vs H',Inv X pins σ H' s'/\Vals vs us/\Q vs H'
def SP (X:Cx) (pins:List (Addr × Obj)) (D:qrc) (f:Flow) (s':Shared):Prop :=
 match f with
 | .next=>∃ σ' H',Inv X pins σ' H' s'/\D.nx σ' H'
 | .brk=>∃ σ' H',Inv X pins σ' H' s'/\D.bk σ' H'
 | .cont=>∃ σ' H',Inv X pins σ' H' s'/\D.ct σ' H'
 | .ret u=>∃ v σ' H',Inv X pins σ' H' s'/\RelV v u/\D.rt v H'

def PE (X:Cx) (e:Expr) (t:TE):Prop :=
 ∀ (pins:List (Addr × Obj)) (s:Shared) (σ:St) (H:Hp) (Q:VK),Inv X pins σ H s->t σ H Q->wpAny (model X.prog X.w) X.A (eval e X.env) (EP X pins σ Q) X.xe s
def PT (X:Cx) (e:Expr) (t:TT):Prop :=
 ∀ (pins:List (Addr × Obj)) (s:Shared) (σ:St) (H:Hp) (Q:Bool->Hp->Prop),Inv X pins σ H s->t σ H Q->wpAny (model X.prog X.w) X.A (isTrue e X.env (eval e X.env)) (TP X pins σ Q) X.xe s
def PW (X:Cx) (e:Expr) (t:TT):Prop :=
 ∀ (whole:Sem Value) (pins:List (Addr × Obj)) (s:Shared) (σ:St) (H:Hp) (Q:Bool->Hp->Prop),Inv X pins σ H s->t σ H Q->wpAny (model X.prog X.w) X.A (isTrue e X.env whole) (TP X pins σ Q) X.xe s
theorem PW.pt {X:Cx} {e:Expr} {t:TT} (h:PW X e t):PT X e t:=h _
def PA (X:Cx) (es:List Expr) (t:TA):Prop :=
 ∀ (pos:Pos) (pins:List (Addr × Obj)) (s:Shared) (σ:St) (H:Hp) (Q:List V->Hp->Prop),Inv X pins σ H s->t σ H Q->wpAny (model X.prog X.w) X.A (spliced (backTo pos (starEach es X.env))) (AP X pins σ Q) X.xe s
def PS (X:Cx) (st:Stmt) (t:TS):Prop :=
 ∀ (pins:List (Addr × Obj)) (s:Shared) (σ:St) (H:Hp) (D:qrc),Inv X pins σ H s->t D σ H->wpAny (model X.prog X.w) X.A (exec st X.env) (SP X pins D) X.xe s
def PSs (X:Cx) (st:List Stmt) (t:TS):Prop :=
 ∀ (pins:List (Addr × Obj)) (s:Shared) (σ:St) (H:Hp) (D:qrc),Inv X pins σ H s->t D σ H->wpAny (model X.prog X.w) X.A (execs st X.env) (SP X pins D) X.xe s
theorem thn {α:Type} {t:Sem α} {Q Q':α->Shared->Prop} {M:Model} {A:Around} {E:Value->Shared->Prop} {s:Shared} (h:wpAny M A t Q E s) (hQ:∀ a s,Q a s->Q' a s):wpAny M A t Q' E s:=wpAny_mono h hQ fun _ _ x=>x
end L2
namespace L2
open PySem PySem.Spec PyProof.Rows
section
variable {X:Cx}
theorem bin {a b:Expr} {ta tb:TE} (ha:PE X a ta) (hb:PE X b tb) {pins:List (Addr × Obj)} {s:Shared} {σ:St} {H:Hp} {R:V->V->Hp->Prop} (I:Inv X pins σ H s) (h:ta σ H fun x H1=>tb σ H1 fun y H2=>R x y H2)
  {α:Type} {Q:α->Shared->Prop} {f:Value->Value->Sem α}
  (hf:∀ v u s2 x y H2,Inv X pins σ H2 s2->RelV x v->RelV y u->R x y H2->wpAny (model X.prog X.w) X.A (f v u) Q X.xe s2) :
  wpAny (model X.prog X.w) X.A (eval a X.env) (fun v s₁=>wpAny (model X.prog X.w) X.A (eval b X.env) (fun u s₂=>wpAny (model X.prog X.w) X.A (f v u) Q X.xe s₂) X.xe s₁) X.xe s:=by
 refine thn (ha pins s σ H _ I h) fun v s1 ⟨x,H1,I1,r1,q1⟩=>?_
 refine thn (hb pins s1 σ H1 _ I1 q1) fun u s2 ⟨y,H2,I2,r2,q2⟩=>?_
 exact hf v u s2 x y H2 I2 r1 r2 q2

def qiu (i:Nat):TE:=fun σ H Q=>∃ v,σ[i]?=some (some v)/\Q v H
def tC (v:V):TE:=fun _ H Q=>Q v H
theorem pe_var {i:Nat} {x:Str} {pos:Pos} (hN:X.N[i]?=some x) (hv:Vis X.env.scope x) (hd:(x == ("__debug__":Str))=false:=by decide) (hcd:(x == ("__classdict__":Str))=false:=by decide):PE X (.Name x pos) (qiu i):=by
 intro pins s σ H Q I h
 obtain ⟨v,e,h⟩:=h
 obtain ⟨m,hn,hl⟩:=I.loc
 obtain ⟨u,r,l⟩:=hl i x v hN e hv
 have fin:EP X pins σ Q u s:=⟨v,H,I,r,h⟩
 rcases l with ⟨hk,hm⟩ | ⟨hk,c,hc,hcell⟩
 ·exact wpAny_Name (wpAny_loadName_local I.ok.kind hk hn hm fin) hd
 ·rcases hk with hk | hk
  ·exact wpAny_Name (wpAny_loadName_cell I.ok.kind hk hc hcell fin) hd
  ·exact wpAny_Name (wpAny_loadName_free I.ok.kind hk hc hcell fin hcd) hd
theorem qaf {i j pos}:PE X (.Constant (.int i) j pos) (tC (.int i)):=fun _ _ _ H _ I h=>wpAny_Constant_int ⟨.int i,H,I.tok _,⟨_,rfl⟩,h⟩
theorem qj1 {b j pos}:PE X (.Constant (.bool b) j pos) (tC (.bl b)):=fun _ _ _ H _ I h=>Constant_bool ⟨.bl b,H,I,rfl,h⟩
theorem qvt {j pos}:PE X (.Constant .none j pos) (tC .non):=fun _ _ _ H _ I h=>Constant_none ⟨.non,H,I,rfl,h⟩
theorem qjz {x j pos}:PE X (.Constant (.str x) j pos) (tC (.str x)):=fun _ _ _ H _ I h=>Calls.Constant_str ⟨.str x,H,I.tok _,⟨_,rfl⟩,h⟩

def Gl (X:Cx) (x:Str):Prop:=X.env.kindOf x=some .globalImplicit
theorem qqo {E:Value->Shared->Prop} {pins:List (Addr × Obj)} {s:Shared} {σ:St} {H:Hp} {x:Str} {u:Value} {pos:Pos} {Q:Value->Shared->Prop} (I:Inv X pins σ H s) (hg:Gl X x) (hm:X.mg x=some u) (h:Q u s)
  (hd:(x == ("__debug__":Str))=false:=by decide):wpAny (model X.prog X.w) X.A (eval (.Name x pos) X.env) Q E s :=
 Calls.Name_function_global I.ok.kind hg (Calls.loadGlobal_global (by rw [I.ok.glob];exact I.mod.glob.keeps I.bk) hm h) hd
theorem qke {E:Value->Shared->Prop} {pins:List (Addr × Obj)} {s:Shared} {σ:St} {H:Hp} {x:Str} {u:Value} {pos:Pos} {Q:Value->Shared->Prop} (I:Inv X pins σ H s) (hg:Gl X x) (hm:X.mg x=none) (hv:bootBuiltins x=some u) (h:Q u s)
  (hn:x ≠ "__name__":=by decide) (hd:(x == ("__debug__":Str))=false:=by decide):wpAny (model X.prog X.w) X.A (eval (.Name x pos) X.env) Q E s:=by
 obtain ⟨mb,h1,h2⟩:=I.mod.blt
 exact Calls.Name_function_global I.ok.kind hg (Calls.loadGlobal_builtin (by rw [I.ok.glob];exact I.mod.glob.keeps I.bk) hm (by rw [I.ok.blt];exact h1.keeps I.bk) ((h2 x hn).trans hv) h) hd
theorem qne {x:Str} {v:V} {u:Value} {pos:Pos} (hg:Gl X x) (hm:X.mg x=some u) (r:RelV v u) (hd:(x == ("__debug__":Str))=false:=by decide):PE X (.Name x pos) (tC v) :=
 fun _ _ _ H _ I h=>qqo I hg hm ⟨v,H,I,r,h⟩ hd
theorem qdw {x:Str} {v:V} {u:Value} {pos:Pos} (hg:Gl X x) (hm:X.mg x=none) (hv:bootBuiltins x=some u) (r:RelV v u) (hn:x ≠ "__name__":=by decide) (hd:(x == ("__debug__":Str))=false:=by decide):PE X (.Name x pos) (tC v) :=
 fun _ _ _ H _ I h=>qke I hg hm hv ⟨v,H,I,r,h⟩ hn hd

variable {a b:Expr} {ta tb:TE} {pos:Pos}
def PC (X:Cx) (op:CmpOp) (a b:Expr) (t:TE):Prop :=
 ∀ (pins:List (Addr × Obj)) (s:Shared) (σ:St) (H:Hp) (Q:VK),Inv X pins σ H s->t σ H Q ->
  wpAny (model X.prog X.w) X.A (eval a X.env) (fun v s₁=>wpAny (model X.prog X.w) X.A (eval b X.env) (fun u s₂=>wpAny (model X.prog X.w) X.A (compareOp op v u) (EP X pins σ Q) X.xe s₂) X.xe s₁) X.xe s
def tB (t:TE):TT:=fun σ H Q=>t σ H fun x H1=>∃ c,x = .bl c/\Q c H1
theorem pt_cmp {op:CmpOp} {t:TE} (h:PC X op a b t) (h1:behindInMarks op b=false:=by first | exact nobehind _ (by decide) (by decide) | rfl):PT X (.Compare a [op] [b] pos) (tB t):=by
 intro pins s σ H Q I hw
 refine wpAny_isTrue_Compare1 (thn (h pins s σ H _ I hw) fun v s1 h1=>thn h1 fun u s2 h2=>thn h2 fun c s3 ⟨x,H1,I1,r1,q1⟩=>?_) h1
 obtain ⟨d,rfl,q⟩:=q1
 cases r1
 exact wpAny_truthy_bool ⟨H1,I1,q⟩
variable {tA tB':TT} {rest:List Expr}
def tAnd (t u:TT):TT:=fun σ H Q=>t σ H fun c H1=>if c=true then u σ H1 Q else Q false H1
def tOr (t u:TT):TT:=fun σ H Q=>t σ H fun c H1=>if c=true then Q true H1 else u σ H1 Q
def tNot (t:TT):TT:=fun σ H Q=>t σ H fun c H1=>Q (!c) H1
theorem qqb (ha:PT X a tA):PW X (.BoolOp .And [a] pos) tA:=by
 intro wh pins s σ H Q I h
 refine isTrue_and (thn (ha pins s σ H Q I h) fun c s1 e=>?_)
 cases c with
 | true=>exact isTrue_and_nil e
 | false=>exact e
theorem qhd (ha:PT X a tA):PW X (.BoolOp .Or [a] pos) tA:=by
 intro wh pins s σ H Q I h
 refine isTrue_or (thn (ha pins s σ H Q I h) fun c s1 e=>?_)
 cases c with
 | false=>exact isTrue_or_nil e
 | true=>exact e
theorem qvj (ha:PT X a tA) (hb:PW X (.BoolOp .And (b::rest) pos) tB'):PW X (.BoolOp .And (a::b::rest) pos) (tAnd tA tB'):=by
 intro wh pins s σ H Q I h
 refine isTrue_and (thn (ha pins s σ H _ I h) fun c s1 ⟨H1,I1,q1⟩=>?_)
 cases c with
 | true=>exact hb wh pins s1 σ H1 Q I1 q1
 | false=>exact ⟨H1,I1,q1⟩
theorem qjv (ha:PT X a tA) (hb:PW X (.BoolOp .Or (b::rest) pos) tB'):PW X (.BoolOp .Or (a::b::rest) pos) (tOr tA tB'):=by
 intro wh pins s σ H Q I h
 refine isTrue_or (thn (ha pins s σ H _ I h) fun c s1 ⟨H1,I1,q1⟩=>?_)
 cases c with
 | true=>exact ⟨H1,I1,q1⟩
 | false=>exact hb wh pins s1 σ H1 Q I1 q1
theorem qc8 (ha:PT X a tA):PT X (.UnaryOp .Not a pos) (tNot tA):=by
 intro pins s σ H Q I h
 exact isTrue_not (ha pins s σ H (fun c H1=>Q (!c) H1) I h)
def tAndV (ta tb:TE):TE:=fun σ H Q=>ta σ H fun x H1=>∃ c,x = .bl c/\if c=true then tb σ H1 Q else Q (.bl false) H1
def tNotV (ta:TE):TE:=fun σ H Q=>ta σ H fun x H1=>∃ c,x = .bl c/\Q (.bl (!c)) H1
theorem qij {op} {t:TE} (h:PE X a t):PE X (.BoolOp op [a] pos) t:=fun pins s σ H Q I hw=>BoolOp_one (h pins s σ H Q I hw)
theorem qgl (ha:PE X a ta) (hb:PE X (.BoolOp .And (b::rest) pos) tb):PE X (.BoolOp .And (a::b::rest) pos) (tAndV ta tb):=by
 intro pins s σ H Q I h
 refine BoolOp_and (thn (ha pins s σ H _ I h) fun v s1 ⟨x,H1,I1,r1,q1⟩=>?_)
 obtain ⟨c,rfl,q1⟩:=q1
 cases r1
 refine wpAny_truthy_bool ?_
 cases c with
 | true=>exact hb pins s1 σ H1 Q I1 q1
 | false=>exact ⟨.bl false,H1,I1,rfl,q1⟩
theorem pe_not (ha:PE X a ta):PE X (.UnaryOp .Not a pos) (tNotV ta):=by
 intro pins s σ H Q I h
 refine UnaryOp_ (thn (ha pins s σ H _ I h) fun v s1 ⟨x,H1,I1,r1,q1⟩=>?_)
 obtain ⟨c,rfl,q1⟩:=q1
 cases r1
 exact not_of (wpAny_truthy_bool ⟨.bl (!c),H1,I1,rfl,q1⟩)
def tIf (t:TT) (ta tb:TE):TE:=fun σ H Q=>t σ H fun c H1=>if c=true then ta σ H1 Q else tb σ H1 Q
theorem qi4 {c:Expr} (hc:PT X c tA) (ha:PE X a ta) (hb:PE X b tb):PE X (.IfExp c a b pos) (tIf tA ta tb):=by
 intro pins s σ H Q I h
 refine wpAny_IfExp (thn (hc pins s σ H _ I h) fun d s1 ⟨H1,I1,q1⟩=>?_)
 cases d with
 | true=>exact ha pins s1 σ H1 Q I1 q1
 | false=>exact hb pins s1 σ H1 Q I1 q1
end
end L2
namespace L2
open PySem PySem.Spec PyProof.Rows
def SqL (K:PySem.W.Frag) (H:Hp) (a:Addr) (xs:List V):Prop :=
 Rd H a (.lst xs) ∨
  ∃ (o:Obj) (its:Array Value) (n:Nat),K.lookup a=some o/\o.cls = .type "list"/\o.dict=none/\o.data = .seq its n/\its.size<=sizeLine/\Vals xs its.toList
def SqT (K:PySem.W.Frag) (H:Hp) (a:Addr) (xs:List V):Prop :=
 Rd H a (.tup xs) ∨
  ∃ (o:Obj) (its:Array Value) (n:Nat),K.lookup a=some o/\o.cls = .type "tuple"/\o.data = .seq its n/\its.size<=sizeLine/\Vals xs its.toList
def absV:Value->Option V
 | .none=>some .non
 | .bool b=>some (.bl b)
 | .int i _=>some (.int i)
 | .str x _=>some (.str x)
 | .bytes b _=>some (.byt b)
 | .float b _=>some (.flt b)
 | .ref a=>some (.ref a)
 | .type n=>some (.ty n)
 | _=>none
theorem RelV.abs {x:V} {u:Value} (r:RelV x u):absV u=some x:=by
 cases x with
 | non=>cases r;rfl
 | bl _=>cases r;rfl
 | int _=>obtain ⟨t,rfl⟩:=r;rfl
 | str _=>obtain ⟨t,rfl⟩:=r;rfl
 | byt _=>obtain ⟨t,rfl⟩:=r;rfl
 | flt _=>obtain ⟨t,rfl⟩:=r;rfl
 | ref _=>cases r;rfl
 | ty _=>cases r;rfl
theorem RelV.inj {x y:V} {u:Value} (r:RelV x u) (q:RelV y u):x=y:=Option.some.inj (r.abs.symm.trans q.abs)
theorem Vals.inj:∀ {xs ys:List V} {us:List Value},Vals xs us->Vals ys us->xs=ys
 | _,_,_,.nil,.nil=>rfl
 | _,_,_,.cons r t,.cons r' t'=>by rw [r.inj r',Vals.inj t t']
section
variable {X:Cx} {pins:List (Addr × Obj)} {σ:St} {H:Hp} {s:Shared} {a:Addr} {xs ys:List V}
theorem SqL.of {K:PySem.W.Frag} (h:H a=some (.lst xs)):SqL K H a xs:= .inl (.inl h)
theorem SqT.of {K:PySem.W.Frag} (h:H a=some (.tup xs)):SqT K H a xs:= .inl (.inl h)
theorem Inv.list (I:Inv X pins σ H s) (h:SqL X.K H a xs):∃ its:List Value,Vals xs its/\PlainL s.heap a its.toArray/\xs.length<=sizeLine:=by
 rcases h with h | ⟨o,its,n,hk,hc,hd,hs,hz,r⟩
 ·obtain ⟨z,its,n,r,e⟩:=h.ok I.hok
  exact ⟨its,r,⟨_,n,e,rfl,rfl,rfl⟩,z⟩
 ·refine ⟨its.toList,r,⟨o,n,I.kIn a o hk,hc,hd,by simpa using hs⟩,?_⟩
  have e:=r.length
  simp only [Array.length_toList] at e
  omega
theorem Inv.tuple (I:Inv X pins σ H s) (h:SqT X.K H a xs):∃ its:List Value,Vals xs its/\IsTup s.heap a its.toArray/\xs.length<=sizeLine:=by
 rcases h with h | ⟨o,its,n,hk,hc,hs,hz,r⟩
 ·obtain ⟨z,its,r,p⟩:=h.ok I.hok
  exact ⟨its,r,p,z⟩
 ·refine ⟨its.toList,r,⟨o,I.kIn a o hk,hc,n,by simpa using hs⟩,?_⟩
  have e:=r.length
  simp only [Array.length_toList] at e
  omega
theorem Inv.list_inj (I:Inv X pins σ H s) (h:SqL X.K H a xs) (h':SqL X.K H a ys):xs=ys:=by
 obtain ⟨its,r,⟨o,n,e,_,_,d⟩,_⟩:=I.list h
 obtain ⟨its',r',⟨o',n',e',_,_,d'⟩,_⟩:=I.list h'
 rw [e] at e';cases e'
 rw [d] at d'
 injection d' with d1 _
 have:its=its':=by simpa using congrArg Array.toList d1
 subst this
 exact r.inj r'
theorem Inv.tuple_inj (I:Inv X pins σ H s) (h:SqT X.K H a xs) (h':SqT X.K H a ys):xs=ys:=by
 obtain ⟨its,r,⟨o,e,_,n,d⟩,_⟩:=I.tuple h
 obtain ⟨its',r',⟨o',e',_,n',d'⟩,_⟩:=I.tuple h'
 rw [e] at e';cases e'
 rw [d] at d'
 injection d' with d1 _
 have:its=its':=by simpa using congrArg Array.toList d1
 subst this
 exact r.inj r'
end
abbrev Cx.wish (X:Cx) (E:Value->Shared->Prop):Cx:={ X with xe:=E }
abbrev Cx.nox (X:Cx):Cx:=X.wish fun _ _=>False
theorem Cx.Ok.wish {X:Cx} (ok:X.Ok) (E:Value->Shared->Prop):(X.wish E).Ok :=
 ⟨ok.mod,ok.kind,ok.glob,ok.blt,ok.above,ok.inj,ok.has,ok.cab,ok.hd,ok.frames,ok.stk,ok.exf,ok.bs,ok.bsz,ok.noex,ok.exfs,ok.funs,ok.frf⟩
theorem Cx.Ok.unwish {X:Cx} {E:Value->Shared->Prop} (ok:(X.wish E).Ok):X.Ok :=
 ⟨ok.mod,ok.kind,ok.glob,ok.blt,ok.above,ok.inj,ok.has,ok.cab,ok.hd,ok.frames,ok.stk,ok.exf,ok.bs,ok.bsz,ok.noex,ok.exfs,ok.funs,ok.frf⟩
section
variable {X:Cx} {pins:List (Addr × Obj)} {σ:St} {H:Hp} {s:Shared} {E:Value->Shared->Prop}
theorem Inv.wish (I:Inv X pins σ H s) (E:Value->Shared->Prop):Inv (X.wish E) pins σ H s:=⟨I.ok.wish E,I.os,I.bare,I.base,I.loc,I.cell,I.free,I.freeC,I.pin,I.hok,I.len⟩
theorem Inv.unwish (I:Inv (X.wish E) pins σ H s):Inv X pins σ H s:=⟨I.ok.unwish,I.os,I.bare,I.base,I.loc,I.cell,I.free,I.freeC,I.pin,I.hok,I.len⟩
theorem SP.unwish {D:qrc} {f:Flow} {s':Shared} (h:SP (X.wish E) pins D f s'):SP X pins D f s':=by
 cases f with
 | next=>obtain ⟨σ',H',I,q⟩:=h;exact ⟨σ',H',I.unwish,q⟩
 | brk=>obtain ⟨σ',H',I,q⟩:=h;exact ⟨σ',H',I.unwish,q⟩
 | cont=>obtain ⟨σ',H',I,q⟩:=h;exact ⟨σ',H',I.unwish,q⟩
 | ret u=>obtain ⟨v,σ',H',I,r,q⟩:=h;exact ⟨v,σ',H',I.unwish,r,q⟩
theorem PSs.nox {st:List Stmt} {t:TS} (h:PSs X.nox st t):PSs X st t:=fun pins s σ H D I hw =>
 wpAny_mono (h pins s σ H D (I.wish _) hw) (fun _ _ q=>q.unwish) fun _ _ z=>False.elim z
end
section
variable {X:Cx} {st:Stmt} {rest:List Stmt} {t u:TS} {e:Expr} {te:TE} {pos:Pos}
def tNext:TS:=fun D σ H=>D.nx σ H
def tSeq (t u:TS):TS:=fun D σ H=>t { D with nx:=u D } σ H
theorem qbf:PSs X [] tNext:=fun _ _ σ H _ I h=>wpAny_execs_nil ⟨σ,H,I,h⟩
theorem qae (h1:PS X st t) (h2:PSs X rest u):PSs X (st::rest) (tSeq t u):=by
 intro pins s σ H D I h
 refine wpAny_execs_cons (thn (h1 pins s σ H { D with nx:=u D } I h) fun f s1 q=>?_)
 cases f with
 | next =>
  obtain ⟨σ',H',I',q⟩:=q
  exact h2 pins s1 σ' H' D I' q
 | ret v=>exact q
 | brk=>exact q
 | cont=>exact q
theorem qag (h1:PS X st t):PSs X [st] t:=by
 intro pins s σ H D I h
 refine wpAny_execs_cons (thn (h1 pins s σ H D I h) fun f s1 q=>?_)
 cases f with
 | next=>exact wpAny_execs_nil q
 | ret v=>exact q
 | brk=>exact q
 | cont=>exact q
theorem Inv.quiet {pins:List (Addr × Obj)} {σ:St} {H:Hp} {s:Shared} (I:Inv X pins σ H s):interactive X.env=false:=by simp [interactive,I.ok.kind]
def qiw (te:TE):TS:=fun D σ H=>te σ H fun _ H1=>D.nx σ H1
theorem qc9 (he:PE X e te) (hs:swapsWith e none pos.line X.env=pure false:=by rfl):PS X (.Expr e pos) (qiw te):=by
 intro pins s σ H D I h
 exact wpAny_Expr_any (thn (he pins s σ H _ I h) fun v s1 ⟨x,H1,I1,r1,q1⟩=>⟨σ,H1,I1,q1⟩) I.quiet hs
def tRet (te:TE):TS:=fun D σ H=>te σ H D.rt
theorem qa5 (he:PE X e te):PS X (.Return (some e) pos) (tRet te):=by
 intro pins s σ H D I h
 exact wpAny_Return_some (thn (he pins s σ H _ I h) fun v s1 ⟨x,H1,I1,r1,q1⟩=>⟨x,σ,H1,I1,r1,q1⟩)
def tIfS (c:TT) (t u:TS):TS:=fun D σ H=>c σ H fun b H1=>if b=true then t D σ H1 else u D σ H1
theorem qc7 {c:Expr} {a b:List Stmt} {tc:TT} (hc:PT X c tc) (ha:PSs X a t) (hb:PSs X b u):PS X (.If c a b pos) (tIfS tc t u):=by
 intro pins s σ H D I h
 refine wpAny_If (thn (hc pins s σ H _ I h) fun d s1 ⟨H1,I1,q1⟩=>?_)
 cases d with
 | true=>exact ha pins s1 σ H1 D I1 q1
 | false=>exact hb pins s1 σ H1 D I1 q1
def tNever:TS:=fun _ _ _=>False
theorem qdr:PS X st tNever:=fun _ _ _ _ _ _ h=>h.elim
end
abbrev TG:=V->St->Hp->(St->Hp->Prop)->Prop
abbrev TGs:=List V->St->Hp->(St->Hp->Prop)->Prop
def PG (X:Cx) (target:Expr) (t:TG):Prop :=
 ∀ (pins:List (Addr × Obj)) (s:Shared) (σ:St) (H:Hp) (v:V) (u:Value) (Q:St->Hp->Prop),Inv X pins σ H s->RelV v u->t v σ H Q ->
  wpAny (model X.prog X.w) X.A (assign target X.env u) (fun _ s'=>∃ σ' H',Inv X pins σ' H' s'/\Q σ' H') X.xe s
def PGs (X:Cx) (ts:List Expr) (t:TGs):Prop :=
 ∀ (pins:List (Addr × Obj)) (s:Shared) (σ:St) (H:Hp) (vs:List V) (us:List Value) (Q:St->Hp->Prop),Inv X pins σ H s->Vals vs us->t vs σ H Q ->
  wpAny (model X.prog X.w) X.A (assignInOrder ((assignEach ts X.env).map (·.2)) us) (fun _ s'=>∃ σ' H',Inv X pins σ' H' s'/\Q σ' H') X.xe s
abbrev TSet:=V->V->V->Hp->(Hp->Prop)->Prop
def PSet (X:Cx) (t:TSet):Prop :=
 ∀ (pins:List (Addr × Obj)) (s:Shared) (σ:St) (H:Hp) (o i v:V) (ov iv u:Value) (Q:Hp->Prop),Inv X pins σ H s->RelV o ov->RelV i iv->RelV v u->t o i v H Q ->
  wpAny (model X.prog X.w) X.A (setItem ov iv u) (fun _ s'=>∃ H',Inv X pins σ H' s'/\Q H') X.xe s
section
variable {X:Cx} {pos:Pos}
def qez (i:Nat):TG:=fun v σ H Q=>Q (σ.set i (some v)) H
theorem qa2 {i:Nat} {x:Str} (hN:X.N.Nodup) (hi:X.N[i]?=some x) (hx:Loc X.env.scope x) (hf:X.fn x=true ∨ X.env.scope.names.lookup x=some .local:=by first | exact .inl rfl | exact .inr rfl | assumption):PG X (.Name x pos) (qez i):=by
 intro pins s σ H v u Q I r h
 exact wpAny_assign_Name (qrk I hN hi hx r (fun s' I'=>⟨_,H,I',h⟩) hf)
def gNil:TGs:=fun vs σ H Q=>vs=[]/\Q σ H
def gCons (t:TG) (u:TGs):TGs:=fun vs σ H Q=>∃ v r,vs=v::r/\t v σ H fun σ' H'=>u r σ' H' Q
theorem qna:PGs X [] gNil:=by
 intro pins s σ H vs us Q I r h
 obtain ⟨e,h⟩:=h
 subst e
 cases r
 exact assignInOrder_nil ⟨σ,H,I,h⟩
theorem qds {e:Expr} {es:List Expr} {t:TG} {u:TGs} (h1:PG X e t) (h2:PGs X es u)
  (hs:(assignEach (e::es) X.env).map (·.2)=assign e X.env::(assignEach es X.env).map (·.2):=by rfl):PGs X (e::es) (gCons t u):=by
 intro pins s σ H vs us Q I r h
 obtain ⟨v,vr,e1,h⟩:=h
 subst e1
 cases r with
 | cons r rr =>
  rw [hs]
  refine assignInOrder_cons (thn (h1 pins s σ H _ _ _ I r h) fun _ s1 ⟨σ1,H1,I1,q1⟩=>?_)
  exact h2 pins s1 σ1 H1 _ _ Q I1 rr q1
def gTup (K:PySem.W.Frag) (n:Nat) (t:TGs):TG:=fun v σ H Q=>∃ a xs,v = .ref a/\SqT K H a xs/\xs.length=n/\t xs σ H Q
theorem pg_tup {es:List Expr} {k:Nat} {t:TGs} {n:Nat} (hc:X.calm=true) (h:PGs X es t)
  (hn:(assignEach es X.env).length=n:=by rfl) (hst:(assignEach es X.env).findIdx? (·.1)=none:=by rfl):PG X (.Tuple es k pos) (gTup X.K n t):=by
 intro pins s σ H v u Q I r hw
 obtain ⟨a,xs,e1,hq,hl,hw⟩:=hw
 subst e1
 cases r
 obtain ⟨its,rv,ht,hz⟩:=I.tuple hq
 refine assign_Tuple_tuple (I.ok.hd hc) ht (by simp [hn,<- hl,rv.length]) hst fun h' hx=>?_
 have I1:Inv X pins σ H { s with heap:=h' }:=I.kept (t':=s.toks) fun b o e=>hx b o (Nat.ne_of_lt (Heap.lt_size e)) e
 exact h pins _ σ H xs _ Q I1 (by simpa using rv) hw
def gSub (to ti:TE) (t:TSet):TG:=fun v σ H Q=>to σ H fun o H1=>ti σ H1 fun i H2=>t o i v H2 fun H3=>Q σ H3
theorem pg_sub {o i:Expr} {to ti:TE} {t:TSet} (ho:PE X o to) (hi:PE X i ti) (hs:PSet X t)
  (ha:∀ v,assign (.Subscript o i pos) X.env v=(do
   let ov <- holding [v] (eval o X.env)
   let iv <- holding [v,ov] (eval i X.env)
   standAt pos
   holding [v,ov,iv] (setItem ov iv v)
   release [v,ov,iv] []):=by intro _;rfl):PG X (.Subscript o i pos) (gSub to ti t):=by
 intro pins s σ H v u Q I r h
 rw [ha]
 refine wpAny_bind (wpAny_holding (thn (ho pins s σ H _ I h) fun ov s1 ⟨x,H1,I1,r1,q1⟩=>?_))
 refine wpAny_bind (wpAny_holding (thn (hi pins s1 σ H1 _ I1 q1) fun iv s2 ⟨y,H2,I2,r2,q2⟩=>?_))
 refine wpAny_bind (wpAny_standAt (wpAny_bind (wpAny_holding (thn (hs pins s2 σ H2 x y v ov iv u _ I2 r1 r2 r q2) fun _ s3 ⟨H3,I3,q3⟩=>?_))))
 exact wpAny_release ⟨σ,H3,I3,q3⟩
def qrj (te:TE) (g:TG):TS:=fun D σ H=>te σ H fun x H1=>g x σ H1 D.nx
theorem ps_asg {tg e:Expr} {te:TE} {g:TG} (he:PE X e te) (hg:PG X tg g) (hs:swapsWithSole [tg] e pos.line X.env=pure false:=by rfl) (hw:swappedStores [tg] e X.env=pure none:=by rfl)
  (h1:(assignEach [tg] X.env).map (·.2)=[assign tg X.env]:=by rfl):PS X (.Assign [tg] e pos) (qrj te g):=by
 intro pins s σ H D I h
 refine wpAny_Assign_stores (thn (he pins s σ H _ I h) fun v s1 ⟨x,H1,I1,r1,q1⟩=>?_) hs hw
 rw [h1]
 exact thn (hg pins s1 σ H1 x v _ I1 r1 q1) fun _ s2 q=>q
theorem qaz {i:Nat} {x:Str} {e:Expr} {te:TE} {pos':Pos} (hN:X.N.Nodup) (hi:X.N[i]?=some x) (hx:Loc X.env.scope x) (he:PE X e te) (hs:swapsWith e (some (.Name x pos')) pos.line X.env=pure false:=by rfl) (hf:X.fn x=true ∨ X.env.scope.names.lookup x=some .local:=by first | exact .inl rfl | exact .inr rfl | assumption) :
  PS X (.Assign [.Name x pos'] e pos) (qrj te (qez i)):=by
 intro pins s σ H D I h
 refine wpAny_Assign_Name (thn (he pins s σ H _ I h) fun v s1 ⟨y,H1,I1,r1,q1⟩=>?_) hs
 exact qrk I1 hN hi hx r1 (fun s2 I2=>⟨_,H1,I2,q1⟩) hf
end
section
variable {X:Cx} {pos:Pos}
def tWhile (c:TT) (tb:TS):TS:=fun D σ H=>∃ W:Nat->St->Hp->Prop,(∃ m,W m σ H)/\∀ m σ H,W m σ H ->
 c σ H fun b H1=>if b=true then ∃ N:St->Hp->Prop,(∀ σ' H',N σ' H'->∃ m',m' < m/\W m' σ' H')/\tb { D with nx:=N,ct:=N,bk:=D.nx } σ H1 else D.nx σ H1
theorem ps_while {c:Expr} {body:List Stmt} {tc:TT} {tb:TS} (hp:PassesOwn (model X.prog X.w) X.A X.env X.xe) (hc:PT X c tc) (hb:PSs X body tb):PS X (.While c body [] pos) (tWhile tc tb):=by
 intro pins s σ H D I h
 obtain ⟨W,⟨m0,w0⟩,turn⟩:=h
 refine wpAny_While (codeAny_whileLoop (fun n s'=>∃ σ' H',Inv X pins σ' H' s'/\W n σ' H') ?_ m0 ⟨σ,H,I,w0⟩)
 rintro n s1 ⟨σ1,H1,I1,w1⟩
 refine wpAny_passesOwn hp (thn (hc pins s1 σ1 H1 _ I1 (turn n σ1 H1 w1)) fun b s2 ⟨H2,I2,q2⟩=>?_)
 cases b with
 | true =>
  obtain ⟨N,hN,q2⟩:=q2
  rw [if_pos rfl]
  refine wpAny_passesOwn hp (thn (hb pins s2 σ1 H2 _ I2 q2) fun f s3 q3=>?_)
  cases f with
  | next =>
   obtain ⟨σ3,H3,I3,n3⟩:=q3
   obtain ⟨m',hm,w3⟩:=hN σ3 H3 n3
   exact ⟨m',hm,σ3,H3,I3,w3⟩
  | cont =>
   obtain ⟨σ3,H3,I3,n3⟩:=q3
   obtain ⟨m',hm,w3⟩:=hN σ3 H3 n3
   exact ⟨m',hm,σ3,H3,I3,w3⟩
  | brk=>exact q3
  | ret v=>exact q3
 | false =>
  rw [if_neg Bool.false_ne_true]
  exact wpAny_execs_nil ⟨σ1,H2,I2,q2⟩
end
structure It where
 go:Nat->Hp->Prop
 yld:Nat->Hp->V->Hp->Prop
 stop:Nat->Hp->Prop
def qlm (X:Cx) (pins:List (Addr × Obj)) (H:Hp) (b:Addr):Prop :=
 H b=none/\b ≠ X.env.locals/\b ∉ X.fs/\(b ∈ X.ex ∨ X.s₀.heap.objs.size<=b)/\(∀ x c,X.env.cells.lookup x=some c->c ≠ b)/\∀ p ∈ X.pn++pins,p.1 ≠ b
theorem Inv.fpOk {X:Cx} {pins:List (Addr × Obj)} {σ:St} {H H':Hp} {s:Shared} {b:Addr} (I:Inv X pins σ H s) (hb:s.heap.objs.size<=b) (hn:H' b=none):qlm X pins H' b:=by
 refine ⟨hn,Nat.ne_of_gt (Nat.lt_of_lt_of_le I.lt hb),I.nofs hb,.inr (Nat.le_trans I.sz hb),fun x c e z=>?_,fun p hp z=>?_⟩
 ·obtain ⟨v,q⟩:=I.cell x c e
  exact absurd (Nat.lt_of_lt_of_le q.lt (by rw [z];exact hb)) (Nat.lt_irrefl _)
 ·exact absurd (Nat.lt_of_lt_of_le (Heap.lt_size (I.pin p hp).1) (by rw [z];exact hb)) (Nat.lt_irrefl _)
structure Turn (P:Program) (w:World) (K:PySem.W.Frag) (tg:Expr) (J:It) (fp:List Addr) (it:Addr) (tn:Nat->Heap->Prop):Prop where
 mem:it ∈ fp
 obj:∀ i h,tn i h->∀ b ∈ fp,∃ o,h.get? b=some o/\∀ v,o.data ≠ .cell v
 keep:∀ i h h',tn i h->(∀ b ∈ fp,∀ o,h.get? b=some o->h'.get? b=some o)->tn i h'
 item:∀ (X:Cx),X.prog=P->X.w=w->X.K=K->X.calm=true->∀ (i:Nat) (pins:List (Addr × Obj)) (s:Shared) (σ:St) (H:Hp) (E:Value->Shared->Prop),Inv X pins σ H s->(∀ b ∈ fp,qlm X pins H b)->tn i s.heap->J.go i H ->
  wpAny (model P w) X.A (pyNext (.ref it)) (fun r s1=>∃ u,r=some u /\
   wpAny (model P w) X.A (letOwnedTupleGo tg (.ref it) u) (fun _ s2=>∃ x H',Inv X pins σ H' s2/\RelV x u/\J.yld i H x H'/\tn (i + 1) s2.heap/\∀ b ∈ fp,H' b=none) E s1) E s
 done:∀ (X:Cx),X.prog=P->X.w=w->X.K=K->X.calm=true->∀ (i:Nat) (pins:List (Addr × Obj)) (s:Shared) (σ:St) (H:Hp) (E:Value->Shared->Prop),Inv X pins σ H s->(∀ b ∈ fp,qlm X pins H b)->tn i s.heap->J.stop i H ->
  wpAny (model P w) X.A (pyNext (.ref it)) (fun r s1=>r=none/\Inv X pins σ H s1) E s
 self:∀ (A:Around) (i:Nat) (s:Shared) (Q:Value->Shared->Prop) (E:Value->Shared->Prop),tn i s.heap->Q (.ref it) s->wpAny (model P w) A (pyIter (.ref it)) Q E s
abbrev TI:=St->Hp->(It->Hp->Prop)->Prop
def PIE (X:Cx) (pins:List (Addr × Obj)) (σ:St) (tg:Expr) (R:It->Hp->Prop) (itv:Value) (s2:Shared):Prop :=
 ∃ (it:Addr) (fp:List Addr) (tn:Nat->Heap->Prop) (J:It) (H':Hp),itv = .ref it/\Inv X pins σ H' s2/\Turn X.prog X.w X.K tg J fp it tn/\tn 0 s2.heap/\(∀ b ∈ fp,qlm X pins H' b)/\R J H'
def PI (X:Cx) (tg iter:Expr) (wi:TI):Prop :=
 ∀ (pins:List (Addr × Obj)) (s:Shared) (σ:St) (H:Hp) (R:It->Hp->Prop),Inv X pins σ H s->wi σ H R ->
  wpAny (model X.prog X.w) X.A (eval iter X.env) (fun v s1=>wpAny (model X.prog X.w) X.A (pyIter v) (PIE X pins σ tg R) X.xe s1) X.xe s

theorem go_of {M:Model} {A:Around} {E:Value->Shared->Prop} {s:Shared} {tg:Expr} {it:Addr} {u:Value} {o:Obj} {n:String} {vs:Array Value} {Q:Unit->Shared->Prop} (ho:s.heap.get? it=some o) (hc:o.cls = .type n) (hd:o.data = .fields vs)
    (hn:["enumerate", "zip", "dict_itemiterator", "dict_reverseitemiterator", "odict_iterator", "itertools.zip_longest", "itertools.pairwise"].contains n=false) (hQ:Q () s):wpAny M A (letOwnedTupleGo tg (.ref it) u) Q E s:=by
  unfold letOwnedTupleGo
  cases tg <;> first
    | exact wpAny_pure hQ
    | (cases u <;> first
        | exact wpAny_pure hQ
        | (refine wpAny_bind (wpAny_load ho ?_)
           rw [hc,hd]
           show wpAny M A (if (["enumerate", "zip", "dict_itemiterator", "dict_reverseitemiterator", "odict_iterator", "itertools.zip_longest", "itertools.pairwise"].contains n && vs[0]? == some (rawInt _))=true then _ else _) Q E s
           rw [if_neg (by intro h;rw [hn,Bool.false_and] at h;cases h)]
           exact wpAny_pure hQ))

def Itl (K:PySem.W.Frag) (a:Addr):It :=
 ⟨fun i H=>∃ xs x,SqL K H a xs/\xs[i]?=some x,fun i H x H'=>H'=H/\∀ xs,SqL K H a xs->xs[i]?=some x,fun i H=>∃ xs,SqL K H a xs/\xs.length<=i⟩
def Itr (lo:Int) (n:Nat):It:=⟨fun i _=>i < n,fun i H x H'=>H'=H/\x = .int (lo + i),fun i _=>n<=i⟩
theorem qur {P:Program} {w:World} {K:PySem.W.Frag} {tg:Expr} (a it:Addr):Turn P w K tg (Itl K a) [it] it (fun i h=>h.IsListIter it a i) where
 mem:=by simp
 obj:=fun i h st b hb=>by
  have e:b=it:=by simpa using hb
  subst e
  obtain ⟨o,e,c,d⟩:=st
  exact ⟨o,e,fun v z=>by rw [d] at z;cases z⟩
 keep:=fun i h h' st k=>st.at fun o e=>k it (by simp) o e
 item:=by
  intro X hP hw hK hc i pins s σ H E I hf st hg
  subst hP hw hK
  obtain ⟨xs,x,hq,hx⟩:=hg
  obtain ⟨its,rv,p,hz⟩:=I.list hq
  obtain ⟨u,hu,ru⟩:=rv.get hx
  obtain ⟨f0,f1,f2,f3,f4,f5⟩:=hf it (by simp)
  refine wpAny_pyNext_list_item st p.isList (x:=u) (by simpa using hu) fun h' st' sb=>?_
  have I1:Inv X pins σ H { s with heap:=h' }:=I.turned (t':=s.toks) (fun b o hb e=>(sb.2 b hb).trans e) f0 f1 f3 f4 f5
  obtain ⟨o,e,c,d⟩:=id st'
  exact ⟨u,rfl,go_of (s:={ s with heap:=h' }) e c d (by decide) ⟨x,H,I1,ru,⟨rfl,fun ys hy=>by rw [I.list_inj hy hq];exact hx⟩,st',fun b hb=>(hf b hb).1⟩⟩
 done:=by
  intro X hP hw hK hc i pins s σ H E I hf st hg
  subst hP hw hK
  obtain ⟨xs,hq,hx⟩:=hg
  obtain ⟨its,rv,p,hz⟩:=I.list hq
  obtain ⟨f0,f1,f2,f3,f4,f5⟩:=hf it (by simp)
  have hl:=rv.length
  exact wpAny_pyNext_list_end (I.ok.hd hc) st p.isList (by simp;omega) fun h' eb=>⟨rfl,I.turned (t':=s.toks) (fun b o hb e=>eb b o hb e) f0 f1 f3 f4 f5⟩
 self:=fun _ _ _ _ _ st h=>wpAny_pyIter_listiter st h
theorem qsv {P:Program} {w:World} {K:PySem.W.Frag} {tg:Expr} (it:Addr) (lo:Int) (n:Nat):Turn P w K tg (Itr lo n) [it] it (fun i h=>IsRangeIter h it (lo + (i:Nat) * 1) ((n:Int) - (i:Nat)) 1) where
 mem:=by simp
 obj:=fun i h st b hb=>by
  have e:b=it:=by simpa using hb
  subst e
  exact ⟨_,st,fun v z=>by
   have z':Data.fields _=Data.cell v:=z
   cases z'⟩
 keep:=fun i h h' st k=>k it (by simp) _ st
 item:=by
  intro X hP hw hK hc i pins s σ H E I hf st hg
  subst hP hw hK
  obtain ⟨f0,f1,f2,f3,f4,f5⟩:=hf it (by simp)
  have W:=Walks.range (prog:=X.prog) (w:=X.w) (I.ok.hd hc) it lo 1 n
  refine W.item i s _ _ hg st fun v h' tk hv st' kk=>?_
  obtain ⟨t,rfl⟩:=hv
  have I1:Inv X pins σ H { s with heap:=h',toks:=tk }:=I.turned (fun b o hb e=>kk b o (by simpa using hb) e) f0 f1 f3 f4 f5
  refine ⟨_,rfl,go_of (s:={ s with heap:=h',toks:=tk }) (n := "range_iterator") st' rfl rfl (by decide) ⟨.int (lo + i),H,I1,⟨t,?_⟩,⟨rfl,rfl⟩,st',fun b hb=>(hf b hb).1⟩⟩
  rw [Int.mul_one]
 done:=by
  intro X hP hw hK hc i pins s σ H E I hf st hg
  subst hP hw hK
  obtain ⟨f0,f1,f2,f3,f4,f5⟩:=hf it (by simp)
  exact wpAny_pyNext_range_end (I.ok.hd hc) st (by have:n<=i:=hg;omega) fun h' eb=>⟨rfl,I.turned (t':=s.toks) (fun b o hb e=>eb b o hb e) f0 f1 f3 f4 f5⟩
 self:=fun _ _ _ _ _ st h=>wpAny_pyIter_rangeiter st h
end L2
namespace L2
open PySem PySem.Spec PyProof.Rows
section
variable {X:Cx} {tg:Expr}
def iList (K:PySem.W.Frag) (tl:TE):TI:=fun σ H R=>tl σ H fun x H1=>∃ a,x = .ref a/\(∃ xs,SqL K H1 a xs)/\R (Itl K a) H1
theorem pi_list {l:Expr} {tl:TE} (hl:PE X l tl):PI X tg l (iList X.K tl):=by
 intro pins s σ H R I h
 refine thn (hl pins s σ H _ I h) fun v s1 ⟨x,H1,I1,r1,q1⟩=>?_
 obtain ⟨a,e,⟨xs,hq⟩,q⟩:=q1
 subst e
 cases r1
 obtain ⟨its,rv,p,hz⟩:=I1.list hq
 refine wpAny_pyIter_list p.isList ?_
 refine ⟨s1.heap.objs.size,[s1.heap.objs.size],_,_,H1,rfl,I1.kept (t':=s1.toks) fun b o e=>Heap.get?_push_of_some _ e,qur a _,⟨_,Heap.get?_push_size _ rfl,rfl,rfl⟩,fun b hb=>?_,q⟩
 have e:b=s1.heap.objs.size:=by simpa using hb
 subst e
 exact I1.fpOk (Nat.le_refl _) (I1.hok.fresh (Nat.le_refl _))
theorem range_it {pins:List (Addr × Obj)} {σ:St} {H:Hp} {s:Shared} {R:It->Hp->Prop} {E:Value->Shared->Prop} {lo hi:Int} {t u v:Tok} {tk:Nat} (I:Inv X pins σ H s) (h1:-(2 ^ 62)<=lo) (h2:lo < 2 ^ 62) (h3:-(2 ^ 62)<=hi) (h4:hi < 2 ^ 62)
  (q:R (Itr lo (hi - lo).toNat) H):wpAny (model X.prog X.w) X.A (pyIter (.ref s.heap.objs.size)) (PIE X pins σ tg R) E { s with heap:=s.heap.push { cls:= .type "range",data:= .fields #[.int lo t,.int hi u,.int 1 v] },toks:=tk }:=by
 refine wpAny_pyIter_range (IsRange.new ..) (small_one h1 h2 h3 h4) ?_
 have I1:Inv X pins σ H { s with heap:=s.heap.push { cls:= .type "range",data:= .fields #[.int lo t,.int hi u,.int 1 v] },toks:=tk }:=I.kept fun b o e=>Heap.get?_push_of_some _ e
 refine ⟨(s.heap.push { cls:= .type "range",data:= .fields #[.int lo t,.int hi u,.int 1 v] }).objs.size,[(s.heap.push { cls:= .type "range",data:= .fields #[.int lo t,.int hi u,.int 1 v] }).objs.size],_,_,H,rfl,
  I1.kept (t':=tk) fun b o e=>Heap.get?_push_of_some _ e,qsv _ lo (hi - lo).toNat,?_,fun b hb=>?_,q⟩
 ·have e1:lo + ((0:Nat):Int) * 1=lo:=by simp
  have e2:(((hi - lo).toNat:Nat):Int) - ((0:Nat):Int)=Builtin.Range.rangeSize lo hi 1:=by rw [rangeSize_one];split <;> omega
  show IsRangeIter _ _ (lo + ((0:Nat):Int) * 1) ((((hi - lo).toNat:Nat):Int) - ((0:Nat):Int)) 1
  rw [e1,e2]
  exact Heap.get?_push_size _ rfl
 ·have e:b=(s.heap.push { cls:= .type "range",data:= .fields #[.int lo t,.int hi u,.int 1 v] }).objs.size:=by simpa using hb
  subst e
  exact I1.fpOk (Nat.le_refl _) (I1.hok.fresh (Nat.le_refl _))
def iRng1 (ta:TA):TI:=fun σ H R=>ta σ H fun vs H1=>∃ j:Int,vs=[.int j]/\-(2 ^ 62)<=j/\j < 2 ^ 62/\R (Itr 0 j.toNat) H1
theorem qda {a:Expr} {ta:TA} {p pos:Pos} (hg:Gl X "range") (hm:X.mg "range"=none) (ha:PA X [a] ta) (hs:starEach [a] X.env=[(false,eval a X.env)]:=by rfl):PI X tg (.Call (.Name "range" p) [a] [] pos) (iRng1 ta):=by
 intro pins s σ H R I h
 refine Call_ (qke I hg hm boot_range (PyProof.Rows.callWith_type1 (thn (ha pos pins s σ H _ I h) fun us s1 ⟨vs,H1,I1,r1,q1⟩=>?_) hs rfl))
 obtain ⟨j,e,q1,q2,q⟩:=q1
 subst e
 cases r1 with
 | cons r rr =>
  cases rr
  obtain ⟨t,rfl⟩:=r
  exact call_range_1 (range_it I1 (by omega) (by omega) q1 q2 (by simpa using q))
def tFor (wi:TI) (g:TG) (tb:TS):TS:=fun D σ H=>wi σ H fun J H1=>∃ W:Nat->Nat->St->Hp->Prop,(∃ m,W 0 m σ H1)/\∀ i m σ H,W i m σ H ->
 (J.stop i H/\D.nx σ H) ∨ (J.go i H/\∃ N:St->Hp->Prop,(∀ σ' H',N σ' H'->∃ m',m' < m/\W (i + 1) m' σ' H')/\∀ x H',J.yld i H x H'->g x σ H' fun σ2 H2=>tb { D with nx:=N,ct:=N,bk:=D.nx } σ2 H2)
def ql2 (fp:List Addr) (h:Heap):List (Addr × Obj):=fp.filterMap fun b=>(h.get? b).map fun o=>(b,o)
theorem qd2 {fp:List Addr} {h:Heap} {b:Addr} {o:Obj} (hb:b ∈ fp) (e:h.get? b=some o):(b,o) ∈ ql2 fp h:=List.mem_filterMap.mpr ⟨b,hb,by rw [e];rfl⟩
theorem qv7 {fp:List Addr} {h:Heap} {p:Addr × Obj} (hp:p ∈ ql2 fp h):p.1 ∈ fp/\h.get? p.1=some p.2:=by
 obtain ⟨b,hb,e⟩:=List.mem_filterMap.mp hp
 cases q:h.get? b with
 | none=>rw [q] at e;cases e
 | some o =>
  rw [q] at e
  have e':(b,o)=p:=Option.some.inj e
  subst e'
  exact ⟨hb,q⟩
theorem Inv.pinned {pins:List (Addr × Obj)} {σ:St} {H:Hp} {s:Shared} {fp:List Addr} (I:Inv X pins σ H s) (hf:∀ b ∈ fp,qlm X pins H b) (ho:∀ b ∈ fp,∃ o,s.heap.get? b=some o/\∀ v,o.data ≠ .cell v):Inv X (pins++ql2 fp s.heap) σ H s :=
 I.pins_of fun p hp=>(List.mem_append.mp hp).elim (fun z=>I.pin p (List.mem_append_right _ z)) fun z=>by
  obtain ⟨hb,e⟩:=qv7 z
  obtain ⟨f0,f1,f2,_⟩:=hf p.1 hb
  obtain ⟨o,e',d⟩:=ho p.1 hb
  rw [e] at e';cases e'
  exact ⟨e,f0,f1,f2,d⟩
theorem Inv.unpinned {pins pl:List (Addr × Obj)} {σ:St} {H:Hp} {s:Shared} (I:Inv X (pins++pl) σ H s):Inv X pins σ H s:=I.pins_of fun p hp=>I.pin p (List.mem_append_right _ (List.mem_append_left _ hp))
theorem qeq {iter:Expr} {body:List Stmt} {wi:TI} {g:TG} {tb:TS} {pos:Pos} (hp:PassesOwn (model X.prog X.w) X.A X.env X.xe) (hc:X.calm=true) (hi:PI X tg iter wi) (hg:PG X tg g) (hb:PSs X body tb)
  (hs:∀ x,foldedSetIterable iter X.env x=pure x:=by intro _;rfl):PS X (.For tg iter body [] pos) (tFor wi g tb):=by
 intro pins s σ H D I h
 refine wpAny_For (thn (hi pins s σ H _ I h) fun v s1 h1=>thn h1 fun itv s2 h2=>?_) hs
 obtain ⟨it,fp,tn,J,H2,e,I2,T,st2,f2,W,⟨m0,w0⟩,turn⟩:=h2
 subst e
 -- what stays true of the iterator's objects through the loop
 have stat:∀ {H':Hp},(∀ b ∈ fp,H' b=none)->∀ b ∈ fp,qlm X pins H' b:=fun hn b hb=>⟨hn b hb,(f2 b hb).2⟩
 refine codeAny_forLoop_any (fun n s'=>∃ i σ' H',Inv X pins σ' H' s'/\tn i s'.heap/\(∀ b ∈ fp,H' b=none)/\W i n σ' H') ?_ m0 ⟨0,σ,H2,I2,st2,fun b hb=>(f2 b hb).1,w0⟩
 rintro n s3 ⟨i,σ3,H3,I3,st3,fr3,w3⟩
 rcases turn i n σ3 H3 w3 with ⟨stop,qn⟩ | ⟨go,N,hN,step⟩
 ·refine wpAny_passesOwn hp (thn (T.done X rfl rfl rfl hc i pins s3 σ3 H3 X.xe I3 (stat fr3) st3 stop) fun r s4 ⟨hr,I4⟩=>?_)
  subst hr
  exact wpAny_execs_nil ⟨σ3,H3,I4,qn⟩
 ·refine wpAny_passesOwn hp (thn (T.item X rfl rfl rfl hc i pins s3 σ3 H3 X.xe I3 (stat fr3) st3 go) fun r s4 ⟨u,hr,h4⟩=>?_)
  subst hr
  refine wpAny_passesOwn hp (thn h4 fun _ s5 ⟨x,H5,I5,r5,y5,st5,fr5⟩=>?_)
  have I5':=I5.pinned (stat fr5) (T.obj _ _ st5)
  refine wpAny_passesOwn hp (thn (hg _ s5 σ3 H5 x u _ I5' r5 (step x H5 y5)) fun _ s6 ⟨σ6,H6,I6,q6⟩=>?_)
  refine wpAny_passesOwn hp (thn (hb _ s6 σ6 H6 _ I6 q6) fun f s7 q7=>?_)
  have again:∀ {σ7:St} {H7:Hp},Inv X (pins++ql2 fp s5.heap) σ7 H7 s7->N σ7 H7->∃ m,m < n/\∃ i σ' H',Inv X pins σ' H' s7/\tn i s7.heap/\(∀ b ∈ fp,H' b=none)/\W i m σ' H':=fun {σ7 H7} I7 n7=>by
   obtain ⟨m',hm,w7⟩:=hN σ7 H7 n7
   refine ⟨m',hm,i + 1,σ7,H7,I7.unpinned,T.keep _ _ _ st5 fun b hb o e=>(I7.pin (b,o) (List.mem_append_right _ (List.mem_append_right _ (qd2 hb e)))).1,fun b hb=>?_,w7⟩
   obtain ⟨o,e,d⟩:=T.obj _ _ st5 b hb
   exact (I7.pin (b,o) (List.mem_append_right _ (List.mem_append_right _ (qd2 hb e)))).2.1
  cases f with
  | next=>obtain ⟨σ7,H7,I7,n7⟩:=q7;exact again I7 n7
  | cont=>obtain ⟨σ7,H7,I7,n7⟩:=q7;exact again I7 n7
  | brk=>obtain ⟨σ7,H7,I7,q7⟩:=q7;exact ⟨σ7,H7,I7.unpinned,q7⟩
  | ret v=>obtain ⟨x7,σ7,H7,I7,r7,q7⟩:=q7;exact ⟨x7,σ7,H7,I7.unpinned,r7,q7⟩
end
theorem qwu {lo:Int} {n:Nat} {g:TG} {tb:TS} {D:qrc} {σ:St} {H:Hp} (Pv:Nat->St->Hp->Prop) (h0:Pv 0 σ H)
  (hs:∀ i σ H,i < n->Pv i σ H->g (.int (lo + i)) σ H fun σ2 H2=>tb { D with nx:=Pv (i + 1),ct:=Pv (i + 1),bk:=D.nx } σ2 H2) (hd:∀ σ H,Pv n σ H->D.nx σ H) :
  ∃ W:Nat->Nat->St->Hp->Prop,(∃ m,W 0 m σ H)/\∀ i m σ H,W i m σ H ->
   ((Itr lo n).stop i H/\D.nx σ H) ∨ ((Itr lo n).go i H/\∃ N:St->Hp->Prop,(∀ σ' H',N σ' H'->∃ m',m' < m/\W (i + 1) m' σ' H')/\∀ x H',(Itr lo n).yld i H x H'->g x σ H' fun σ2 H2=>tb { D with nx:=N,ct:=N,bk:=D.nx } σ2 H2):=by
 refine ⟨fun i m σ H=>m=n - i/\i<=n/\Pv i σ H,⟨n,by simp,Nat.zero_le _,h0⟩,?_⟩
 rintro i m σ H ⟨rfl,hi,p⟩
 by_cases hlt:i < n
 ·refine .inr ⟨hlt,Pv (i + 1),fun σ' H' p'=>⟨n - (i + 1),by omega,rfl,hlt,p'⟩,fun x H' y=>?_⟩
  obtain ⟨e,y⟩:=y
  subst e y
  exact hs i σ _ hlt p
 ·have e:i=n:=by omega
  subst e
  exact .inl ⟨Nat.le_refl _,hd σ H p⟩
end L2
namespace L2
open PySem PySem.Spec PyProof.Rows
abbrev R2:=V->V->Hp->VK->Prop
def OpR (X:Cx) (f:Value->Value->Sem Value) (r:R2):Prop :=
 ∀ (pins:List (Addr × Obj)) (s:Shared) (σ:St) (H:Hp) (x y:V) (v u:Value) (Q:VK),Inv X pins σ H s->RelV x v->RelV y u->r x y H Q ->
  wpAny (model X.prog X.w) X.A (f v u) (EP X pins σ Q) X.xe s
def UnR (X:Cx) (f:Value->Sem Value) (r:V->Hp->VK->Prop):Prop :=
 ∀ (pins:List (Addr × Obj)) (s:Shared) (σ:St) (H:Hp) (x:V) (v:Value) (Q:VK),Inv X pins σ H s->RelV x v->r x H Q ->
  wpAny (model X.prog X.w) X.A (f v) (EP X pins σ Q) X.xe s
def CallR (X:Cx) (f:Value) (r:List V->Hp->VK->Prop):Prop :=
 ∀ (pins:List (Addr × Obj)) (s:Shared) (σ:St) (H:Hp) (xs:List V) (us:List Value) (Q:VK),Inv X pins σ H s->Vals xs us->r xs H Q ->
  wpAny (model X.prog X.w) X.A (call f us) (EP X pins σ Q) X.xe s
def TruR (X:Cx) (r:V->Hp->(Bool->Hp->Prop)->Prop):Prop :=
 ∀ (pins:List (Addr × Obj)) (s:Shared) (σ:St) (H:Hp) (x:V) (v:Value) (Q:Bool->Hp->Prop),Inv X pins σ H s->RelV x v->r x H Q ->
  wpAny (model X.prog X.w) X.A (truthy v) (TP X pins σ Q) X.xe s

def tOp (r:R2) (ta tb:TE):TE:=fun σ H Q=>ta σ H fun x H1=>tb σ H1 fun y H2=>r x y H2 Q
def tUn (r:V->Hp->VK->Prop) (ta:TE):TE:=fun σ H Q=>ta σ H fun x H1=>r x H1 Q
def rI (C:Int->Int->Prop) (g:Int->Int->V):R2:=fun x y H Q=>∃ i j,x = .int i/\y = .int j/\C i j/\Q (g i j) H
def rI0 (g:Int->Int->V):R2:=fun x y H Q=>∃ i j,x = .int i/\y = .int j/\Q (g i j) H
def rU (g:Int->V):V->Hp->VK->Prop:=fun x H Q=>∃ i,x = .int i/\Q (g i) H

section
variable {X:Cx} {a b c:Expr} {ta tb tc:TE} {pos:Pos}
theorem binT (ha:PE X a ta) (hb:PE X b tb) {pins:List (Addr × Obj)} {s:Shared} {σ:St} {H:Hp} {R:V->V->Hp->Prop} (I:Inv X pins σ H s)
  (h:ta σ H fun x H1=>tb σ H1 fun y H2=>R x y H2) {Q:Value->Shared->Prop} {f:Value->Value->Sem Value}
  (hf:∀ v u s2 x y H2,Inv X pins σ H2 s2->RelV x v->RelV y u->R x y H2->wpAny (model X.prog X.w) X.A (f v u) Q X.xe s2) :
  wpAny (model X.prog X.w) X.A (eval a X.env) (fun v s₁=>wpAny (model X.prog X.w) X.A (eval b X.env) (fun u s₂=>wpAny (model X.prog X.w) X.A (f v u) Q X.xe s₂) X.xe s₁) X.xe s:=by
 refine thn (ha pins s σ H _ I h) fun v s1 ⟨x,H1,I1,r1,q1⟩=>?_
 refine thn (hb pins s1 σ H1 _ I1 q1) fun u s2 ⟨y,H2,I2,r2,q2⟩=>?_
 exact hf v u s2 x y H2 I2 r1 r2 q2

theorem qa8 {op:Operator} {r:R2} (ho:OpR X (binaryOp op) r) (ha:PE X a ta) (hb:PE X b tb):PE X (.BinOp a op b pos) (tOp r ta tb):=by
 intro pins s σ H Q I h
 exact wpAny_BinOp (binT ha hb I h fun v u s2 x y H2 I2 rx ry q=>ho pins s2 σ H2 x y v u Q I2 rx ry q)
theorem qnc {op:UnaryOp} {r:V->Hp->VK->Prop} (ho:UnR X (unaryOp op) r) (ha:PE X a ta):PE X (.UnaryOp op a pos) (tUn r ta):=by
 intro pins s σ H Q I h
 exact UnaryOp_ (thn (ha pins s σ H _ I h) fun v s1 ⟨x,H1,I1,r1,q1⟩=>ho pins s1 σ H1 x v Q I1 r1 q1)
theorem opI {f:Value->Value->Sem Value} {C:Int->Int->Prop} {g:Int->Int->Int}
  (rule:∀ (i j:Int) (t u:Tok) (s:Shared) (Q:Value->Shared->Prop) (E:Value->Shared->Prop),C i j->Q (.int (g i j) s.toks) { s with toks:=s.toks + 1 }->wpAny (model X.prog X.w) X.A (f (.int i t) (.int j u)) Q E s) :
  OpR X f (rI C fun i j=> .int (g i j)):=by
 intro pins s σ H x y v u Q I rx ry h
 obtain ⟨i,j,rfl,rfl,hc,q⟩:=h
 obtain ⟨t,rfl⟩:=rx
 obtain ⟨t',rfl⟩:=ry
 exact rule i j t t' s _ _ hc ⟨.int (g i j),H,I.tok _,⟨_,rfl⟩,q⟩
theorem opI0 {f:Value->Value->Sem Value} {g:Int->Int->Int}
  (rule:∀ (i j:Int) (t u:Tok) (s:Shared) (Q:Value->Shared->Prop) (E:Value->Shared->Prop),Q (.int (g i j) s.toks) { s with toks:=s.toks + 1 }->wpAny (model X.prog X.w) X.A (f (.int i t) (.int j u)) Q E s) :
  OpR X f (rI0 fun i j=> .int (g i j)):=by
 intro pins s σ H x y v u Q I rx ry h
 obtain ⟨i,j,rfl,rfl,q⟩:=h
 obtain ⟨t,rfl⟩:=rx
 obtain ⟨t',rfl⟩:=ry
 exact rule i j t t' s _ _ ⟨.int (g i j),H,I.tok _,⟨_,rfl⟩,q⟩
theorem opB0 {f:Value->Value->Sem Value} {g:Int->Int->Bool}
  (rule:∀ (i j:Int) (t u:Tok) (s:Shared) (Q:Value->Shared->Prop) (E:Value->Shared->Prop),Q (.bool (g i j)) s->wpAny (model X.prog X.w) X.A (f (.int i t) (.int j u)) Q E s) :
  OpR X f (rI0 fun i j=> .bl (g i j)):=by
 intro pins s σ H x y v u Q I rx ry h
 obtain ⟨i,j,rfl,rfl,q⟩:=h
 obtain ⟨t,rfl⟩:=rx
 obtain ⟨t',rfl⟩:=ry
 exact rule i j t t' s _ _ ⟨.bl (g i j),H,I,rfl,q⟩

def CPow (i j:Int):Prop:=0<=j/\j<=1000000/\i.natAbs < 2 ^ 64
def CMul (i j:Int):Prop:=(-(2 ^ 64) < i/\i < 2 ^ 64) ∨ (-(2 ^ 64) < j/\j < 2 ^ 64)
theorem CMul.ok {i j:Int} (h:CMul i j):IntMulOk i j:=by
 rcases h with ⟨h1,h2⟩ | ⟨h1,h2⟩
 ·exact .of_left (intBits_le_64 h1 h2)
 ·exact .of_right (intBits_le_64 h1 h2)
theorem op_add:OpR X (binaryOp .Add) (rI0 fun i j=> .int (i + j)):=opI0 fun _ _ _ _ _ _ _ q=>add_int q
theorem qfq:OpR X (binaryOp .Sub) (rI0 fun i j=> .int (i - j)):=opI0 fun _ _ _ _ _ _ _ q=>sub_int q
theorem ql4:OpR X (binaryOp .Mult) (rI CMul fun i j=> .int (i * j)):=opI fun _ _ _ _ _ _ _ hc q=>mul_int q hc.ok
theorem qj2:OpR X (binaryOp .Mod) (rI (fun _ j=>0 < j) fun i j=> .int (i % j)):=opI fun i j _ _ _ _ _ hc q=>by
 have h1:(0:Int) < j:=hc
 exact mod_int' (by omega) (by rw [Int.fmod_eq_emod_of_nonneg i (by omega)];exact q)
theorem qev:OpR X (binaryOp .Pow) (rI CPow fun i j=> .int (i ^ j.toNat)):=opI fun _ _ _ _ _ _ _ hc q=>pow_int_small hc.1 hc.2.1 hc.2.2 q
theorem unI {f:Value->Sem Value} {g:Int->Int}
  (rule:∀ (i:Int) (t:Tok) (s:Shared) (Q:Value->Shared->Prop) (E:Value->Shared->Prop),Q (.int (g i) s.toks) { s with toks:=s.toks + 1 }->wpAny (model X.prog X.w) X.A (f (.int i t)) Q E s) :
  UnR X f (rU fun i=> .int (g i)):=by
 intro pins s σ H x v Q I rx h
 obtain ⟨i,rfl,q⟩:=h
 obtain ⟨t,rfl⟩:=rx
 exact rule i t s _ _ ⟨.int (g i),H,I.tok _,⟨_,rfl⟩,q⟩
theorem qg8:UnR X (unaryOp .USub) (rU fun i=> .int (-i)):=unI fun _ _ _ _ _ q=>neg_int q
end
section
variable {X:Cx} {a b c:Expr} {ta tb tc:TE} {pos:Pos}
theorem qww {pins:List (Addr × Obj)} {σ:St} {H:Hp} {s:Shared} {Q:VK} {k k':Bool} (I:Inv X pins σ H s) (q:Q (.bl k) H) (e:k=k'):EP X pins σ Q (.bool k') s:=by
 subst e
 exact ⟨.bl k,H,I,rfl,q⟩
theorem op_lt:OpR X (compareOp .Lt) (rI0 fun i j=> .bl (decide (i < j))):=opB0 fun _ _ _ _ _ _ _ q=>lt_int q
theorem op_le:OpR X (compareOp .LtE) (rI0 fun i j=> .bl (decide (i<=j))):=opB0 fun _ _ _ _ _ _ _ q=>le_int q
theorem op_gt:OpR X (compareOp .Gt) (rI0 fun i j=> .bl (decide (j < i))):=opB0 fun _ _ _ _ _ _ _ q=>gt_int q
theorem op_ge:OpR X (compareOp .GtE) (rI0 fun i j=> .bl (decide (j<=i))):=opB0 fun _ _ _ _ _ _ _ q=>ge_int q
theorem op_isN:OpR X (compareOp .Is) (fun x y H Q=>y = .non/\Q (.bl (decide (x = .non))) H):=by
 intro pins s σ H x y v u Q I rx ry h
 obtain ⟨rfl,q⟩:=h
 cases ry
 refine is_none_gen (qww I q ?_)
 cases x <;> first
  | (cases rx;rfl)
  | (obtain ⟨t,rfl⟩:=rx;rfl)
theorem op_notN:OpR X (compareOp .IsNot) (fun x y H Q=>y = .non/\Q (.bl (!decide (x = .non))) H):=by
 intro pins s σ H x y v u Q I rx ry h
 obtain ⟨rfl,q⟩:=h
 cases ry
 refine isnot_none_gen (qww I q ?_)
 cases x <;> first
  | (cases rx;rfl)
  | (obtain ⟨t,rfl⟩:=rx;rfl)

theorem OpR.or {f:Value->Value->Sem Value} {r r':R2} (h:OpR X f r) (h':OpR X f r'):OpR X f (fun x y H Q=>r x y H Q ∨ r' x y H Q):=by
 intro pins s σ H x y v u Q I rx ry q
 rcases q with q | q
 ·exact h pins s σ H x y v u Q I rx ry q
 ·exact h' pins s σ H x y v u Q I rx ry q

theorem qbl (b:Expr) {op:CmpOp} (h:op ≠ .In:=by decide) (h2:op ≠ .NotIn:=by decide):behindInMarks op b=false:=by
 have e1:(op == CmpOp.In)=false:=by cases op <;> first | rfl | exact absurd rfl h
 have e2:(op == CmpOp.NotIn)=false:=by cases op <;> first | rfl | exact absurd rfl h2
 cases b <;> simp [behindInMarks,e1,e2]
theorem qh6 {op:CmpOp} {r:R2} (ho:OpR X (compareOp op) r) (ha:PE X a ta) (hb:PE X b tb) (hm:behindInMarks op b=false):PE X (.Compare a [op] [b] pos) (tOp r ta tb):=by
 intro pins s σ H Q I h
 exact wpAny_Compare1 (binT ha hb I h fun v u s2 x y H2 I2 rx ry q=>ho pins s2 σ H2 x y v u Q I2 rx ry q) hm
def tTest (t:TE):TT:=fun σ H Q=>t σ H fun x H'=>∃ k,x = .bl k/\Q k H'
theorem qbe {op:CmpOp} {r:R2} (ho:OpR X (compareOp op) r) (ha:PE X a ta) (hb:PE X b tb) (hm:behindInMarks op b=false):PT X (.Compare a [op] [b] pos) (tTest (tOp r ta tb)):=by
 intro pins s σ H Q I h
 refine wpAny_isTrue_Compare1 (thn (ha pins s σ H _ I h) fun v s1 ⟨x,H1,I1,r1,q1⟩=>thn (hb pins s1 σ H1 _ I1 q1) fun u s2 ⟨y,H2,I2,r2,q2⟩ =>
  thn (ho pins s2 σ H2 x y v u _ I2 r1 r2 q2) fun c s3 ⟨z,H3,I3,r3,k,e,q3⟩=>?_) hm
 subst e
 cases r3
 exact wpAny_truthy_bool ⟨H3,I3,q3⟩
def qux (r r':R2) (ta tb tc:TE):TE:=fun σ H Q=>ta σ H fun x H1=>tb σ H1 fun y H2=>r x y H2 fun z H3=>∃ k,z = .bl k /\
 (if k=true then tc σ H3 fun w' H4=>r' y w' H4 Q else Q (.bl false) H3)
theorem pe_chain {op op':CmpOp} {r r':R2} (ho:OpR X (compareOp op) r) (ho':OpR X (compareOp op') r') (ha:PE X a ta) (hb:PE X b tb) (hc:PE X c tc)
  (hm:lastMarks [op,op'] [b,c]=false:=by with_unfolding_all rfl):PE X (.Compare a [op,op'] [b,c] pos) (qux r r' ta tb tc):=by
 intro pins s σ H Q I h
 refine Compare_chain (thn (ha pins s σ H _ I h) fun v s1 ⟨x,H1,I1,r1,q1⟩=>chain_link (thn (hb pins s1 σ H1 _ I1 q1) fun u s2 ⟨y,H2,I2,r2,q2⟩ =>
  thn (ho pins s2 σ H2 x y v u _ I2 r1 r2 q2) fun d s3 ⟨z,H3,I3,r3,k,e,q3⟩=>?_)) hm
 subst e
 cases r3
 refine wpAny_truthy_bool ?_
 cases k with
 | false=>exact ite_ff ⟨.bl false,H3,I3,rfl,q3⟩
 | true=>exact ite_tt (chain_last (thn (hc pins s3 σ H3 _ I3 q3) fun w' s4 ⟨z',H4,I4,r4,q4⟩=>ho' pins s4 σ H4 y z' u w' Q I4 r2 r4 q4))
theorem qrs {op op':CmpOp} {r r':R2} (ho:OpR X (compareOp op) r) (ho':OpR X (compareOp op') r') (ha:PE X a ta) (hb:PE X b tb) (hc:PE X c tc)
  (hm:lastMarks [op,op'] [b,c]=false:=by with_unfolding_all rfl):PT X (.Compare a [op,op'] [b,c] pos) (tTest (qux r r' ta tb tc)):=by
 intro pins s σ H Q I h
 refine isTrue_chain (thn (ha pins s σ H _ I h) fun v s1 ⟨x,H1,I1,r1,q1⟩=>test_link (thn (hb pins s1 σ H1 _ I1 q1) fun u s2 ⟨y,H2,I2,r2,q2⟩ =>
  thn (ho pins s2 σ H2 x y v u _ I2 r1 r2 q2) fun d s3 ⟨z,H3,I3,r3,k,e,q3⟩=>?_)) hm
 subst e
 cases r3
 refine wpAny_truthy_bool ?_
 cases k with
 | false =>
  obtain ⟨k',e',q'⟩:=q3
  cases e'
  exact ite_ff ⟨H3,I3,q'⟩
 | true =>
  refine ite_tt (test_last (thn (hc pins s3 σ H3 _ I3 q3) fun w' s4 ⟨z',H4,I4,r4,q4⟩=>thn (ho' pins s4 σ H4 y z' u w' _ I4 r2 r4 q4) fun d' s5 ⟨z2,H5,I5,r5,k2,e2,q5⟩=>?_))
  subst e2
  cases r5
  exact wpAny_truthy_bool ⟨H5,I5,q5⟩

def TruV (K:PySem.W.Frag) (x:V) (H:Hp) (k:Bool):Prop :=
 match x with
 | .non=>k=false
 | .bl b=>k=b
 | .int i=>k=(i != 0)
 | .str y=>y.length<=sizeLine/\k=((y.length:Int) != 0)
 | .byt y=>y.size<=sizeLine/\k=((y.size:Int) != 0)
 | .ref p=>(∃ xs,SqL K H p xs/\k=!xs.isEmpty) ∨ (∃ xs,SqT K H p xs/\k=!xs.isEmpty) ∨ ∃ kvs,H p=some (.dK kvs)/\k=!kvs.isEmpty
 | _=>False
theorem qtn {κ:Type} {kvs:List (κ × V)} {vs:List (κ × Value)} (r:KV kvs vs):(!vs.isEmpty)=!kvs.isEmpty:=by
 cases r <;> rfl
theorem ql9 {xs:List V} {its:List Value} (r:Vals xs its):(!its.toArray.isEmpty)=!xs.isEmpty:=by
 cases r <;> simp
theorem qkb:(sizeLine:Nat) < 2 ^ 63:=by rw [sizeLine_eq];decide
theorem tru_ok:TruR X (fun x H Q=>∃ k,TruV X.K x H k/\Q k H):=by
 intro pins s σ H x v Q I rx h
 obtain ⟨k,e,q⟩:=h
 have hl:=qkb
 have hs:sizeLine=16777216:=sizeLine_eq
 cases x with
 | non =>
  cases rx
  have e':k=false:=e
  subst e'
  exact truthy_none ⟨H,I,q⟩
 | bl b =>
  cases rx
  have e':k=b:=e
  subst e'
  exact wpAny_truthy_bool ⟨H,I,q⟩
 | int i =>
  obtain ⟨t,rfl⟩:=rx
  have e':k=(i != 0):=e
  subst e'
  exact PySem.P.truthy_int ⟨H,I,q⟩
 | str y =>
  obtain ⟨t,rfl⟩:=rx
  obtain ⟨hy,e'⟩:y.length<=sizeLine/\k=((y.length:Int) != 0):=e
  subst e'
  exact PySem.P.truthy_str (by omega) ⟨H,I.tok _,q⟩
 | byt y =>
  obtain ⟨t,rfl⟩:=rx
  obtain ⟨hy,e'⟩:y.size<=sizeLine/\k=((y.size:Int) != 0):=e
  subst e'
  exact PySem.W.truthy_bytes (by omega) ⟨H,I.tok _,q⟩
 | ref p =>
  cases rx
  have e':(∃ xs,SqL X.K H p xs/\k=!xs.isEmpty) ∨ (∃ xs,SqT X.K H p xs/\k=!xs.isEmpty) ∨ ∃ kvs,H p=some (.dK kvs)/\k=!kvs.isEmpty:=e
  rcases e' with ⟨xs,hx,e'⟩ | ⟨xs,hx,e'⟩ | ⟨kvs,hx,e'⟩
  ·subst e'
   obtain ⟨its,r,pl,hz⟩:=I.list hx
   have hlen:=r.length
   exact wpAny_truthy_list pl.isList (by simp only [List.size_toArray];omega) ⟨H,I.tok _,by rw [ql9 r];exact q⟩
  ·subst e'
   obtain ⟨its,r,pl,hz⟩:=I.tuple hx
   have hlen:=r.length
   exact truthy_tuple pl (by simp only [List.size_toArray];omega) ⟨H,I.tok _,by rw [ql9 r];exact q⟩
  ·subst e'
   obtain ⟨hz,hS,vs,r,m⟩:kvs.length<=sizeLine/\(p == sysModules)=false/\∃ vs,KV kvs vs/\s.heap.DictOf (qbq X.prog X.w) p vs:=I.hok p _ hx
   have hlen:kvs.length=vs.length:=Paired.length r
   exact wpAny_truthy_dict hS m (by omega) ⟨H,I.tok _,by rw [qtn r];exact q⟩
 | _=>exact (show False from e).elim
theorem pt_truth (ha:PE X a ta) (he:∀ whole,isTrue a X.env whole=(do let v <- whole;standAt a.pos;holding [v] (truthy v))) :
  PT X a (fun σ H Q=>ta σ H fun x H'=>∃ k,TruV X.K x H' k/\Q k H'):=by
 intro pins s σ H Q I h
 exact isTrue_plain (thn (ha pins s σ H _ I h) fun v s1 ⟨x,H1,I1,r1,q1⟩=>tru_ok pins s1 σ H1 x v Q I1 r1 q1) (he _)

theorem op_add_str:OpR X (binaryOp .Add) (fun x y H Q=>∃ i j,x = .str i/\y = .str j/\i.length + j.length<=sizeLine/\Q (.str (i++j)) H):=by
 intro pins s σ H x y v u Q I rx ry h
 obtain ⟨i,j,rfl,rfl,hz,q⟩:=h
 obtain ⟨t,rfl⟩:=rx
 obtain ⟨t',rfl⟩:=ry
 exact add_str (fun t' tk=>⟨.str (i++j),H,I.tok _,⟨_,rfl⟩,q⟩) hz
theorem qjl {x:V} {us:List Value} (r:Vals [x] us):∃ u,us=[u]/\RelV x u:=by
 cases r with
 | cons r1 r2=>cases r2;exact ⟨_,rfl,r1⟩
theorem vals2 {x y:V} {us:List Value} (r:Vals [x,y] us):∃ u w',us=[u,w']/\RelV x u/\RelV y w':=by
 cases r with
 | cons r1 r2 =>
  cases r2 with
  | cons r3 r4=>cases r4;exact ⟨_,_,rfl,r1,r3⟩
theorem qxo (hc:X.calm=true):CallR X (.builtin "min") (fun xs H Q=>∃ i j,xs=[.int i,.int j]/\Q (.int (if j < i then j else i)) H):=by
 intro pins s σ H xs us Q I r h
 obtain ⟨i,j,rfl,q⟩:=h
 obtain ⟨u,w',rfl,⟨t,rfl⟩,⟨t',rfl⟩⟩:=vals2 r
 refine min_two_ints (I.ok.hd hc) fun h' tk k=>⟨_,H,I.kept k,?_,q⟩
 by_cases hj:j < i
 ·rw [if_pos hj,if_pos hj];exact ⟨_,rfl⟩
 ·rw [if_neg hj,if_neg hj];exact ⟨_,rfl⟩
def LenV (K:PySem.W.Frag) (x:V) (H:Hp) (n:Nat):Prop :=
 match x with
 | .str y=>y.length<=sizeLine/\n=y.length
 | .byt y=>y.size<=sizeLine/\n=y.size
 | .ref p=>(∃ xs,SqL K H p xs/\n=xs.length) ∨ ∃ xs,SqT K H p xs/\n=xs.length
 | _=>False
theorem call_len:CallR X (.builtin "len") (fun xs H Q=>∃ x n,xs=[x]/\LenV X.K x H n/\Q (.int n) H):=by
 intro pins s σ H xs us Q I r h
 obtain ⟨x,n,rfl,e,q⟩:=h
 obtain ⟨u,rfl,rx⟩:=qjl r
 have hl:=qkb
 have hs:sizeLine=16777216:=sizeLine_eq
 cases x with
 | str y =>
  obtain ⟨t,rfl⟩:=rx
  obtain ⟨hy,e'⟩:y.length<=sizeLine/\n=y.length:=e
  subst e'
  exact len_str (by omega) ⟨.int _,H,I.tok _,⟨_,rfl⟩,q⟩
 | byt y =>
  obtain ⟨t,rfl⟩:=rx
  obtain ⟨hy,e'⟩:y.size<=sizeLine/\n=y.size:=e
  subst e'
  exact PySem.W.len_bytes (by omega) ⟨.int _,H,I.tok _,⟨_,rfl⟩,q⟩
 | ref p =>
  cases rx
  have e':(∃ xs,SqL X.K H p xs/\n=xs.length) ∨ ∃ xs,SqT X.K H p xs/\n=xs.length:=e
  rcases e' with ⟨xs,hx,e'⟩ | ⟨xs,hx,e'⟩
  ·subst e'
   obtain ⟨its,r',pl,hz⟩:=I.list hx
   have hlen:=r'.length
   exact Calls.call_len_list pl.isList (by simp only [List.size_toArray];omega) ⟨.int xs.length,H,I.tok _,⟨_,by simp only [List.size_toArray];rw [hlen]⟩,q⟩
  ·subst e'
   obtain ⟨its,r',pl,hz⟩:=I.tuple hx
   have hlen:=r'.length
   exact len_tuple pl (by simp only [List.size_toArray];omega) ⟨.int xs.length,H,I.tok _,⟨_,by simp only [List.size_toArray];rw [hlen]⟩,q⟩
 | _=>exact (show False from e).elim
end
end L2
namespace L2
open PySem PySem.Spec PyProof.Rows
structure ObjM (h:Heap) (x dx C:Addr) (mA:Str->Option Value):Prop where
 obj:h.get? x=some (PySem.W.instObj C dx)
 ns:h.Ns1 dx mA
 ne:dx ≠ x

theorem qwb {h:Heap} {dx:Addr} {mA:Str->Option Value} (n:h.Ns1 dx mA):∃ od,h.get? dx=some od/\∀ name,PySem.W.lookIn name od=some (mA name):=by
 obtain ⟨o,es,ep,ho,hd,hk,_,hm⟩:=n
 refine ⟨o,ho,fun name=>?_⟩
 have e:=hm name
 unfold nsFind findBy at e
 rw [<- Array.find?_toList] at e
 unfold PySem.W.lookIn
 rw [hd]
 dsimp only
 split
 ·rename_i y q
  rw [q] at e
  exact congrArg some e
 ·rename_i q
  rw [q] at e
  have a:es.toList.any (·.refKey)=false:=by
   rw [List.any_eq_false]
   intro y hy
   obtain ⟨z,t,hkey⟩:=hk y (Array.mem_toList_iff.mp hy)
   simp [DictEntry.refKey,hkey]
  have a':¬ es.toList.any (·.refKey)=true:=by rw [a];exact Bool.false_ne_true
  rw [if_neg a']
  exact congrArg some e

theorem ObjM.look {h:Heap} {x dx C:Addr} {mA:Str->Option Value} (I:ObjM h x dx C mA):∃ od,PySem.W.InstAt h x (PySem.W.instObj C dx) C (some od)/\∀ name,PySem.W.lookIn name od=some (mA name) :=
 let ⟨od,ho,hl⟩:=qwb I.ns
 ⟨od,⟨I.obj,rfl,rfl,ho⟩,hl⟩

section
variable {prog:Program} {w:World} {A:Around} {E:Value->Shared->Prop} {s:Shared} {K:PySem.W.Frag} {x dx C f:Addr} {mA:Str->Option Value} {name:Str} {v:Value}
theorem get_map {expr:Bool} {Q:Value->Shared->Prop} (X:K.In s.heap) (I:ObjM s.heap x dx C mA) (hg:PySem.W.plainGet K C name=true) (hh:PySem.W.hasDictIn K C=true)
  (ha:PySem.W.findIn K (.ref C) name=some none) (hv:mA name=some v) (hv':PySem.W.handedIn v=true) (h:Q v { s with toks:=s.toks + 1 }) :
  wpAny (model prog w) A (getAttr (.ref x) name expr) Q E s:=by
 obtain ⟨od,J,hl⟩:=I.look
 exact PySem.W.get_value X J (PySem.W.plainGet_of hg).1 (PySem.W.findObj_own hh ha rfl (by rw [hl,hv])) hv' h

theorem get_meth {pl:Sem Bool} {Q:Value × List Value->Shared->Prop} (X:K.In s.heap) (I:ObjM s.heap x dx C mA) (hg:PySem.W.plainGet K C name=true)
  (hf:PySem.W.findIn K (.ref C) name=some (some (.ref f))) (ht:PySem.W.isFn K (.ref f)=true) (hv:mA name=none) (h:Q (.ref f,[.ref x]) s) :
  wpAny (model prog w) A (getMethod (.ref x) name pl) Q E s:=by
 obtain ⟨od,J,hl⟩:=I.look
 exact PySem.W.method_fn X J (PySem.W.plainGet_of hg).1 (PySem.W.plainGet_of hg).2 hf (beq_iff_eq.mp ht) (by show (PySem.W.lookIn name od).map (·.isSome)=some false;rw [hl,hv];rfl) h

theorem set_map {ns:List Str} {Q:Unit->Shared->Prop} (X:K.In s.heap) (I:ObjM s.heap x dx C mA)
  (hs:PySem.W.findIn K (.ref C) "__setattr__"=some (some (.builtin "object.__setattr__"))) (hp:PySem.W.plainOver K C=true) (ht:PySem.W.takerIn K C name=some none) (hh:PySem.W.hasDictIn K C=true)
  (hw:PySem.Within mA ns) (hsz:ns.length<=sizeLine)
  (h:∀ h',ObjM h' x dx C (fun y=>if y=name then some v else mA y)->Heap.SameBut dx s.heap h'->Q () { s with heap:=h',toks:=s.toks + 2 }) :
  wpAny (model prog w) A (setAttr (.ref x) name v) Q E s:=by
 obtain ⟨od,J,hl⟩:=I.look
 refine PySem.W.set_plain X J hs (PySem.W.osa_open (s:={ s with toks:=s.toks + 1 }) (r:=none) X J hp ht fun b=>?_)
 obtain ⟨cd,hc,hd'⟩:=PySem.W.any_some hh
 have hx:s.heap.get? x=some ⟨.ref C,some dx,.plain,#[]⟩:=I.obj
 refine wpAny_bind (wpAny_pure (wpAny_bind (wpAny_bind (wpAny_loadPart hx (wpAny_bind (PySem.W.Looks.here (s:={ s with toks:=s.toks + 1 }) (PySem.W.looks_clsIn X hc) ?_))))))
 rw [hd']
 refine wpAny_pure (a:=some dx) (wpAny_bind (wpAny_pure (wpAny_bind ?_)))
 refine wpAny_nsSet1 (s:={ s with toks:=s.toks + 1 }) I.ns fun h' hn2 hs2=>?_
 obtain ⟨oD,esD,epD,hoD,hdD,hcD⟩:=hn2.count (PySem.Within.cons name v hw)
 refine wpAny_bind (wpAny_lookBehind hoD (by rw [hdD];exact pastItsLine_dict (Nat.le_trans hcD (by rw [List.length_cons];omega))) ?_)
 exact wpAny_pure (h _ ⟨(hs2.2 _ (Ne.symm I.ne)).trans I.obj,hn2,I.ne⟩ hs2)

theorem make_map {R:Result->Shared->Prop} {vs:List Value} {kw:List (Str × Value)} (X:K.In s.heap) (hm:PySem.W.makesIn K C=true)
  (hi:PySem.W.findIn K (.ref C) "__init__"=some (some (.ref f))) (hf:PySem.W.typeIn K (.ref f)=some (.type "function"))
  (h:codeAny (model prog w) (A.under (.builtin "type.__call__" ⟨.ref C::vs,kw⟩)) (.call (.ref f) ⟨.ref (s.heap.objs.size + 1)::vs,kw⟩) (PySem.W.InitBack (s.heap.objs.size + 1) R)
   { s with heap:=(s.heap.push PySem.W.emptyDict).push (PySem.W.instObj C s.heap.objs.size) }) :
  codeAny (model prog w) A (.call (.ref C) ⟨vs,kw⟩) R s:=by
 obtain ⟨hh,g,d,t,os⟩:=s
 exact PySem.W.make_core (PySem.W.makes_of X hm) (PySem.W.looks_findIn X hi) (fun self=>PySem.W.bind_fn X self hf) (.inl rfl) h
end
def qn6 (f:Str) (v:V):List (Str × V)->List (Str × V)
 | []=>[(f,v)]
 | (g,x)::r=>if g=f then (g,v)::r else (g,x)::qn6 f v r
theorem qka (f g:Str) (v:V):∀ fs:List (Str × V),(qn6 f v fs).lookup g=if g=f then some v else fs.lookup g
 | []=>by
  show List.lookup g [(f,v)]=_
  by_cases h:g=f
  ·have hb:(g == f)=true:=beq_iff_eq.mpr h
   simp only [List.lookup,hb,if_pos h]
  ·have hb:(g == f)=false:=beq_eq_false_iff_ne.mpr h
   simp only [List.lookup,hb,if_neg h]
 | (k,x)::r=>by
  have ih:=qka f g v r
  rw [show qn6 f v ((k,x)::r)=(if k=f then (k,v)::r else (k,x)::qn6 f v r) from rfl]
  by_cases hk:k=f
  ·rw [if_pos hk]
   by_cases h:g=k
   ·have hb:(g == k)=true:=beq_iff_eq.mpr h
    simp only [List.lookup,hb,if_pos (h.trans hk)]
   ·have hb:(g == k)=false:=beq_eq_false_iff_ne.mpr h
    simp only [List.lookup,hb,if_neg (fun e:g=f=>h (e.trans hk.symm))]
  ·rw [if_neg hk]
   by_cases h:g=k
   ·have hb:(g == k)=true:=beq_iff_eq.mpr h
    simp only [List.lookup,hb,if_neg (fun e:g=f=>hk (h.symm.trans e))]
   ·have hb:(g == k)=false:=beq_eq_false_iff_ne.mpr h
    simp only [List.lookup,hb]
    exact ih
theorem qkf (f:Str) (v:V):∀ fs:List (Str × V),f ∈ (qn6 f v fs).map (·.1)/\∀ g,g ∈ fs.map (·.1)->g ∈ (qn6 f v fs).map (·.1)
 | []=>⟨by simp [qn6],fun g h=>by simp at h⟩
 | (k,x)::r=>by
  obtain ⟨i1,i2⟩:=qkf f v r
  rw [show qn6 f v ((k,x)::r)=(if k=f then (k,v)::r else (k,x)::qn6 f v r) from rfl]
  by_cases hk:k=f
  ·rw [if_pos hk]
   subst hk
   exact ⟨by simp,fun g h=>by simpa using h⟩
  ·rw [if_neg hk]
   refine ⟨?_,fun g h=>?_⟩
   ·rw [List.map_cons]
    exact List.mem_cons_of_mem _ i1
   ·rw [List.map_cons] at h ⊢
    rcases List.mem_cons.mp h with e | e
    ·exact List.mem_cons.mpr (.inl e)
    ·exact List.mem_cons_of_mem _ (i2 g e)
theorem qkd (f:Str) (v:V):∀ fs:List (Str × V),(qn6 f v fs).length<=fs.length + 1
 | []=>by simp [qn6]
 | (k,x)::r=>by
  have ih:=qkd f v r
  rw [show qn6 f v ((k,x)::r)=(if k=f then (k,v)::r else (k,x)::qn6 f v r) from rfl]
  by_cases hk:k=f
  ·rw [if_pos hk,List.length_cons,List.length_cons];omega
  ·rw [if_neg hk,List.length_cons,List.length_cons];omega

theorem RelO.some_of {v:V} {o:Option Value} (r:RelO (some v) o):∃ u,o=some u/\RelV v u:=by
 cases o with
 | none=>exact (show False from r).elim
 | some u=>exact ⟨u,rfl,r⟩
theorem RelO.none_of {o:Option Value} (r:RelO none o):o=none:=by
 cases o with
 | none=>rfl
 | some u=>exact (show False from r).elim
theorem qws {v:V} {u:Value} (r:RelV v u):PySem.W.handedIn u=true:=by
 cases v with
 | non=>cases (show u=Value.none from r);rfl
 | bl b=>cases (show u=Value.bool b from r);rfl
 | int i=>obtain ⟨t,e⟩:=(show ∃ t,u=Value.int i t from r);cases e;rfl
 | str x=>obtain ⟨t,e⟩:=(show ∃ t,u=Value.str x t from r);cases e;rfl
 | byt b=>obtain ⟨t,e⟩:=(show ∃ t,u=Value.bytes b t from r);cases e;rfl
 | flt b=>obtain ⟨t,e⟩:=(show ∃ t,u=Value.float b t from r);cases e;rfl
 | ref a=>cases (show u=Value.ref a from r);rfl
 | ty n=>cases (show u=Value.type n from r);rfl

section
variable {P:Program} {w:World} {H H':Hp} {h h':Heap} {a C dx:Addr} {fs fs':List (Str × V)}
theorem qnn (hok:HOk P w H h) (e:H a=some (.ins C dx fs)):∃ mA,ObjM h a dx C mA/\(∀ f,RelO (fs.lookup f) (mA f))/\PySem.Within mA (fs.map (·.1))/\fs.length<=1000/\H dx=some (.own a):=by
 obtain ⟨d,z,ne,ob,mA,n,r,q⟩:=(show ObjOk P w H h a (.ins C dx fs) from hok a _ e)
 exact ⟨mA,⟨ob,n,ne⟩,r,q,z,d⟩
end
structure Cls (K:PySem.W.Frag) (C:Addr):Prop where
 pg:PySem.W.plainGet K C Str.empty=true
 hd:PySem.W.hasDictIn K C=true
 po:PySem.W.plainOver K C=true
 sa:PySem.W.findIn K (.ref C) "__setattr__"=some (some (.builtin "object.__setattr__"))
theorem Cls.get {K:PySem.W.Frag} {C:Addr} (c:Cls K C) (f:Str):PySem.W.plainGet K C f=true:=c.pg
def NoAttr (K:PySem.W.Frag) (C:Addr) (f:Str):Prop:=PySem.W.findIn K (.ref C) f=some none
theorem NoAttr.taker {K:PySem.W.Frag} {C:Addr} {f:Str} (n:NoAttr K C f):PySem.W.takerIn K C f=some none:=by
 unfold PySem.W.takerIn
 rw [show PySem.W.findIn K (.ref C) f=some none from n]
 rfl
structure Meth (K:PySem.W.Frag) (C:Addr) (m:Str) (f:Addr):Prop where
 at_:PySem.W.findIn K (.ref C) m=some (some (.ref f))
 fn:PySem.W.isFn K (.ref f)=true
 kp:PySem.W.keepIn K (.ref f)=true

section
variable {X:Cx} {pins:List (Addr × Obj)} {σ:St} {H:Hp} {s:Shared} {a C dx:Addr} {fs:List (Str × V)} {f:Str} {v:V} {A:Around} {E:Value->Shared->Prop}
theorem qtu {b:Bool} {Q:Value->Shared->Prop} (I:Inv X pins σ H s) (e:H a=some (.ins C dx fs)) (c:Cls X.K C) (n:NoAttr X.K C f) (l:fs.lookup f=some v)
  (h:∀ u s',Inv X pins σ H s'->RelV v u->Q u s'):wpAny (model X.prog X.w) A (getAttr (.ref a) f b) Q E s:=by
 obtain ⟨mA,O,r,_,_,_⟩:=qnn I.hok e
 obtain ⟨u,hu,ru⟩:=RelO.some_of (v:=v) (o:=mA f) (by rw [<- l];exact r f)
 exact get_map I.kIn O (c.get f) c.hd n hu (qws ru) (h u _ (I.tok _) ru)

theorem qh8 {m:Str} {g:Addr} {pl:Sem Bool} {Q:Value × List Value->Shared->Prop} (I:Inv X pins σ H s) (e:H a=some (.ins C dx fs)) (c:Cls X.K C) (k:Meth X.K C m g) (l:fs.lookup m=none)
  (h:Q (.ref g,[.ref a]) s):wpAny (model X.prog X.w) A (getMethod (.ref a) m pl) Q E s:=by
 obtain ⟨mA,O,r,_,_,_⟩:=qnn I.hok e
 have hn:mA m=none:=RelO.none_of (by rw [<- l];exact r m)
 exact get_meth I.kIn O (c.get m) k.at_ k.fn hn h

theorem qsx {y:V} {u:Value} {Q:Unit->Shared->Prop} (I:Inv X pins σ H s) (e:H a=some (.ins C dx fs)) (c:Cls X.K C) (n:NoAttr X.K C f) (hl:fs.length < 1000) (ry:RelV y u)
  (h:∀ s',Inv X pins σ (upd H a (.ins C dx (qn6 f y fs))) s'->Q () s'):wpAny (model X.prog X.w) A (setAttr (.ref a) f u) Q E s:=by
 obtain ⟨mA,O,r,wi,_,ho⟩:=qnn I.hok e
 have hz:(fs.map (·.1)).length<=sizeLine:=by rw [List.length_map,sizeLine_eq];omega
 refine set_map I.kIn O c.sa c.po n.taker c.hd wi hz fun h' O' sb=>h _ ?_
 have hd:∃ o,h'.get? dx=some o:=let ⟨o,_,_,e',_⟩:=O'.ns;⟨o,e'⟩
 refine I.write (x:=a) (e:=dx) (by rw [e];exact True.intro) (.inr ho) (fun b q hb z=>(sb.2 b hb).trans z) hd ?_
 refine ⟨by rw [qam O.ne];exact ho,?_,O.ne,O'.obj,_,O'.ns,fun g=>?_,fun g hg=>?_⟩
 ·have:=qkd f y fs;omega
 ·show RelO ((qn6 f y fs).lookup g) (if g=f then some u else mA g)
  rw [qka]
  by_cases q:g=f
  ·rw [if_pos q,if_pos q];exact ry
  ·rw [if_neg q,if_neg q];exact r g
 ·by_cases q:g=f
  ·rw [q];exact (qkf f y fs).1
  ·refine (qkf f y fs).2 g (wi g fun z=>hg ?_)
   show (if g=f then some u else mA g)=none
   rw [if_neg q];exact z

theorem Inv.made (I:Inv X pins σ H s):Inv X pins σ (upd (upd H s.heap.objs.size (.own (s.heap.objs.size + 1))) (s.heap.objs.size + 1) (.ins C s.heap.objs.size []))
  { s with heap:=(s.heap.push PySem.W.emptyDict).push (PySem.W.instObj C s.heap.objs.size) }:=by
 have e1:(s.heap.push PySem.W.emptyDict).get? s.heap.objs.size=some PySem.W.emptyDict:=Heap.get?_push_size s.heap rfl
 have e2:((s.heap.push PySem.W.emptyDict).push (PySem.W.instObj C s.heap.objs.size)).get? (s.heap.objs.size + 1)=some (PySem.W.instObj C s.heap.objs.size):=by
  have:=Heap.get?_push_size (s.heap.push PySem.W.emptyDict) (o:=PySem.W.instObj C s.heap.objs.size) rfl
  rwa [Heap.size_push] at this
 have e3:(s.heap.push PySem.W.emptyDict).Ns s.heap.objs.size (fun _=>none):=⟨PySem.W.emptyDict,#[],_,e1,rfl,(fun e he=>absurd he (by simp)),fun _=>rfl⟩
 have I1:=I.laid (a:=s.heap.objs.size) (o:= .own (s.heap.objs.size + 1)) (h':=s.heap.push PySem.W.emptyDict) (t':=s.toks) (fun b u q=>Heap.get?_push_of_some _ q) (Nat.le_refl _) ⟨_,e1⟩
 refine I1.laid (a:=s.heap.objs.size + 1) (o:= .ins C s.heap.objs.size []) (t':=s.toks) (fun b u q=>Heap.get?_push_of_some _ q) (Nat.le_of_eq (Heap.size_push _ _)) ?_
 have ne:s.heap.objs.size ≠ s.heap.objs.size + 1:=Nat.ne_of_lt (Nat.lt_succ_self _)
 refine ⟨by rw [qam ne,qan],Nat.zero_le _,ne,e2,fun _=>none,(Heap.Ns1.of_empty e3).at fun o q=>Heap.get?_push_of_some _ q,fun _=>True.intro,fun y hy=>absurd rfl hy⟩

theorem attr_of {prog:Program} {w:World} {env:Env} {e:Expr} {f:Str} {pos:Pos} {s:Shared} {Q:Value->Shared->Prop} (hb:attributeBase e f env (eval e env)=eval e env)
  (h:wpAny (model prog w) A (eval e env) (fun o s₁=>wpAny (model prog w) A (getAttr o f true) Q E s₁) E s):wpAny (model prog w) A (eval (.Attribute e f pos) env) Q E s :=
 Attribute_any_ h (by rw [arm_eval_Attribute,hb])
end
def tFld (K:PySem.W.Frag) (ta:TE) (f:Str):TE:=fun σ H Q=>ta σ H fun x H1=>∃ a C dx fs v,x = .ref a/\H1 a=some (.ins C dx fs)/\Cls K C/\NoAttr K C f/\fs.lookup f=some v/\Q v H1
def sFld (K:PySem.W.Frag) (ta tv:TE) (f:Str):TS:=fun D σ H=>tv σ H fun y H1=>ta σ H1 fun x H2=>∃ a C dx fs,x = .ref a/\H2 a=some (.ins C dx fs)/\Cls K C/\NoAttr K C f/\fs.length < 1000 /\
 D.nx σ (upd H2 a (.ins C dx (qn6 f y fs)))
section
variable {X:Cx} {o e value:Expr} {f:Str} {pos pos' tpos:Pos} {ta tv:TE}
theorem pe_fld (he:PE X e ta) (hb:attributeBase e f X.env (eval e X.env)=eval e X.env):PE X (.Attribute e f pos) (tFld X.K ta f):=by
 intro pins s σ H Q I h
 refine attr_of hb (thn (he pins s σ H _ I h) fun u s1 ⟨x,H1,I1,rx,a,C,dx,fs,v,ex,ea,c,n,l,q⟩=>?_)
 subst ex
 obtain rfl:u=Value.ref a:=rx
 exact qtu I1 ea c n l fun u' s2 I2 ru=>⟨v,H1,I2,ru,q⟩
theorem ps_fld (ha:PE X o ta) (hv:PE X value tv) (hs:swapsWith value (some (.Attribute o f pos')) pos.line X.env=pure false):PS X (.Assign [.Attribute o f pos'] value pos) (sFld X.K ta tv f):=by
 intro pins s σ H D I h
 refine plainObj_wpAny_Assign_Attribute (thn (hv pins s σ H _ I h) fun u s1 ⟨y,H1,I1,ry,q⟩=>thn (ha pins s1 σ H1 _ I1 q) fun ov s2 ⟨x,H2,I2,rx,a,C,dx,fs,ex,ea,c,n,l,q2⟩=>?_) hs
 subst ex
 obtain rfl:ov=Value.ref a:=rx
 exact qsx I2 ea c n l ry fun s3 I3=>⟨σ,_,I3,q2⟩
theorem methcall_of {pl:Sem Bool} {m:Str} {apos:Pos} {args:List Expr} {pins:List (Addr × Obj)} {s:Shared} {σ:St} {H:Hp} {Q:Value->Shared->Prop} {te:TE} (he:PE X e te) (I:Inv X pins σ H s)
  (h:te σ H fun x H1=>∃ a C dx fs g,x = .ref a/\H1 a=some (.ins C dx fs)/\Cls X.K C/\Meth X.K C m g/\fs.lookup m=none /\
   ∀ s1,Inv X pins σ H1 s1->wpAny (model X.prog X.w) X.A (callWith pos (.ref g) [.ref a] (backTo pos (starEach args X.env)) (backToKw pos (keywordEach [] X.env))) Q X.xe s1)
  (ht:eval (.Call (.Attribute e m apos) args [] pos) X.env=(do
   let ov <- eval e X.env
   standAt apos.atName
   let (f,first) <- holding [ov] (getMethod ov m pl)
   callWith pos f first (backTo pos (starEach args X.env)) (backToKw pos (keywordEach [] X.env)))) :
  wpAny (model X.prog X.w) X.A (eval (.Call (.Attribute e m apos) args [] pos) X.env) Q X.xe s:=by
 refine PySem.W.methodCall_KW (pl:=pl) (thn (he pins s σ H _ I h) fun u s1 ⟨x,H1,I1,rx,a,C,dx,fs,g,ex,ea,c,k,l,q⟩=>?_) ht
 subst ex
 obtain rfl:u=Value.ref a:=rx
 exact qh8 I1 ea c k l (q s1 I1)
end
section
variable {X:Cx} {pins:List (Addr × Obj)} {σ:St} {H:Hp} {s:Shared} {A:Around} {E:Value->Shared->Prop} {Q:Value->Shared->Prop} {c:Value} {b:Bool}
inductive qq9 (K:PySem.W.Frag) (H:Hp):V->Value->Prop where
 | non:qq9 K H .non (.type "NoneType")
 | bl (x:Bool):qq9 K H (.bl x) (.type "bool")
 | int (i:Int):qq9 K H (.int i) (.type "int")
 | str (x:Str):qq9 K H (.str x) (.type "str")
 | flt (x:UInt64):qq9 K H (.flt x) (.type "float")
 | lst {a:Addr} {xs:List V} (e:H a=some (.lst xs)):qq9 K H (.ref a) (.type "list")
 | frz {a:Addr} {o:Obj} {xs:List V} (e:H a=some (.frz o (.lst xs))):qq9 K H (.ref a) (.type "list")
 | tup {a:Addr} {xs:List V} (e:H a=some (.tup xs)):qq9 K H (.ref a) (.type "tuple")
 | dK {a:Addr} {kvs:List (Key × V)} (e:H a=some (.dK kvs)):qq9 K H (.ref a) (.type "dict")
 | dT {a:Addr} {kvs:List (List Key × V)} (e:H a=some (.dT kvs)):qq9 K H (.ref a) (.type "dict")
 | ins {a C dx:Addr} {fs:List (Str × V)} (e:H a=some (.ins C dx fs)) (cl:Cls K C) (ha:PySem.W.findIn K (.ref C) "__class__"=some (some (.builtin "object.__class__")))
   (hn:PySem.W.specialIn K (.builtin "object.__class__") "__get__"=some (some (.builtin "getset_descriptor.__get__"))) (htk:PySem.W.takesIn K (.builtin "object.__class__")=some true)
   (hm:PySem.W.mroIn K C (.type "object")=some true):qq9 K H (.ref a) (.ref C)
theorem qwi {x:V} {u t:Value} (I:Inv X pins σ H s) (rx:RelV x u) (ty:qq9 X.K H x t) (e:PySem.W.kitOne X.K t c=some b) (h:∀ tk,Q (.bool b) { s with toks:=tk }) :
  wpAny (model X.prog X.w) A (call (.builtin "isinstance") [u,c]) Q E s:=by
 cases ty with
 | non=>cases (show u=Value.none from rx);exact PySem.W.kia_one PySem.W.kitx_none I.kIn True.intro e (fun z=>nomatch z) h
 | bl y=>cases (show u=Value.bool y from rx);exact PySem.W.kia_one PySem.W.kitx_bool I.kIn True.intro e (fun z=>nomatch z) h
 | int i=>obtain ⟨t,q⟩:=(show ∃ t,u=Value.int i t from rx);cases q;exact PySem.W.kia_one PySem.W.kitx_int I.kIn True.intro e (fun z=>nomatch z) h
 | str y=>obtain ⟨t,q⟩:=(show ∃ t,u=Value.str y t from rx);cases q;exact PySem.W.kia_one PySem.W.kitx_str I.kIn True.intro e (fun z=>nomatch z) h
 | flt y=>obtain ⟨t,q⟩:=(show ∃ t,u=Value.float y t from rx);cases q;exact PySem.W.kia_one PySem.W.kitx_float I.kIn True.intro e (fun z=>nomatch z) h
 | @lst a xs ea =>
  cases (show u=Value.ref a from rx)
  obtain ⟨_,_,n,_,h1⟩:=(show ObjOk X.prog X.w H s.heap a (.lst xs) from I.hok a _ ea)
  exact PySem.W.kia_one PySem.W.kitx_list I.kIn ⟨_,h1,rfl⟩ e (fun z=>nomatch z) h
 | @frz a ob xs ea =>
  cases (show u=Value.ref a from rx)
  obtain ⟨_,_,_,n,_,h1⟩:=(show ObjOk X.prog X.w H s.heap a (.frz ob (.lst xs)) from I.hok a _ ea)
  exact PySem.W.kia_one PySem.W.kitx_list I.kIn ⟨_,h1,rfl⟩ e (fun z=>nomatch z) h
 | @tup a xs ea =>
  cases (show u=Value.ref a from rx)
  obtain ⟨_,_,_,p⟩:=(show ObjOk X.prog X.w H s.heap a (.tup xs) from I.hok a _ ea)
  obtain ⟨o,h1,h2,_⟩:=p
  exact PySem.W.kia_one PySem.W.kitx_tuple I.kIn ⟨o,h1,h2⟩ e (fun z=>nomatch z) h
 | @dK a kvs ea =>
  cases (show u=Value.ref a from rx)
  obtain ⟨_,_,vs,_,p⟩:=(show ObjOk X.prog X.w H s.heap a (.dK kvs) from I.hok a _ ea)
  obtain ⟨o,es,ep,h1,h2,_⟩:=p
  exact PySem.W.kia_one PySem.W.kitx_dict I.kIn ⟨o,h1,h2.1⟩ e (fun z=>nomatch z) h
 | @dT a kvs ea =>
  cases (show u=Value.ref a from rx)
  obtain ⟨_,_,xs,_,o,es,ep,h1,h2,_⟩:=(show ObjOk X.prog X.w H s.heap a (.dT kvs) from I.hok a _ ea)
  exact PySem.W.kia_one PySem.W.kitx_dict I.kIn ⟨o,h1,h2.1⟩ e (fun z=>nomatch z) h
 | @ins a C dx fs ea cl ha hn htk hm =>
  cases (show u=Value.ref a from rx)
  obtain ⟨mA,O,_⟩:=qnn I.hok ea
  obtain ⟨od,J,_⟩:=O.look
  exact PySem.W.kia_one (PySem.W.kitx_own (cl.get _) cl.hd ha hn htk hm) I.kIn J e (fun z=>nomatch z) h
end
end L2
namespace L2
open PySem PySem.Spec PyProof.Rows
structure Room (k:Nat) (A:Around):Prop where
 hd:A.handled=none
 dp:A.depth + 3 * k + 5 < recursionLimit
 un:A.units + 16 * k + 200 < cLine
theorem Room.mono {j k:Nat} {A:Around} (r:Room k A) (h:j<=k):Room j A:=⟨r.hd,by have:=r.dp;omega,by have:=r.un;omega⟩
theorem Room.deeper {k:Nat} {A:Around} (r:Room (k + 1) A) (env:Env):Room k (A.deeper env) :=
 ⟨r.hd,by have:=r.dp;show A.depth + 1 + 3 * k + 5 < _;omega,by have:=r.un;show A.units + 3 + 16 * k + 200 < _;omega⟩
theorem qti {A:Around} {C:Addr} {us:List Value} {kw:List (Str × Value)}:(A.under (.builtin "type.__call__" ⟨.ref C::us,kw⟩)).depth=A.depth + 1:=by
 first | rfl | simp [Around.under,Code.weight,Code.isCreation,Code.isGuard,Code.isCaller,Code.frames,Code.isFrame,guardIds]
theorem qth {A:Around} {C:Addr} {us:List Value} {kw:List (Str × Value)}:(A.under (.builtin "type.__call__" ⟨.ref C::us,kw⟩)).units=A.units + 1:=by
 first | rfl | simp [Around.under,Code.cUnits,Code.frames,Code.isFrame]
theorem Room.make {k:Nat} {A:Around} (r:Room (k + 1) A) (C:Addr) (us:List Value) (kw:List (Str × Value)):Room k (A.under (.builtin "type.__call__" ⟨.ref C::us,kw⟩)) :=
 ⟨r.hd,by have:=r.dp;rw [qti];omega,by have:=r.un;rw [qth];omega⟩
theorem Room.depth {k:Nat} {A:Around} (r:Room k A):A.depth < recursionLimit:=by have:=r.dp;omega
theorem Room.units {k:Nat} {A:Around} (r:Room k A):A.units + 64 < cLine:=by have:=r.un;omega
def qiv:TA:=fun _ H Q=>Q [] H
def qc6 (ta:TE) (tr:TA):TA:=fun σ H Q=>ta σ H fun x H1=>tr σ H1 fun xs H2=>Q (x::xs) H2
section
variable {X:Cx} {e:Expr} {es:List Expr} {te:TE} {t:TA} {pos:Pos}
theorem qac:PA X [] qiv:=fun _ _ _ _ H Q I h=>Calls.spliced_nil ⟨[],H,I,.nil,h⟩
theorem qaa (ha:PE X e te) (hr:PA X es t) (hs:starEach (e::es) X.env=(false,eval e X.env)::starEach es X.env:=by rfl):PA X (e::es) (qc6 te t):=by
 intro pos pins s σ H Q I h
 rw [hs]
 show wpAny _ _ (spliced ((false,eval e X.env)::backTo pos (starEach es X.env))) _ _ s
 refine Calls.spliced_cons (thn (ha pins s σ H _ I h) fun u s1 ⟨x,H1,I1,r1,q1⟩=>?_)
 exact thn (hr pos pins s1 σ H1 _ I1 q1) fun us s2 ⟨xs,H2,I2,r2,q2⟩=>⟨x::xs,H2,I2,.cons r1 r2,q2⟩

def tTup (t:TA):TE:=fun σ H Q=>t σ H fun xs H1=>xs.length<=sizeLine/\∀ p,H1 p=none->Q (.ref p) (upd H1 p (.tup xs))
def tLst (t:TA):TE:=fun σ H Q=>t σ H fun xs H1=>xs.length<=sizeLine/\∀ p,H1 p=none->Q (.ref p) (upd H1 p (.lst xs))
theorem qgj {x1} (h:PA X es t):PE X (.Tuple es x1 pos) (tTup t):=by
 intro pins s σ H Q I hq
 refine wpAny_Tuple_spliced (thn (h pos pins s σ H _ I hq) fun us s1 ⟨xs,H1,I1,r,z,q⟩=>⟨by rw [<- r.length];exact z,?_⟩)
 have hf:H1 s1.heap.objs.size=none:=I1.hok.fresh (Nat.le_refl _)
 refine ⟨.ref s1.heap.objs.size,upd H1 s1.heap.objs.size (.tup xs),I1.laid (t':=s1.toks) (fun b u e=>Heap.get?_push_of_some _ e) (Nat.le_refl _) ?_,rfl,q _ hf⟩
 exact ⟨z,us,r,⟨_,Heap.get?_push_size _ rfl,rfl,_,rfl⟩⟩
theorem qbx (h:PA X es t):PE X (.List es pos) (tLst t):=by
 intro pins s σ H Q I hq
 refine wpAny_List_spliced (thn (h pos pins s σ H _ I hq) fun us s1 ⟨xs,H1,I1,r,z,q⟩=>⟨by rw [<- r.length];exact z,?_⟩)
 have hf:H1 s1.heap.objs.size=none:=I1.hok.fresh (Nat.le_refl _)
 refine ⟨.ref s1.heap.objs.size,upd H1 s1.heap.objs.size (.lst xs),I1.laid (t':=s1.toks) (fun b u e=>Heap.get?_push_of_some _ e) (Nat.le_refl _) ?_,rfl,q _ hf⟩
 exact ⟨z,us,0,r,Heap.get?_push_size _ rfl⟩
end
abbrev Sp:=List V->Hp->VK->XK->Prop
abbrev CXT:=List Env->Hp->Shared->XK->Value->Shared->Prop

structure Env0 (P:Program) (w:World) (K:PySem.W.Frag) (mg:Str->Option Value) (base:Heap) (A:Around) (outer:List Env) (s:Shared) (H:Hp):Prop where
 frames:A.frames=some outer
 mod:Mod K mg base
 bs:∀ b o,base.get? b=some o->s.heap.get? b=some o/\H b=none
 bsz:base.objs.size<=s.heap.objs.size
 funs:s.heap.FunFrames base outer
 frf:∀ b ∈ frs outer,H b=none
 hok:HOk P w H s.heap
 bare:AllBare s.gens
def CE (outer:List Env) (P:Program) (w:World) (H:Hp) (s:Shared) (Q:VK) (u:Value) (s':Shared):Prop :=
 ∃ v H',s'.os=s.os/\AllBare s'.gens/\Un (frs outer) [] H H' s.heap s'.heap/\HOk P w H' s'.heap/\RelV v u/\Q v H'
def CR (CX:CXT) (outer:List Env) (P:Program) (w:World) (H:Hp) (s:Shared) (Q:VK) (E:XK) (r:Result) (s':Shared):Prop :=
 match r with
 | .ok (.ret u)=>CE outer P w H s Q u s'
 | .ok _=>False
 | .error e=>CX outer H s E e s'
structure FnOk (P:Program) (w:World) (K:PySem.W.Frag) (mg:Str->Option Value) (base:Heap) (CX:CXT) (k:Nat) (f:Addr) (fd:FuncData) (ps:List Str) (sp:Sp):Prop where
 len:∀ vs H Q E,sp vs H Q E->vs.length=ps.length
 run:∀ (A:Around) (outer:List Env) (s:Shared) (H:Hp) (args:Args) (us:List Value) (vs:List V) (Q:VK) (E:XK),Room k A->Env0 P w K mg base A outer s H->BindsTo s fd args (ps.zip us)->Vals vs us->sp vs H Q E ->
  codeAny (model P w) A (.call (.ref f) args) (CR CX outer P w H s Q E) s
theorem FnOk.imp {P:Program} {w:World} {K:PySem.W.Frag} {mg:Str->Option Value} {base:Heap} {CX:CXT} {k:Nat} {f:Addr} {fd:FuncData} {ps:List Str} {sp sp':Sp} (F:FnOk P w K mg base CX k f fd ps sp)
  (h:∀ vs H Q E,sp' vs H Q E->sp vs H Q E):FnOk P w K mg base CX k f fd ps sp' :=
 ⟨fun vs H Q E q=>F.len vs H Q E (h _ _ _ _ q),fun A outer s H args us vs Q E hr he hb hv hs=>F.run A outer s H args us vs Q E hr he hb hv (h _ _ _ _ hs)⟩

theorem Env0.make {P:Program} {w:World} {K:PySem.W.Frag} {mg:Str->Option Value} {base:Heap} {A:Around} {outer:List Env} {s:Shared} {H:Hp} (e:Env0 P w K mg base A outer s H) (C:Addr) (us:List Value) (kw:List (Str × Value)) :
  Env0 P w K mg base (A.under (.builtin "type.__call__" ⟨.ref C::us,kw⟩)) outer s H:=⟨by first | exact e.frames | (simpa [Around.under,Code.envs,Code.isFrame,pushEnvs] using e.frames),e.mod,e.bs,e.bsz,e.funs,e.frf,e.hok,e.bare⟩
section
variable {X:Cx} {pins:List (Addr × Obj)} {σ:St} {H:Hp} {s s':Shared}
theorem Inv.env0 (I:Inv X pins σ H s):Env0 X.prog X.w X.K X.mg X.base X.A X.stack s H :=
 ⟨I.ok.frames,I.ok.mod,I.bs,Nat.le_trans I.ok.bsz I.sz,I.stack,I.stkFree,I.hok,I.bare⟩
theorem Inv.after {Q:VK} {u:Value} (I:Inv X pins σ H s) (h:CE X.stack X.prog X.w H s Q u s'):EP X pins σ Q u s':=by
 obtain ⟨v,H',os,bare,un,hok,r,q⟩:=h
 obtain ⟨hh,g,d,t,os'⟩:=s'
 obtain rfl:os'=s.os:=os
 exact ⟨v,H',I.call (h':=hh) (g':=g) (d':=d) (t':=t) (ch:=[]) un hok bare (fun b z=>absurd z (by simp)),r,q⟩
end
def qgg (sp:Sp) (dvs:List V) (E:XK) (t:TA):TE:=fun σ H Q=>t σ H fun vs H1=>sp (vs++dvs) H1 Q E
def qp3 (C:Addr) (m:Str) (sp:Sp) (dvs:List V) (E:XK) (ta:TE) (t:TA):TE:=fun σ H Q=>ta σ H fun x H1=>∃ a dx fs,x = .ref a/\H1 a=some (.ins C dx fs)/\fs.lookup m=none /\
 t σ H1 fun vs H2=>sp (x::(vs++dvs)) H2 Q E
def quv (C:Addr) (sp:Sp) (dvs:List V) (E:XK) (t:TA):TE:=fun σ H Q=>t σ H fun vs H1=>∀ x dx,H1 x=none->H1 dx=none->dx ≠ x ->
 sp (.ref x::(vs++dvs)) (upd (upd H1 dx (.own x)) x (.ins C dx [])) (fun v H2=>v = .non/\Q (.ref x) H2) E

def Binds (K:PySem.W.Frag) (fd:FuncData) (ps:List Str) (ds:List Value):Prop :=
 ∀ (s:Shared) (us:List Value),K.In s.heap->(us++ds).length=ps.length->BindsTo s fd ⟨us,[]⟩ (ps.zip (us++ds))
theorem Binds.all {K:PySem.W.Frag} {fd:FuncData} {ps:List Str} (h:∀ us:List Value,us.length=ps.length->bindArgs fd ⟨us,[]⟩=pure (ps.zip us)):Binds K fd ps []:=fun s us _ hl=>by
 rw [List.append_nil] at hl ⊢
 exact .of_eq (h us hl)

def qk1 (CX:CXT) (X:Cx) (E:XK):Prop:=∀ (pins:List (Addr × Obj)) (σ:St) (H:Hp) (s:Shared) (e:Value) (s':Shared),Inv X pins σ H s->CX X.stack H s E e s'->X.xe e s'

section
variable {X:Cx} {CX:CXT} {k:Nat} {f C:Addr} {fd:FuncData} {ps:List Str} {sp:Sp} {dvs:List V} {ds:List Value} {E:XK} {x m:Str} {p pos apos:Pos} {e o:Expr} {es:List Expr} {ta:TE} {t:TA}
theorem qvb {pins:List (Addr × Obj)} {σ:St} {H:Hp} {s:Shared} {Q:VK} {us:List Value} {vs:List V} (F:FnOk X.prog X.w X.K X.mg X.base CX k f fd ps sp) (hr:Room k X.A) (hb:Binds X.K fd ps ds) (hd:Vals dvs ds) (hx:qk1 CX X E)
  (I:Inv X pins σ H s) (r:Vals vs us) (h:sp (vs++dvs) H Q E):wpAny (model X.prog X.w) X.A (call (.ref f) us) (EP X pins σ Q) X.xe s:=by
 have r2:Vals (vs++dvs) (us++ds):=r.append hd
 have hl:(us++ds).length=ps.length:=by rw [<- r2.length];exact F.len _ _ _ _ h
 refine wpAny_call (codeAny_mono (F.run X.A X.stack s H ⟨us,[]⟩ (us++ds) (vs++dvs) Q E hr I.env0 (hb s us I.kIn hl) r2 h) fun r s' hq=>?_)
 cases r with
 | error e=>exact hx pins σ H s e s' I hq
 | ok fl =>
  cases fl with
  | ret u=>exact I.after hq
  | next=>exact False.elim hq
  | brk=>exact False.elim hq
  | cont=>exact False.elim hq

theorem pe_call (F:FnOk X.prog X.w X.K X.mg X.base CX k f fd ps sp) (hr:Room k X.A) (hg:Gl X x) (hm:X.mg x=some (.ref f)) (hk:PySem.W.keepIn X.K (.ref f)=true) (hb:Binds X.K fd ps ds) (hd:Vals dvs ds) (hx:qk1 CX X E)
  (ha:PA X (e::es) t) (hdb:(x == ("__debug__":Str))=false:=by decide) (he:starEach (e::es) X.env=(false,eval e X.env)::starEach es X.env:=by rfl) (hpl:(backTo pos (starEach es X.env)).any (·.1)=false:=by rfl) :
  PE X (.Call (.Name x p) (e::es) [] pos) (qgg sp dvs E t):=by
 intro pins s σ H Q I h
 refine wpAny_Call_Name_kw (qqo I hg hm ?_ hdb)
 refine PySem.W.callWith_K (h₀:=X.base) I.ok.mod.kin hk (thn (ha pos pins s σ H _ I h) fun us s1 ⟨vs,H1,I1,r,q⟩=>⟨I1.kIn,?_⟩) he hpl
 exact qvb F hr hb hd hx I1 r q
theorem pe_meth {pl:Sem Bool} (he:PE X o ta) (c:Cls X.K C) (hm:Meth X.K C m f) (F:FnOk X.prog X.w X.K X.mg X.base CX k f fd ps sp) (hr:Room k X.A) (hb:Binds X.K fd ps ds) (hd:Vals dvs ds) (hx:qk1 CX X E) (ha:PA X (e::es) t)
  (hst:starEach (e::es) X.env=(false,eval e X.env)::starEach es X.env:=by rfl) (hpl:(backTo pos (starEach es X.env)).any (·.1)=false:=by rfl)
  (ht:eval (.Call (.Attribute o m apos) (e::es) [] pos) X.env=(do
   let ov <- eval o X.env
   standAt apos.atName
   let (f,first) <- holding [ov] (getMethod ov m pl)
   callWith pos f first (backTo pos (starEach (e::es) X.env)) (backToKw pos (keywordEach [] X.env))):=by rfl) :
  PE X (.Call (.Attribute o m apos) (e::es) [] pos) (qp3 C m sp dvs E ta t):=by
 intro pins s σ H Q I h
 refine PySem.W.methodCall_KW (pl:=pl) (thn (he pins s σ H _ I h) fun u s1 ⟨x,H1,I1,rx,a,dx,fs,ex,ea,l,q⟩=>?_) ht
 subst ex
 obtain rfl:u=Value.ref a:=rx
 refine qh8 I1 ea c hm l ?_
 refine PySem.W.callWith_K (first:=[.ref a]) (h₀:=X.base) I.ok.mod.kin hm.kp (thn (ha pos pins s1 σ H1 _ I1 q) fun us s2 ⟨vs,H2,I2,r,q2⟩=>⟨I2.kIn,?_⟩) hst hpl
 exact qvb (us:= .ref a::us) (vs:= .ref a::vs) F hr hb hd hx I2 (.cons rfl r) q2
theorem pe_meth0 {pl:Sem Bool} (he:PE X o ta) (c:Cls X.K C) (hm:Meth X.K C m f) (F:FnOk X.prog X.w X.K X.mg X.base CX k f fd ps sp) (hr:Room k X.A) (hb:Binds X.K fd ps ds) (hd:Vals dvs ds) (hx:qk1 CX X E)
  (ht:eval (.Call (.Attribute o m apos) [] [] pos) X.env=(do
   let ov <- eval o X.env
   standAt apos.atName
   let (f,first) <- holding [ov] (getMethod ov m pl)
   callWith pos f first (backTo pos (starEach [] X.env)) (backToKw pos (keywordEach [] X.env))):=by rfl) :
  PE X (.Call (.Attribute o m apos) [] [] pos) (qp3 C m sp dvs E ta qiv):=by
 intro pins s σ H Q I h
 refine PySem.W.methodCall_KW (pl:=pl) (thn (he pins s σ H _ I h) fun u s1 ⟨x,H1,I1,rx,a,dx,fs,ex,ea,l,q⟩=>?_) ht
 subst ex
 obtain rfl:u=Value.ref a:=rx
 refine qh8 I1 ea c hm l ?_
 exact PySem.W.callWith_K0 (first:=[.ref a]) I1.kIn hm.kp (qvb (us:=[.ref a]) (vs:=[.ref a]) F hr hb hd hx I1 (.cons rfl .nil) q)

structure Mk (K:PySem.W.Frag) (C f:Addr):Prop where
 makes:PySem.W.makesIn K C=true
 init:PySem.W.findIn K (.ref C) "__init__"=some (some (.ref f))
 fn:PySem.W.isFn K (.ref f)=true
 kp:PySem.W.keepIn K (.ref C)=true

theorem run_make {pins:List (Addr × Obj)} {σ:St} {H:Hp} {s:Shared} {Q:VK} {us:List Value} {vs:List V} (M:Mk X.K C f) (F:FnOk X.prog X.w X.K X.mg X.base CX k f fd ps sp) (hr:Room (k + 1) X.A) (hb:Binds X.K fd ps ds) (hd:Vals dvs ds)
  (hx:qk1 CX X E) (I:Inv X pins σ H s) (r:Vals vs us)
  (h:∀ x dx,H x=none->H dx=none->dx ≠ x->sp (.ref x::(vs++dvs)) (upd (upd H dx (.own x)) x (.ins C dx [])) (fun v H2=>v = .non/\Q (.ref x) H2) E) :
  wpAny (model X.prog X.w) X.A (call (.ref C) us) (EP X pins σ Q) X.xe s:=by
 have hq:=h (s.heap.objs.size + 1) s.heap.objs.size (I.hok.fresh (Nat.le_succ _)) (I.hok.fresh (Nat.le_refl _)) (Nat.ne_of_lt (Nat.lt_succ_self _))
 have I2:=Inv.made (C:=C) I
 have r2:Vals (V.ref (s.heap.objs.size + 1)::(vs++dvs)) (Value.ref (s.heap.objs.size + 1)::(us++ds)):= .cons rfl (r.append hd)
 have hl:(Value.ref (s.heap.objs.size + 1)::us++ds).length=ps.length:=by
  have e:=r2.length
  rw [F.len _ _ _ _ hq] at e
  exact e.symm
 refine wpAny_call (make_map (f:=f) I.kIn M.makes M.init (beq_iff_eq.mp M.fn) (codeAny_mono (F.run _ X.stack _ _ ⟨Value.ref (s.heap.objs.size + 1)::us,[]⟩ (Value.ref (s.heap.objs.size + 1)::(us++ds)) _ _ E (hr.make C us [])
  (I2.env0.make C us []) (hb _ (Value.ref (s.heap.objs.size + 1)::us) I2.kIn hl) r2 hq) fun r s' hq'=>?_))
 cases r with
 | error e=>exact hx pins σ _ _ e s' I2 hq'
 | ok fl =>
  cases fl with
  | ret u =>
   obtain ⟨v,H',I3,rv,ev,q3⟩:=I2.after hq'
   subst ev
   exact ⟨rv,⟨V.ref (s.heap.objs.size + 1),H',I3,rfl,q3⟩⟩
  | next=>exact False.elim hq'
  | brk=>exact False.elim hq'
  | cont=>exact False.elim hq'
theorem pe_make (M:Mk X.K C f) (F:FnOk X.prog X.w X.K X.mg X.base CX k f fd ps sp) (hr:Room (k + 1) X.A) (hg:Gl X x) (hm:X.mg x=some (.ref C)) (hb:Binds X.K fd ps ds) (hd:Vals dvs ds) (hx:qk1 CX X E)
  (ha:PA X (e::es) t) (hdb:(x == ("__debug__":Str))=false:=by decide) (he:starEach (e::es) X.env=(false,eval e X.env)::starEach es X.env:=by rfl) (hpl:(backTo pos (starEach es X.env)).any (·.1)=false:=by rfl) :
  PE X (.Call (.Name x p) (e::es) [] pos) (quv C sp dvs E t):=by
 intro pins s σ H Q I h
 refine wpAny_Call_Name_kw (qqo I hg hm ?_ hdb)
 refine PySem.W.callWith_K (h₀:=X.base) I.ok.mod.kin M.kp (thn (ha pos pins s σ H _ I h) fun us s1 ⟨vs,H1,I1,r,q⟩=>⟨I1.kIn,?_⟩) he hpl
 exact run_make M F hr hb hd hx I1 r q
end
section
variable {X:Cx} {CX:CXT} {k:Nat} {f C:Addr} {fd:FuncData} {ps ks:List Str} {sp:Sp} {E:XK} {x m:Str} {p pos apos kpos:Pos} {e o:Expr} {es:List Expr} {kws:List Keyword} {te ta:TE} {t tk:TA} {nm:Option Str}
variable {g:List Value->List Value->List Value} {gV:List V->List V->List V}
end
structure qar (N P:List Str) (sc:Scope):Prop where
 kind:sc.kind = .function
 co:sc.isCoroutine=false
 gen:sc.isGenerator=false
 nd:N.Nodup
 pre:N.take P.length=P
 par:∀ x ∈ P,sc.names.lookup x=some .local ∨ sc.names.lookup x=some .cell
 nofree:∀ y ∈ sc.names,y.2 ≠ .free

theorem qpm {kindOf:Str->Option NameKind} {x:Str}:∀ {binds:List (Str × Value)} {m:Str->Option Value},(∀ v,(x,v) ∉ binds)->bindL kindOf binds m x=m x
 | [],_,_=>rfl
 | (n,v)::r,m,h=>by
  unfold bindL
  rw [qpm fun w hw=>h w (List.mem_cons_of_mem _ hw)]
  split
  ·have:x ≠ n:=by rintro rfl;exact h v List.mem_cons_self
   simp [this]
  ·rfl
theorem qpo {kindOf:Str->Option NameKind} {x:Str}:∀ {binds:List (Str × Value)} {m:Str->Option Value},(∀ v,(x,v) ∉ binds)->bindC kindOf binds m x=m x
 | [],_,_=>rfl
 | (n,v)::r,m,h=>by
  unfold bindC
  rw [qpo fun w hw=>h w (List.mem_cons_of_mem _ hw)]
  split
  ·rfl
  ·have:x ≠ n:=by rintro rfl;exact h v List.mem_cons_self
   simp [this]
theorem qpn {kindOf:Str->Option NameKind} {x:Str} {v:Value}:∀ {P:List Str} {vs:List Value} {i:Nat} {m:Str->Option Value},P.Nodup->P[i]?=some x->vs[i]?=some v->kindOf x=some .local ->
  bindL kindOf (P.zip vs) m x=some v
 | [],_,_,_,_,h,_,_=>by simp at h
 | _::_,[],_,_,_,_,h,_=>by simp at h
 | p::P,w::vs,0,m,nd,h1,h2,hk=>by
  simp at h1 h2;subst h1;subst h2
  show bindL kindOf ((p,w)::P.zip vs) m p=_
  unfold bindL
  rw [qpm fun v hv=>(List.nodup_cons.mp nd).1 (List.of_mem_zip hv).1,if_pos hk]
  simp
 | p::P,w::vs,i + 1,m,nd,h1,h2,hk=>by
  show bindL kindOf ((p,w)::P.zip vs) m x=_
  unfold bindL
  exact qpn (i:=i) (List.nodup_cons.mp nd).2 (by simpa using h1) (by simpa using h2) hk
theorem qpp {kindOf:Str->Option NameKind} {x:Str} {v:Value}:∀ {P:List Str} {vs:List Value} {i:Nat} {m:Str->Option Value},P.Nodup->P[i]?=some x->vs[i]?=some v->kindOf x ≠ some .local ->
  bindC kindOf (P.zip vs) m x=some v
 | [],_,_,_,_,h,_,_=>by simp at h
 | _::_,[],_,_,_,_,h,_=>by simp at h
 | p::P,w::vs,0,m,nd,h1,h2,hk=>by
  simp at h1 h2;subst h1;subst h2
  show bindC kindOf ((p,w)::P.zip vs) m p=_
  unfold bindC
  rw [qpo fun v hv=>(List.nodup_cons.mp nd).1 (List.of_mem_zip hv).1,if_neg hk]
  simp
 | p::P,w::vs,i + 1,m,nd,h1,h2,hk=>by
  show bindC kindOf ((p,w)::P.zip vs) m x=_
  unfold bindC
  exact qpp (i:=i) (List.nodup_cons.mp nd).2 (by simpa using h1) (by simpa using h2) hk

def start (N:List Str) (vs:List V):St:=vs.map some++List.replicate (N.length - vs.length) none

def qsa (CX:CXT) (P:Program) (w:World) (K:PySem.W.Frag) (mg:Str->Option Value) (base:Heap) (N:List Str) (qual:Str) (scope:Scope) (f:Addr) (cd:Value) (A:Around) (outer:List Env) (s:Shared) (H:Hp) (E:XK):Cx where
 prog:=P
 w:=w
 K:=K
 mg:=mg
 base:=base
 A:=A.deeper (envOfC qual scope s.heap.objs.size f cd)
 N:=N
 s₀:=s
 H₀:=H
 env:=envOfC qual scope s.heap.objs.size f cd
 outer:=outer
 stack:=envOfC qual scope s.heap.objs.size f cd::outer
 ex:=[]
 calm:=true
 fn:=fun _=>true
 pn:=[]
 xe:=fun e s'=>wpAny (model P w) (A.deeper (envOfC qual scope s.heap.objs.size f cd)) (leaving (envOfC qual scope s.heap.objs.size f cd) e) (fun _ s''=>CX outer H s E e s'') (fun e' s''=>CX outer H s E e' s'') s'

theorem qse {sc:Scope} {n:Nat} {x:Str} (h:sc.names.lookup x=some .cell):∃ c,(cellsFrom n sc.names []).lookup x=some c:=by
 have q:=PySem.W.cellsFrom_some sc.names n [] (.inl h)
 exact Option.isSome_iff_exists.mp q

theorem qwm {CX:CXT} {P:Program} {w:World} {K:PySem.W.Frag} {mg:Str->Option Value} {base:Heap} {N ps:List Str} {qual:Str} {scope:Scope} {f:Addr} {cd:Value} {A:Around} {outer:List Env} {s s1:Shared} {H:Hp} {E:XK} {us:List Value} {vs:List V}
  (S:qar N ps scope) (hd:A.handled=none) (e0:Env0 P w K mg base A outer s H) (hl:vs.length=ps.length) (r:Vals vs us)
  (x:InCallC s s.heap.objs.size (bindL (envOfC qual scope s.heap.objs.size f cd).kindOf (ps.zip us) fun _=>none) (cellsFrom (s.heap.objs.size + 1) scope.names []) (bindC (envOfC qual scope s.heap.objs.size f cd).kindOf (ps.zip us) fun _=>none) s1) :
  Inv (qsa CX P w K mg base N qual scope f cd A outer s H E) [] (start N vs) H s1:=by
 have hpl:ps.length<=N.length:=by have:=congrArg List.length S.pre;rw [List.length_take] at this;omega
 obtain ⟨h1,tk,rfl,hk⟩:=x.done
 have noA:∀ b:Addr,b ∉ (qsa CX P w K mg base N qual scope f cd A outer s H E).ex:=fun b z=>absurd (show b ∈ ([]:List Addr) from z) (by simp)
 refine ⟨⟨e0.mod,S.kind,rfl,rfl,Nat.le_refl _,fun y z c h1 h2=>?_,fun y hy=>?_,fun y c _ h=>?_,fun _=>hd,Around.frames_deeper e0.frames,.inr ⟨rfl,rfl⟩,fun b z=>absurd z (noA b),e0.bs,e0.bsz,fun b _ _=>noA b,fun b z=>absurd z (noA b),e0.funs,e0.frf⟩,
  rfl,e0.bare,Un.kept hk,⟨_,x.toInCall.ns,fun i y v h1 h2 h3=>?_⟩,fun y c h=>⟨_,x.cell y c h⟩,e0.hok.fresh (Nat.le_refl _),fun y c h=>?_,fun p hp=>absurd (show p ∈ ([]:List (Addr × Obj)) from hp) (by simp),e0.hok.kept hk,?_⟩
 ·exact name_of_addr x.apart (PySem.mem_of_lookup h1) (PySem.mem_of_lookup h2)
 ·have hy:scope.names.lookup y=some .cell ∨ scope.names.lookup y=some .free:=hy
  rcases hy with hy | hy
  ·exact qse hy
  ·exact absurd rfl (S.nofree _ (PySem.mem_of_lookup hy))
 ·exact Nat.le_of_lt (x.above y c (PySem.mem_of_lookup h))
 ·have hi:i < vs.length:=by
   unfold start at h2
   by_cases hi:i < vs.length
   ·exact hi
   ·rw [List.getElem?_append_right (by simpa using hi)] at h2
    rw [List.getElem?_replicate] at h2
    split at h2 <;> cases h2
  have ha:vs[i]?=some v:=by
   unfold start at h2
   rw [List.getElem?_append_left (by simpa using hi),List.getElem?_map] at h2
   cases e:vs[i]? with
   | none=>rw [e] at h2;cases h2
   | some a=>rw [e] at h2;cases h2;rfl
  obtain ⟨u,hu,rv⟩:=r.get ha
  have hp:ps[i]?=some y:=by
   rw [<- S.pre,List.getElem?_take_of_lt (by omega)];exact h1
  have ndP:ps.Nodup:=by rw [<- S.pre];exact S.nd.sublist (List.take_sublist _ _)
  refine ⟨u,rv,?_⟩
  rcases S.par y (List.mem_of_getElem? hp) with k | k
  ·exact .inl ⟨k,qpn ndP hp hu k⟩
  ·obtain ⟨c,e⟩:=qse (n:=s.heap.objs.size + 1) k
   refine .inr ⟨.inl k,c,e,?_⟩
   have q:=x.cell y c e
   rw [qpp ndP hp hu (by show scope.names.lookup y ≠ _;rw [k];decide)] at q
   exact q
 ·exact e0.hok.fresh (Nat.le_of_lt (x.above y c (PySem.mem_of_lookup h)))
 ·unfold start
  show _=N.length
  rw [List.length_append,List.length_map,List.length_replicate]
  omega

theorem fn_of {CX:CXT} {P:Program} {w:World} {K:PySem.W.Frag} {mg:Str->Option Value} {base:Heap} {k:Nat} {f:Addr} {name qual:Str} {params:Arguments} {body:List Stmt} {scope:Scope} {dV kV doc pm cdv ct oc:Value} {an od:Option Addr}
  {osl:Array (Option Value)} {N ps:List Str} {sp:Sp} (lk:K.lookup f=some ⟨oc,od,.func (PySem.W.fnOf name qual params body scope dV kV doc pm an cdv ct),osl⟩) (hcd:PySem.W.codeIn K cdv qual=true) (S:qar N ps scope)
  (len:∀ vs H Q E,sp vs H Q E->vs.length=ps.length)
  (hbody:∀ (A:Around) (outer:List Env) (s:Shared) (H:Hp) (vs:List V) (Q:VK) (E:XK),Room k (A.deeper (envOfC qual scope s.heap.objs.size f cdv))->sp vs H Q E ->
   ∃ t,PSs (qsa CX P w K mg base N qual scope f cdv A outer s H E) body t/\t { nx:=fun _ H'=>Q .non H',rt:=Q } (start N vs) H) :
  FnOk P w K mg base CX (k + 1) f (PySem.W.fnOf name qual params body scope dV kV doc pm an cdv ct) ps sp:=by
 refine ⟨len,fun A outer s H args us vs Q E hr e0 hb r hsp=>?_⟩
 have hl:=len _ _ _ _ hsp
 have KX:K.In s.heap:=e0.mod.kin.keeps fun b o e=>(e0.bs b o e).1
 have lim:s.heap.NoLimit:=e0.mod.nolimit.keeps fun b o e=>(e0.bs b o e).1
 have hkind:∀ y ∈ ps.zip us,scope.names.lookup y.1=some .local ∨ (scope.names.lookup y.1=some .cell/\((cellsFrom (s.heap.objs.size + 1) scope.names []).lookup y.1).isSome=true):=fun ⟨n,v⟩ hy=>by
  rcases S.par n (List.of_mem_zip hy).1 with q | q
  ·exact .inl q
  ·exact .inr ⟨q,PySem.W.cellsFrom_some _ _ _ (.inl q)⟩
 refine codeAny_call_function hr.depth (KX _ _ lk) rfl S.co S.gen rfl (PySem.W.codeRec_of KX hcd) (hb _ _ _ _ ?_)
 refine wpAny_newFunctionEnv_cells S.kind hkind fun env he s1 x=>?_
 subst he
 refine ⟨lim.keeps x.toInCall.keep,codeAny_func ?_⟩
 obtain ⟨t,ht,hq⟩:=hbody A outer s H vs Q E (hr.deeper _) hsp
 have I:Inv (qsa CX P w K mg base N qual scope f cdv A outer s H E) [] (start N vs) H s1:=qwm S hr.hd e0 hl r x
 refine wpAny_mono (ht [] s1 (start N vs) H _ I hq) (fun fl s' hs=>?_) fun e s' hs=>hs
 have fin:∀ {σ':St} {H':Hp} {v:V} {u:Value},Inv (qsa CX P w K mg base N qual scope f cdv A outer s H E) [] σ' H' s'->RelV v u->Q v H'->CE outer P w H s Q u s' :=
  fun {σ' H' v u} J rv q=>⟨v,H',J.os,J.bare,J.base,J.hok,rv,q⟩
 cases fl with
 | ret u =>
  obtain ⟨v,σ',H',J,rv,q⟩:=hs
  exact fin J rv q
 | next =>
  obtain ⟨σ',H',J,q⟩:=hs
  exact fin (v:=V.non) (u:=Value.none) J rfl q
 | brk =>
  obtain ⟨_,_,_,q⟩:=hs
  exact False.elim q
 | cont =>
  obtain ⟨_,_,_,q⟩:=hs
  exact False.elim q
end L2
namespace L2
open PySem PySem.Spec PyProof.Rows
section
variable {X:Cx} {x:Str} {p pos:Pos} {e:Expr} {es:List Expr} {t:TA} {id T:String} {r:List V->Hp->VK->Prop}
def tCB (r:List V->Hp->VK->Prop) (t:TA):TE:=fun σ H Q=>t σ H fun vs H1=>r vs H1 Q
theorem qa1 (hc:CallR X (.builtin id) r) (hg:Gl X x) (hm:X.mg x=none) (hv:bootBuiltins x=some (.builtin id)) (ha:PA X (e::es) t) (hn:x ≠ "__name__":=by decide) (hdb:(x == ("__debug__":Str))=false:=by decide)
  (he:starEach (e::es) X.env=(false,eval e X.env)::starEach es X.env:=by rfl) (hpl:(backTo pos (starEach es X.env)).any (·.1)=false:=by rfl):PE X (.Call (.Name x p) (e::es) [] pos) (tCB r t):=by
 intro pins s σ H Q I h
 refine wpAny_Call_Name_kw (qke I hg hm hv ?_ hn hdb)
 exact PyProof.Rows.callWith_builtin1 (thn (ha pos pins s σ H _ I h) fun us s1 ⟨vs,H1,I1,r1,q1⟩=>hc pins s1 σ H1 vs us Q I1 r1 q1) he hpl
theorem qeu (hc:CallR X (.type T) r) (hg:Gl X x) (hm:X.mg x=none) (hv:bootBuiltins x=some (.type T)) (ha:PA X (e::es) t) (hn:x ≠ "__name__":=by decide) (hdb:(x == ("__debug__":Str))=false:=by decide)
  (he:starEach (e::es) X.env=(false,eval e X.env)::starEach es X.env:=by rfl) (hpl:(backTo pos (starEach es X.env)).any (·.1)=false:=by rfl):PE X (.Call (.Name x p) (e::es) [] pos) (tCB r t):=by
 intro pins s σ H Q I h
 refine wpAny_Call_Name_kw (qke I hg hm hv ?_ hn hdb)
 exact PyProof.Rows.callWith_type1 (thn (ha pos pins s σ H _ I h) fun us s1 ⟨vs,H1,I1,r1,q1⟩=>hc pins s1 σ H1 vs us Q I1 r1 q1) he hpl
end
end L2
namespace HT
open PySem PyProof.Rows
section
open PySem.SeqAt
open PySem.AutoSeq1 (wpAny_loadPart')
open PySem.MeetsSeq PySem.MeetsSeq2 PySem.MeetsSeq3
end
section
variable {prog:Program} {w:World} {A:Around} {E:Value->Shared->Prop} {s:Shared}
theorem cat_tup {t b:Addr} {vs ws:List Value} {Q:Value->Shared->Prop} (ht:IsTup s.heap t vs.toArray) (hb:IsTup s.heap b ws.toArray) (hv:vs ≠ [])
  (h1:ws=[]->Q (.ref t) s) (h2:ws ≠ []->Q (.ref s.heap.objs.size) { s with heap:=s.heap.push { cls:= .type "tuple",data:= .seq (vs++ws).toArray } })
  (hsz:vs.length + ws.length<=sizeLine):wpAny (model prog w) A (binaryOp .Add (.ref t) (.ref b)) Q E s:=by
 obtain ⟨⟨cls,dd,data,sl⟩,ho,hc,n,hd⟩:=id ht
 obtain ⟨⟨cls2,dd2,data2,sl2⟩,ho2,hc2,n2,hd2⟩:=id hb
 simp only at hc hd hc2 hd2
 subst hc hd hc2 hd2
 have e:vs.toArray++ws.toArray=(vs++ws).toArray:=by simp
 by_cases hw:ws=[]
 ·exact concat_meets ⟨_,ho,rfl⟩ ⟨_,ho2,rfl⟩ noFill_tuple_add seq_tuple_add PySem.F.slot_tuple_add PySem.F.entry_tuple_add (PySem.F.args_tuple_add_2 _ _)
   (tuple_addW1 t b vs.toArray ws.toArray n n2 dd dd2 sl sl2 (by simpa using hv) (by simp [hw])) ⟨ho,ho2,h1 hw⟩
 ·refine concat_meets ⟨_,ho,rfl⟩ ⟨_,ho2,rfl⟩ noFill_tuple_add seq_tuple_add PySem.F.slot_tuple_add PySem.F.entry_tuple_add (PySem.F.args_tuple_add_2 _ _)
   (tuple_addW2 t b vs.toArray ws.toArray n n2 dd dd2 sl sl2 (by simpa using hv) (by simpa using hw) (by rw [List.size_toArray,List.size_toArray];exact hsz)) ⟨ho,ho2,?_⟩
  rw [e]
  exact h2 hw

def sIx (n d:Nat):Option Int->Nat
 | none=>d
 | some v=>if v < 0 then (v + (n:Int)).toNat else min v.toNat n
theorem sIx_none (n d:Nat):sIx n d none=d:=rfl
end
end HT
namespace L2
open PySem PySem.Spec PyProof.Rows
abbrev TO:=St->Hp->(Option Int->Hp->Prop)->Prop
def PO (X:Cx) (e:Option Expr) (t:TO):Prop :=
 ∀ (pins:List (Addr × Obj)) (s:Shared) (σ:St) (H:Hp) (Q:Option Int->Hp->Prop),Inv X pins σ H s->t σ H Q ->
  wpAny (model X.prog X.w) X.A (evalPart e X.env) (fun u s'=>∃ o H',Inv X pins σ H' s'/\IsPart u o/\Q o H') X.xe s
def quu:TO:=fun _ H Q=>Q none H
def tPart (t:TE):TO:=fun σ H Q=>t σ H fun x H1=>∃ i,x = .int i/\Q (some i) H1

section
variable {X:Cx} {e:Expr} {te:TE} {lo hi:Option Expr} {tl th:TO} {pos p2:Pos}
theorem qm9:PO X none quu:=by
 intro pins s σ H Q I h
 rw [evalPart_none]
 exact wpAny_pure ⟨none,H,I,.none,h⟩
theorem qjx (h:PE X e te):PO X (some e) (tPart te):=by
 intro pins s σ H Q I hw
 rw [evalPart_some]
 refine thn (h pins s σ H _ I hw) fun u s1 ⟨x,H1,I1,r1,q1⟩=>?_
 obtain ⟨i,rfl,q⟩:=q1
 obtain ⟨t,rfl⟩:=r1
 exact ⟨some i,H1,I1,.int i t,q⟩

def SlR (X:Cx) (r:V->Option Int->Option Int->Hp->VK->Prop):Prop :=
 ∀ (pins:List (Addr × Obj)) (s:Shared) (σ:St) (H:Hp) (x:V) (v vl vu:Value) (lo hi:Option Int) (sl:Addr) (Q:VK),Inv X pins σ H s->RelV x v->s.heap.IsSliceOf sl vl vu .none->IsPart vl lo->IsPart vu hi->r x lo hi H Q ->
  ∃ T id,typeLookup (.type T) "__getitem__"=pure (some (.builtin id))/\s.TypeIs v T/\wpAny (model X.prog X.w) X.A (getItem v (.ref sl)) (EP X pins σ Q) X.xe s
def tSl (r:V->Option Int->Option Int->Hp->VK->Prop) (te:TE) (tl th:TO):TE:=fun σ H Q=>te σ H fun x H1=>tl σ H1 fun l H2=>th σ H2 fun u H3=>r x l u H3 Q
theorem qnd {r:V->Option Int->Option Int->Hp->VK->Prop} (hr:SlR X r) (he:PE X e te) (hl:PO X lo tl) (hu:PO X hi th):PE X (.Subscript e (.Slice lo hi none p2) pos) (tSl r te tl th):=by
 intro pins s σ H Q I h
 refine Subscript_ (thn (he pins s σ H _ I h) fun v s1 ⟨x,H1,I1,r1,q1⟩=>?_)
 refine wpAny_Slice (thn (hl pins s1 σ H1 _ I1 q1) fun vl s2 ⟨l,H2,I2,pl,q2⟩=>thn (hu pins s2 σ H2 _ I2 q2) fun vu s3 ⟨u,H3,I3,pu,q3⟩=>?_)
 rw [evalPart_none]
 refine wpAny_pure ?_
 have I4:Inv X pins σ H3 { s3 with heap:=s3.heap.push { cls:= .type "slice",data:= .fields #[vl,vu,.none] } }:=I3.kept (t':=s3.toks) fun b ob q=>Heap.get?_push_of_some _ q
 obtain ⟨T,id,hT,ht,hg⟩:=hr pins { s3 with heap:=s3.heap.push { cls:= .type "slice",data:= .fields #[vl,vu,.none] } } σ H3 x v vl vu l u s3.heap.objs.size Q I4 r1 (Heap.IsSliceOf.new ..) pl pu q3
 show wpAny (model X.prog X.w) X.A (subscriptTail e (.Slice lo hi none p2) v (.ref s3.heap.objs.size)) (EP X pins σ Q) X.xe { s3 with heap:=s3.heap.push { cls:= .type "slice",data:= .fields #[vl,vu,.none] } }
 exact tail_any (ops:=[.ref s3.heap.objs.size,v]) ht hT hg (by with_unfolding_all rfl)

def cutV (xs:List V) (lo hi:Option Int):List V:=(xs.drop (HT.sIx xs.length 0 lo)).take (HT.sIx xs.length xs.length hi - HT.sIx xs.length 0 lo)
theorem qq4 (xs:List V) (lo hi:Option Int):(cutV xs lo hi).length<=xs.length:=by
 unfold cutV
 rw [List.length_take,List.length_drop]
 omega
def rCatT (K:PySem.W.Frag):R2:=fun x y H Q=>∃ a b xs ys,x = .ref a/\y = .ref b/\SqT K H a xs/\SqT K H b ys/\xs ≠ []/\xs.length + ys.length<=sizeLine /\
 (ys=[]->Q (.ref a) H)/\(ys ≠ []->∀ p,H p=none->Q (.ref p) (upd H p (.tup (xs++ys))))
theorem Vals.nil_iff {xs:List V} {us:List Value} (r:Vals xs us):us=[] ↔ xs=[]:=by
 cases r with
 | nil=>simp
 | cons _ _=>simp
theorem op_catT:OpR X (binaryOp .Add) (rCatT X.K):=by
 intro pins s σ H x y v u Q I rx ry h
 obtain ⟨a,b,xs,ys,rfl,rfl,ha,hb,hx,hz,q1,q2⟩:=h
 cases rx
 cases ry
 obtain ⟨its,r1,p1,_⟩:=I.tuple ha
 obtain ⟨its2,r2,p2,_⟩:=I.tuple hb
 refine HT.cat_tup p1 p2 (fun z=>hx (r1.nil_iff.mp z)) (fun z=>⟨.ref a,H,I,rfl,q1 (r2.nil_iff.mp z)⟩) (fun z=>?_) (by rw [<- r1.length,<- r2.length];exact hz)
 refine ⟨.ref s.heap.objs.size,_,I.laid (t':=s.toks) (o:= .tup (xs++ys)) (fun b ob q=>Heap.get?_push_of_some _ q) (Nat.le_refl _) ?_,rfl,q2 (fun w=>z (r2.nil_iff.mpr w)) _ (I.hok.fresh (Nat.le_refl _))⟩
 exact ⟨by rw [List.length_append];exact hz,_,r1.append r2,IsTup.new _ _⟩
end
end L2
namespace L2
open PySem PySem.Spec PyProof.Rows
def ixN (n:Nat) (i:Int):Option Nat:=if 0<=i then (if i < n then some i.toNat else none) else if -(n:Int)<=i then some (i + n).toNat else none
def atI {α:Type} (xs:List α) (i:Int):Option α:=(ixN xs.length i).bind fun j=>xs[j]?
theorem qwh {n:Nat} {i:Int} {j:Nat} (h:ixN n i=some j):seqIndex? i n=some j/\j < n/\-(n:Int)<=i/\i < n:=by
 unfold ixN at h
 by_cases h0:0<=i
 ·rw [if_pos h0] at h
  by_cases h1:i < n
  ·rw [if_pos h1] at h
   have e:i.toNat=j:=Option.some.inj h
   exact ⟨by rw [seqIndex_of h0 h1,e],by omega,by omega,h1⟩
  ·rw [if_neg h1] at h;cases h
 ·rw [if_neg h0] at h
  by_cases h1:-(n:Int)<=i
  ·rw [if_pos h1] at h
   have e:(i + n).toNat=j:=Option.some.inj h
   exact ⟨by rw [seqIndex_neg (by omega) h1,e],by omega,h1,by omega⟩
  ·rw [if_neg h1] at h;cases h
theorem qq8 {α:Type} {xs:List α} {i:Int} {v:α} (h:atI xs i=some v):∃ j,seqIndex? i xs.length=some j/\xs[j]?=some v/\j < xs.length/\-(xs.length:Int)<=i/\i < xs.length:=by
 unfold atI at h
 cases e:ixN xs.length i with
 | none=>rw [e] at h;cases h
 | some j =>
  rw [e] at h
  obtain ⟨h1,h2,h3,h4⟩:=qwh e
  exact ⟨j,h1,h,h2,h3,h4⟩
theorem qdx {α:Type} {xs:List α} {j:Nat} {v:α} (h:xs[j]?=some v):atI xs (j:Int)=some v:=by
 have hj:j < xs.length:=(List.getElem?_eq_some_iff.mp h).1
 have e:ixN xs.length (j:Int)=some j:=by
  unfold ixN
  rw [if_pos (by omega),if_pos (by omega)];simp
 unfold atI;rw [e];exact h
def PlainIx (b:Expr):Prop:=∀ o i,subscripted b false o i=operate [o,i] (getItem o i)
def IxR (X:Cx) (r:R2):Prop :=
 ∀ (value slice:Expr) (pins:List (Addr × Obj)) (s:Shared) (σ:St) (H:Hp) (x y:V) (v u:Value) (Q:VK),Inv X pins σ H s->RelV x v->RelV y u->r x y H Q ->
  subscripted slice false v u=operate [v,u] (getItem v u)->wpAny (model X.prog X.w) X.A (subscriptTail value slice v u) (EP X pins σ Q) X.xe s
def MtR (X:Cx) (id:String) (r:V->List V->Hp->VK->Prop):Prop :=
 ∀ (pins:List (Addr × Obj)) (s:Shared) (σ:St) (H:Hp) (x:V) (xs:List V) (v:Value) (us:List Value) (Q:VK),Inv X pins σ H s->RelV x v->Vals xs us->r x xs H Q ->
  wpAny (model X.prog X.w) X.A (call (.builtin id) (v::us)) (EP X pins σ Q) X.xe s
section
variable {X:Cx} {a b:Expr} {ta tb:TE} {pos:Pos}
theorem IxR.or {r r':R2} (h:IxR X r) (h':IxR X r'):IxR X (fun x y H Q=>r x y H Q ∨ r' x y H Q):=by
 intro value slice pins s σ H x y v u Q I rx ry q hs
 rcases q with q | q
 ·exact h value slice pins s σ H x y v u Q I rx ry q hs
 ·exact h' value slice pins s σ H x y v u Q I rx ry q hs
theorem qbb {r:R2} (hr:IxR X r) (ha:PE X a ta) (hb:PE X b tb) (hs:PlainIx b):PE X (.Subscript a b pos) (tOp r ta tb):=by
 intro pins s σ H Q I h
 exact Subscript_ (binT ha hb I h fun v u s2 x y H2 I2 rx ry q=>hr a b pins s2 σ H2 x y v u Q I2 rx ry q (hs _ _))

def rIxL (K:PySem.W.Frag):R2:=fun x y H Q=>∃ p xs i v,x = .ref p/\y = .int i/\SqL K H p xs/\atI xs i=some v/\Q v H
def rIxT (K:PySem.W.Frag):R2:=fun x y H Q=>∃ p xs i v,x = .ref p/\y = .int i/\SqT K H p xs/\atI xs i=some v/\Q v H
def rIxS:R2:=fun x y H Q=>∃ z i c,x = .str z/\y = .int i/\z.length<=sizeLine/\atI z.cps.toList i=some c/\Q (.str ⟨#[c]⟩) H
theorem ix_list:IxR X (rIxL X.K):=by
 intro value slice pins s σ H x y v u Q I rx ry h hs
 obtain ⟨p,xs,i,z,rfl,rfl,hq,he,q⟩:=h
 cases rx
 obtain ⟨t,rfl⟩:=ry
 obtain ⟨its,r,pl,hz⟩:=I.list hq
 obtain ⟨j,h1,h2,h3,h4,h5⟩:=qq8 he
 obtain ⟨w,ew,rw'⟩:=r.get h2
 have hl:=r.length
 have hn:=qkb
 have fin:EP X pins σ Q w s:=⟨z,H,I,rw',q⟩
 by_cases h0:0<=i
 ·have hj:i.toNat=j:=by
   rw [seqIndex_of h0 h5] at h1
   exact Option.some.inj h1
  exact item_listR pl.isList h0 (by omega) (by rw [hj];simpa using ew) fin hs
 ·have hj:(i + (its.toArray.size:Int)).toNat=j:=by
   rw [seqIndex_neg (by omega) h4] at h1
   rw [List.size_toArray,<- hl]
   exact Option.some.inj h1
  exact subscriptTail_builtinR (x:=w) pl.isList.typeIs slot_list_getitem.lookup
   (wpAny_getItem_list_neg (Q:=fun r s'=>r=w/\EP X pins σ Q r s') pl.isList (by omega) (by rw [List.size_toArray] <;> omega) (by omega) (by rw [hj];simpa using ew) ⟨rfl,fin⟩) hs
theorem ix_tup:IxR X (rIxT X.K):=by
 intro value slice pins s σ H x y v u Q I rx ry h hs
 obtain ⟨p,xs,i,z,rfl,rfl,hq,he,q⟩:=h
 cases rx
 obtain ⟨t,rfl⟩:=ry
 obtain ⟨its,r,pl,hz⟩:=I.tuple hq
 obtain ⟨j,h1,h2,h3,h4,h5⟩:=qq8 he
 obtain ⟨w,ew,rw'⟩:=r.get h2
 have hl:=r.length
 have hn:=qkb
 have fin:EP X pins σ Q w s:=⟨z,H,I,rw',q⟩
 exact subscriptTail_builtinR (x:=w) pl.typeIs slot_tuple_getitem.lookup
  (getItem_tuple (j:=j) (Q:=fun r s'=>r=w/\EP X pins σ Q r s') pl (by omega) (by omega) (by rw [List.size_toArray,<- hl];exact h1) (by simpa using ew) ⟨rfl,fin⟩) hs
theorem ix_str:IxR X rIxS:=by
 intro value slice pins s σ H x y v u Q I rx ry h hs
 obtain ⟨z,i,c,rfl,rfl,hz,he,q⟩:=h
 obtain ⟨t,rfl⟩:=rx
 obtain ⟨t',rfl⟩:=ry
 obtain ⟨j,h1,h2,h3,h4,h5⟩:=qq8 he
 have hl:z.cps.toList.length=z.length:=by simp [Str.length]
 rw [hl] at h1 h4 h5
 have hn:=qkb
 exact tail_any (typeIs_str s z t) slot_str_getitem.lookup (getItem_str (c:=c) (by
  have e1:decide (i < -(2 ^ 63:Int))=false:=decide_eq_false (by omega)
  have e2:decide (i >= 2 ^ 63)=false:=decide_eq_false (by omega)
  rw [e1,e2,Bool.or_false]) (by rw [h1];simpa using h2) ⟨.str ⟨#[c]⟩,H,I.tok _,⟨_,rfl⟩,q⟩) hs
def rIx (K:PySem.W.Frag):R2:=fun x y H Q=>rIxL K x y H Q ∨ rIxT K x y H Q ∨ rIxS x y H Q
theorem ix_seq:IxR X (rIx X.K):=ix_list.or (ix_tup.or ix_str)

theorem qtg (its:List Value) (n j:Nat) (u:Value):Obj.mapSeq (·.setIfInBounds j u) { cls:= .type "list",data:= .seq its.toArray n }={ cls:= .type "list",data:= .seq (its.set j u).toArray n }:=by
 simp [Obj.mapSeq]
theorem Inv.lst {pins:List (Addr × Obj)} {σ:St} {H:Hp} {s:Shared} {p:Addr} {xs:List V} (I:Inv X pins σ H s) (h:H p=some (.lst xs)) :
  ∃ (its:List Value) (n:Nat),Vals xs its/\s.heap.get? p=some { cls:= .type "list",data:= .seq its.toArray n }/\xs.length<=sizeLine:=by
 obtain ⟨z,its,n,r,e⟩:=I.hok p _ h
 exact ⟨its,n,r,e,z⟩
theorem Inv.lstUpd {pins:List (Addr × Obj)} {σ:St} {H:Hp} {s:Shared} {p:Addr} {xs ys:List V} {its its':List Value} {n n':Nat} {f:Obj->Obj} (I:Inv X pins σ H s) (h:H p=some (.lst xs))
  (ho:s.heap.get? p=some { cls:= .type "list",data:= .seq its.toArray n }) (hf:f { cls:= .type "list",data:= .seq its.toArray n }={ cls:= .type "list",data:= .seq its'.toArray n' }) (r:Vals ys its') (hz:ys.length<=sizeLine) (t:Nat) :
  Inv X pins σ (upd H p (.lst ys)) { s with heap:=s.heap.update p f,toks:=t }:=by
 have e:(s.heap.update p f).get? p=some { cls:= .type "list",data:= .seq its'.toArray n' }:=by
  rw [Heap.get?_update_self f ho (by rw [hf] <;> rfl),hf]
 refine I.write (x:=p) (e:=p) (by rw [h];trivial) (.inl rfl) (fun b u hb q=>(Heap.get?_update_other _ _ (Ne.symm hb)).trans q) ⟨_,e⟩ ?_
 exact ⟨hz,its',n',r,e⟩
def rSetL:V->V->V->Hp->(Hp->Prop)->Prop:=fun o i v H Q=>∃ p xs k j,o = .ref p/\i = .int k/\H p=some (.lst xs)/\ixN xs.length k=some j/\Q (upd H p (.lst (xs.set j v)))
theorem set_list:PSet X rSetL:=by
 intro pins s σ H o i v ov iv u Q I ro ri rv h
 obtain ⟨p,xs,k,j,rfl,rfl,hp,hj,q⟩:=h
 cases ro
 obtain ⟨t,rfl⟩:=ri
 obtain ⟨its,n,r,ho,hz⟩:=I.lst hp
 obtain ⟨h1,h2,h3,h4⟩:=qwh hj
 have hl:=r.length
 have hn:=qkb
 have I':Inv X pins σ (upd H p (.lst (xs.set j v))) { s with heap:=s.heap.update p (Obj.mapSeq (·.setIfInBounds j u)) } :=
  I.lstUpd hp ho (qtg its n j u) (r.set rv j) (by rw [List.length_set];exact hz) s.toks
 by_cases h0:0<=k
 ·have hk:k.toNat=j:=by
   rw [seqIndex_of h0 h4] at h1
   exact Option.some.inj h1
  exact PySem.W.ki_setAt ho h0 (by omega) (by rw [List.size_toArray,<- hl];exact h4) (by rw [hk];exact ⟨_,I',q⟩)
 ·have hk:(k + (its.toArray.size:Int)).toNat=j:=by
   rw [seqIndex_neg (by omega) h3] at h1
   rw [List.size_toArray,<- hl]
   exact Option.some.inj h1
  exact PySem.W.ki_setBack ho (by omega) (by rw [List.size_toArray,<- hl];exact h3) (by omega) (by rw [hk];exact ⟨_,I',q⟩)

theorem qog (lo hi:Option Int) (n:Nat):(sliceBounds lo hi none n).1=((HT.sIx n 0 lo:Nat):Int)/\(sliceBounds lo hi none n).2.1=((HT.sIx n n hi:Nat):Int)/\(sliceBounds lo hi none n).2.2=1:=by
 refine ⟨?_,?_,rfl⟩
 ·cases lo with
  | none=>simp [sliceBounds,HT.sIx]
  | some i =>
   simp only [sliceBounds,HT.sIx,Option.getD_none,show (1:Int) > 0 by decide,if_true]
   by_cases h:i < 0
   ·simp only [h,if_true] <;> omega
   ·simp only [h,if_false] <;> omega
 ·cases hi with
  | none=>simp [sliceBounds,HT.sIx]
  | some i =>
   simp only [sliceBounds,HT.sIx,Option.getD_none,show (1:Int) > 0 by decide,if_true]
   by_cases h:i < 0
   ·simp only [h,if_true] <;> omega
   ·simp only [h,if_false] <;> omega
theorem qmx (its:List Value) (lo hi:Option Int):slicePick its.toArray lo hi none=((its.drop (HT.sIx its.length 0 lo)).take (HT.sIx its.length its.length hi - HT.sIx its.length 0 lo)).toArray:=by
 obtain ⟨h1,h2,h3⟩:=qog lo hi its.toArray.size
 unfold slicePick
 rw [h1,h2,h3]
 simp only [sliceRange_one,pick_run,List.size_toArray] <;> rfl
def rSlL (K:PySem.W.Frag):V->Option Int->Option Int->Hp->VK->Prop:=fun x lo hi H Q=>∃ a xs,x = .ref a/\SqL K H a xs/\∀ p,H p=none->Q (.ref p) (upd H p (.lst (cutV xs lo hi)))
theorem sl_list:SlR X (rSlL X.K):=by
 intro pins s σ H x v vl vu lo hi sl Q I rx hs pl pu h
 obtain ⟨a,xs,rfl,hx,q⟩:=h
 cases rx
 obtain ⟨its,r,ht,hz⟩:=I.list hx
 have hlen:=r.length
 refine ⟨"list",_,slot_list_getitem.lookup,ht.isList.typeIs,?_⟩
 refine wpAny_getItem_list_slice ht.isList hs pl pu .none (by simp) ?_ (by rw [List.size_toArray] <;> omega)
 rw [qmx,<- hlen]
 refine ⟨.ref s.heap.objs.size,_,I.laid (t':=s.toks) (o:= .lst (cutV xs lo hi)) (fun b ob q=>Heap.get?_push_of_some _ q) (Nat.le_refl _) ?_,rfl,q _ (I.hok.fresh (Nat.le_refl _))⟩
 exact ⟨Nat.le_trans (qq4 xs lo hi) hz,_,0,(r.drop (HT.sIx xs.length 0 lo)).take (HT.sIx xs.length xs.length hi - HT.sIx xs.length 0 lo),Heap.get?_push_size _ rfl⟩

def qbn:V->Bool
 | .non=>true
 | .bl _=>true
 | .int _=>true
 | .str _=>true
 | _=>false
def eqV:V->V->Bool
 | .non,.non=>true
 | .bl a,.bl b=>a == b
 | .bl a,.int b=>(if a then 1 else 0) == b
 | .int a,.bl b=>a == (if b then 1 else 0)
 | .int a,.int b=>a == b
 | .str a,.str b=>a == b
 | _,_=>false
theorem qw3 {A:Around} {s:Shared} {y x:V} {u v:Value} (ry:RelV y u) (rx:RelV x v) (fy:qbn y=true) (fx:qbn x=true):SeqAt.EqAt A s u v (eqV y x):=by
 cases y with
 | non =>
  cases ry
  cases x with
  | non=>cases rx;exact SeqAt.EqAt.same _
  | bl b=>cases rx;exact SeqAt.EqAt.none_bool b
  | int b=>obtain ⟨t,rfl⟩:=rx;exact SeqAt.EqAt.none_int b t
  | str b=>obtain ⟨t,rfl⟩:=rx;exact SeqAt.EqAt.none_str b t
  | _=>exact absurd (show false=true from fx) Bool.false_ne_true
 | bl a =>
  cases ry
  cases x with
  | non=>cases rx;exact SeqAt.EqAt.bool_none a
  | bl b=>cases rx;exact SeqAt.EqAt.bool_bool a b
  | int b=>obtain ⟨t,rfl⟩:=rx;exact SeqAt.EqAt.bool_int a b t
  | str b=>obtain ⟨t,rfl⟩:=rx;exact SeqAt.EqAt.bool_str a b t
  | _=>exact absurd (show false=true from fx) Bool.false_ne_true
 | int a =>
  obtain ⟨t',rfl⟩:=ry
  cases x with
  | non=>cases rx;exact SeqAt.EqAt.int_none a t'
  | bl b=>cases rx;exact SeqAt.EqAt.int_bool a t' b
  | int b=>obtain ⟨t,rfl⟩:=rx;exact SeqAt.EqAt.int_int a t' b t
  | str b=>obtain ⟨t,rfl⟩:=rx;exact SeqAt.EqAt.int_str a t' b t
  | _=>exact absurd (show false=true from fx) Bool.false_ne_true
 | str a =>
  obtain ⟨t',rfl⟩:=ry
  cases x with
  | non=>cases rx;exact SeqAt.EqAt.str_none a t'
  | bl b=>cases rx;exact SeqAt.EqAt.str_bool a t' b
  | int b=>obtain ⟨t,rfl⟩:=rx;exact SeqAt.EqAt.str_int a t' b t
  | str b=>obtain ⟨t,rfl⟩:=rx;exact SeqAt.EqAt.str_str a t' b t
  | _=>exact absurd (show false=true from fx) Bool.false_ne_true
 | _=>exact absurd (show false=true from fy) Bool.false_ne_true
def eqU (x:V) (u:Value):Bool:=match u with
 | .none=>eqV .non x
 | .bool b=>eqV (.bl b) x
 | .int i _=>eqV (.int i) x
 | .str z _=>eqV (.str z) x
 | _=>false
theorem eqU_of {x y:V} {u:Value} (r:RelV y u) (f:qbn y=true):eqU x u=eqV y x:=by
 cases y with
 | non=>cases r;rfl
 | bl b=>cases r;rfl
 | int i=>obtain ⟨t,rfl⟩:=r;rfl
 | str z=>obtain ⟨t,rfl⟩:=r;rfl
 | _=>exact absurd (show false=true from f) Bool.false_ne_true
theorem qky {x:V}:∀ {xs:List V} {us:List Value},Vals xs us->xs.all qbn=true->us.any (eqU x)=xs.any fun y=>eqV y x
 | _,_,.nil,_=>rfl
 | y::xs,u::us,.cons r t,f=>by
  rw [List.all_cons,Bool.and_eq_true] at f
  rw [List.any_cons,List.any_cons,eqU_of r f.1,qky t f.2]
theorem qhi {A:Around} {s:Shared} {x:V} {v:Value} (rx:RelV x v) (fx:qbn x=true):∀ {xs:List V} {us:List Value},Vals xs us->xs.all qbn=true->∀ u ∈ us,SeqAt.EqAt A s u v (eqU x u)
 | _,_,.nil,_=>fun u hu=>by cases hu
 | y::xs,u::us,.cons r t,f=>fun u' hu=>by
  rw [List.all_cons,Bool.and_eq_true] at f
  rcases List.mem_cons.mp hu with rfl | hu
  ·rw [eqU_of r f.1];exact qw3 r rx f.1 fx
  ·exact qhi rx fx t f.2 u' hu
def inV (x:V) (xs:List V):Bool:=xs.any fun y=>eqV y x
def rIn (K:PySem.W.Frag) (neg:Bool):R2:=fun x y H Q=>∃ p xs,y = .ref p/\(SqL K H p xs ∨ SqT K H p xs)/\qbn x=true/\xs.all qbn=true/\Q (.bl (if neg then !inV x xs else inV x xs)) H
theorem qvz:OpR X (compareOp .In) (rIn X.K false):=by
 intro pins s σ H x y v u Q I rx ry h
 obtain ⟨p,xs,rfl,hq,fx,fs,q⟩:=h
 cases ry
 rcases hq with hq | hq
 ·obtain ⟨its,r,pl,hz⟩:=I.list hq
  refine SeqAt.in_listAt (eqU x) pl.isList (fun w hw=>qhi rx fx r fs w (by simpa using hw)) ⟨.bl _,H,I,rfl,?_⟩
  rw [show its.toArray.any (eqU x)=its.any (eqU x) by simp,qky r fs]
  exact q
 ·obtain ⟨its,r,pl,hz⟩:=I.tuple hq
  refine SeqAt.in_tupleAt (eqU x) pl (fun w hw=>qhi rx fx r fs w (by simpa using hw)) ⟨.bl _,H,I,rfl,?_⟩
  rw [show its.toArray.any (eqU x)=its.any (eqU x) by simp,qky r fs]
  exact q
theorem qon:OpR X (compareOp .NotIn) (rIn X.K true):=by
 intro pins s σ H x y v u Q I rx ry h
 obtain ⟨p,xs,rfl,hq,fx,fs,q⟩:=h
 cases ry
 rcases hq with hq | hq
 ·obtain ⟨its,r,pl,hz⟩:=I.list hq
  refine SeqAt.notIn_listAt (eqU x) pl.isList (fun w hw=>qhi rx fx r fs w (by simpa using hw)) ⟨.bl _,H,I,rfl,?_⟩
  rw [show its.toArray.any (eqU x)=its.any (eqU x) by simp,qky r fs]
  exact q
 ·obtain ⟨its,r,pl,hz⟩:=I.tuple hq
  refine SeqAt.notIn_tupleAt (eqU x) pl (fun w hw=>qhi rx fx r fs w (by simpa using hw)) ⟨.bl _,H,I,rfl,?_⟩
  rw [show its.toArray.any (eqU x)=its.any (eqU x) by simp,qky r fs]
  exact q
theorem qpg:CallR X (.builtin "len") (fun xs H Q=>∃ p ys,xs=[.ref p]/\(SqL X.K H p ys ∨ SqT X.K H p ys)/\Q (.int ys.length) H):=by
 intro pins s σ H xs us Q I r h
 obtain ⟨p,ys,rfl,hq,q⟩:=h
 obtain ⟨u,rfl,rx⟩:=qjl r
 cases rx
 have hn:=qkb
 rcases hq with hq | hq
 ·obtain ⟨its,r',pl,hz⟩:=I.list hq
  have hlen:=r'.length
  exact Calls.call_len_list pl.isList (by simp only [List.size_toArray] <;> omega) ⟨.int ys.length,H,I.tok _,⟨s.toks + 1,by rw [List.size_toArray,hlen]⟩,q⟩
 ·obtain ⟨its,r',pl,hz⟩:=I.tuple hq
  have hlen:=r'.length
  exact len_tuple pl (by simp only [List.size_toArray] <;> omega) ⟨.int ys.length,H,I.tok _,⟨s.toks + 1,by rw [List.size_toArray,hlen]⟩,q⟩
theorem CallR.or {f:Value} {r r':List V->Hp->VK->Prop} (h:CallR X f r) (h':CallR X f r'):CallR X f (fun xs H Q=>r xs H Q ∨ r' xs H Q):=by
 intro pins s σ H xs us Q I rs q
 rcases q with q | q
 ·exact h pins s σ H xs us Q I rs q
 ·exact h' pins s σ H xs us Q I rs q
theorem qpf:CallR X (.type "list") (fun xs H Q=>∃ p ys,xs=[.ref p]/\(SqL X.K H p ys ∨ SqT X.K H p ys)/\∀ l,H l=none->Q (.ref l) (upd H l (.lst ys))):=by
 intro pins s σ H xs us Q I r h
 obtain ⟨p,ys,rfl,hq,q⟩:=h
 obtain ⟨u,rfl,rx⟩:=qjl r
 cases rx
 have fin:∀ (its:List Value),Vals ys its->ys.length<=sizeLine->∀ (h':Heap) (c':Nat),(∀ b o',s.heap.get? b=some o'->h'.get? b=some o') ->
   h'.get? s.heap.objs.size=some { cls:= .type "list",dict:=none,data:= .seq its.toArray c',slots:=#[] }->EP X pins σ Q (.ref s.heap.objs.size) { s with heap:=h' }:=fun its r' hz h' c' kp e =>
  ⟨.ref s.heap.objs.size,_,I.laid (t':=s.toks) kp (Nat.le_refl _) (show ObjOk X.prog X.w _ h' _ (.lst ys) from ⟨hz,its,c',r',e⟩),rfl,q _ (I.hok.fresh (Nat.le_refl _))⟩
 rcases hq with hq | hq
 ·obtain ⟨its,r',pl,hz⟩:=I.list hq
  have hlen:=r'.length
  obtain ⟨o,ho,hc,n,hd⟩:=pl.isList
  exact call_list_seq p (.inl rfl) ho hc hd (fun h' c' kp e=>fin its r' hz h' c' kp e) (by simp only [List.size_toArray] <;> omega)
 ·obtain ⟨its,r',pl,hz⟩:=I.tuple hq
  have hlen:=r'.length
  obtain ⟨o,ho,hc,n,hd⟩:=pl
  exact call_list_seq p (.inr rfl) ho hc hd (fun h' c' kp e=>fin its r' hz h' c' kp e) (by simp only [List.size_toArray] <;> omega)
def tyV (K:PySem.W.Frag) (T:String) (x:V) (H:Hp):Prop:=match x with
 | .str _=>T = "str"
 | .int _=>T = "int"
 | .ref p=>(T = "list"/\∃ xs,SqL K H p xs) ∨ (T = "tuple"/\∃ o,K.lookup p=some o/\o.cls = .type "tuple"/\o.dict=none) ∨
   (T = "dict"/\((∃ kvs,H p=some (.dK kvs)) ∨ ∃ kvs,H p=some (.dT kvs))) ∨ (T = "set"/\∃ S n,H p=some (.set S n))
 | _=>False
theorem tyV_is {pins:List (Addr × Obj)} {σ:St} {H:Hp} {s:Shared} {T:String} {x:V} {v:Value} (I:Inv X pins σ H s) (r:RelV x v) (ty:tyV X.K T x H) :
  s.TypeIs v T/\∀ a,v = .ref a->∃ ob,s.heap.get? a=some ob/\ob.dict=none:=by
 cases x with
 | str z =>
  obtain ⟨t,rfl⟩:=r
  cases (show T = "str" from ty)
  exact ⟨typeIs_str s z t,fun _ e=>nomatch e⟩
 | int i =>
  obtain ⟨t,rfl⟩:=r
  cases (show T = "int" from ty)
  exact ⟨typeIs_int s i t,fun _ e=>nomatch e⟩
 | ref p =>
  cases r
  rcases ty with ⟨rfl,xs,hq⟩ | ⟨rfl,o,hk,hc,hd⟩ | ⟨rfl,hk⟩ | ⟨rfl,S,n,hk⟩
  ·obtain ⟨its,_,pl,_⟩:=I.list hq
   refine ⟨pl.isList.typeIs,fun a e=>?_⟩
   cases e
   obtain ⟨o,n,e,c,hd,_⟩:=pl
   exact ⟨o,e,hd⟩
  ·refine ⟨⟨o,I.kIn p o hk,hc⟩,fun a e=>?_⟩
   cases e
   exact ⟨o,I.kIn _ o hk,hd⟩
  ·have z:∃ o,s.heap.get? p=some o/\o.ExactDict:=by
    rcases hk with ⟨kvs,hk⟩ | ⟨kvs,hk⟩
    ·obtain ⟨_,_,_,_,o,_,_,e,ex,_⟩:=I.hok p _ hk
     exact ⟨o,e,ex⟩
    ·obtain ⟨_,_,_,_,o,_,_,e,ex,_⟩:=I.hok p _ hk
     exact ⟨o,e,ex⟩
   obtain ⟨o,e,ex⟩:=z
   refine ⟨⟨o,e,ex.1⟩,fun a e2=>?_⟩
   cases e2
   exact ⟨o,e,ex.2.1⟩
  ·obtain ⟨o,_,_,_,e,ex,_⟩:=I.hok p _ hk
   refine ⟨⟨o,e,ex.1⟩,fun a e2=>?_⟩
   cases e2
   exact ⟨o,e,ex.2.1⟩
 | _=>exact False.elim ty
def tBM (K:PySem.W.Frag) (T:String) (r:V->List V->Hp->VK->Prop) (to:TE) (t:TA):TE:=fun σ H Q=>to σ H fun x H1=>tyV K T x H1/\t σ H1 fun xs H2=>r x xs H2 Q
variable {o e:Expr} {es:List Expr} {to:TE} {t:TA} {name:Str} {apos cpos:Pos} {T id:String} {r:V->List V->Hp->VK->Prop}
theorem pe_bm (pa:PlainAttrs T) (slot:Slot T name id) (hty:typeOf (.builtin id)=pure (.type "method_descriptor")) (hm:MtR X id r) (ho:PE X o to) (ha:PA X (e::es) t)
  (hbase:attributeBase o name X.env (eval o X.env)=eval o X.env:=by rfl)
  (hfew:((backTo cpos (starEach (e::es) X.env)).all (fun x=>!x.1) && (backToKw cpos (keywordEach [] X.env)).all (fun x=>x.1.isSome)
   && decide ((e::es).length + ([]:List Keyword).length + (if ([]:List Keyword).isEmpty then 0 else 1) < 30))=true:=by rfl)
  (hline:(apos.endLine == cpos.line)=true:=by rfl) (hs:starEach (e::es) X.env=(false,eval e X.env)::starEach es X.env:=by rfl) (hplain:(backTo cpos (starEach es X.env)).any (·.1)=false:=by rfl) :
  PE X (.Call (.Attribute o name apos) (e::es) [] cpos) (tBM X.K T r to t):=by
 intro pins s σ H Q I h
 refine wpAny_Call_method_late hbase hfew hline rfl (thn (ho pins s σ H _ I h) fun v s1 ⟨x,H1,I1,r1,ty,q1⟩=>?_)
 obtain ⟨h1,h2⟩:=tyV_is I1 r1 ty
 refine ⟨T,id,pa,slot,hty,h1,h2,?_⟩
 have hA:=ha cpos pins s1 σ H1 _ I1 q1
 rw [hs] at hA ⊢
 refine Calls.callWith_builtin (by show (false || (backTo cpos (starEach es X.env)).any (·.1))=false;rw [hplain] <;> rfl) (Calls.evalArgs_plain ?_)
 exact thn hA fun us s2 ⟨vs,H2,I2,r2,q2⟩=>hm pins s2 σ H2 x vs v us Q I2 r1 r2 q2
end
end L2
namespace L2
open PySem PySem.Spec PyProof.Rows
def MtM (X:Cx) (id:String) (r:V->List V->Hp->VK->Prop):Prop :=
 ∀ (pins:List (Addr × Obj)) (s:Shared) (σ:St) (H:Hp) (x:V) (xs:List V) (v:Value) (us:List Value) (Q:VK),Inv X pins σ H s->RelV x v->Vals xs us->r x xs H Q ->
  wpAny (model X.prog X.w) X.A (call (.builtin id) (v::us)) (EP X pins σ Q) X.xe s

theorem Vals.one:∀ {x:V} {us:List Value},Vals [x] us->∃ u,us=[u]/\RelV x u
 | _,_,.cons r .nil=>⟨_,rfl,r⟩
theorem Vals.eraseIdx:∀ {xs:List V} {us:List Value} (i:Nat),Vals xs us->Vals (xs.eraseIdx i) (us.eraseIdx i)
 | _,_,_,.nil=> .nil
 | _,_,0,.cons _ t=>t
 | _,_,i + 1,.cons r t=> .cons r (Vals.eraseIdx i t)
theorem qo0 {α:Type}:∀ (l:List α) (i:Nat),(l.eraseIdx i).length<=l.length
 | [],_=>Nat.le_refl _
 | _::_,0=>Nat.le_succ _
 | _::r,i + 1=>Nat.succ_le_succ (qo0 r i)
section
variable {X:Cx} {pins:List (Addr × Obj)} {σ:St} {H:Hp} {s:Shared} {l b:Addr} {xs ys zs:List V}
theorem Inv.lset {its its':List Value} {n:Nat} {f:Array Value->Array Value} {t':Nat} (I:Inv X pins σ H s) (hH:H l=some (.lst xs))
  (e:s.heap.get? l=some { cls:= .type "list",data:= .seq its.toArray n }) (hf:f its.toArray=its'.toArray) (hv:Vals ys its') (hz:ys.length<=sizeLine) :
  Inv X pins σ (upd H l (.lst ys)) { s with heap:=s.heap.update l (Obj.mapSeq f),toks:=t' }:=by
 have q:=PySem.IsL.update e f
 rw [hf] at q
 refine I.write (x:=l) (e:=l) (by rw [hH];exact trivial) (.inl rfl) (fun b' u hb hu=>(Heap.get?_update_other s.heap (Obj.mapSeq f) (Ne.symm hb)).trans hu) ⟨_,q⟩ ?_
 exact ⟨hz,its',_,hv,q⟩
theorem Inv.lnew {its:List Value} {t':Nat} (I:Inv X pins σ H s) (hv:Vals ys its) (hz:ys.length<=sizeLine) :
  Inv X pins σ (upd H s.heap.objs.size (.lst ys)) { s with heap:=s.heap.push { cls:= .type "list",data:= .seq its.toArray },toks:=t' } :=
 I.laid (fun _ _ q=>Heap.get?_push_of_some _ q) (Nat.le_refl _) ⟨hz,its,0,hv,Heap.get?_push_size _ rfl⟩
theorem Inv.fresh (I:Inv X pins σ H s):H s.heap.objs.size=none:=I.hok.fresh (Nat.le_refl _)
theorem Inv.lstM (I:Inv X pins σ H s) (hH:H l=some (.lst xs)):xs.length<=sizeLine/\∃ (its:List Value) (n:Nat),Vals xs its/\xs.length=its.length/\s.heap.get? l=some { cls:= .type "list",data:= .seq its.toArray n }:=by
 obtain ⟨z,its,n,r,e⟩:=I.hok l _ hH
 exact ⟨z,its,n,r,r.length,e⟩

end
section
variable {X:Cx}
def qfp:V->List V->Hp->VK->Prop:=fun x vs H Q=>∃ l xs y,x = .ref l/\vs=[y]/\H l=some (.lst xs)/\xs.length < sizeLine/\Q .non (upd H l (.lst (xs++[y])))
theorem qdb:MtM X "list.append" qfp:=by
 intro pins s σ H x vs v us Q I rx rv h
 obtain ⟨l,xs,y,rfl,rfl,hH,hz,q⟩:=h
 cases rx
 obtain ⟨u,rfl,ru⟩:=rv.one
 obtain ⟨z,its,n,r,hl,e⟩:=I.lstM hH
 refine call_meets F.slot_list_append ⟨_,e,rfl⟩ F.entry_list_append (F.args_list_append_2 _ _) (PySem.list_append l its.toArray n u (by rw [List.size_toArray];omega)) ⟨e,?_⟩
 refine ⟨.non,_,I.lset (its':=its++[u]) hH e (by simp) (r.append (.cons ru .nil)) ?_,rfl,q⟩
 rw [List.length_append,List.length_singleton]
 omega

def rPopAt:V->List V->Hp->VK->Prop:=fun x vs H Q=>∃ l xs i k y,x = .ref l/\vs=[.int i]/\H l=some (.lst xs)/\-(2 ^ 63)<=i/\i < 2 ^ 63/\seqIndex? i xs.length=some k/\xs[k]?=some y/\Q y (upd H l (.lst (xs.eraseIdx k)))
theorem mt_popAt:MtM X "list.pop" rPopAt:=by
 intro pins s σ H x vs v us Q I rx rv h
 obtain ⟨l,xs,i,k,y,rfl,rfl,hH,h1,h2,hk,hy,q⟩:=h
 cases rx
 obtain ⟨u,rfl,ru⟩:=rv.one
 obtain ⟨t,rfl⟩:=ru
 obtain ⟨z,its,n,r,hl,e⟩:=I.lstM hH
 obtain ⟨w,hw,rw'⟩:=r.get hy
 refine call_meets F.slot_list_pop ⟨_,e,rfl⟩ F.entry_list_pop (F.args_list_pop_2 _ _)
  (MeetsSeq.list_pop_at l its.toArray n i t k w (fitsIndex_both h1 h2) (by rw [List.size_toArray,<- hl];exact hk) (by rw [<- Array.getElem?_toList];exact hw) (by rw [List.size_toArray];omega)) ⟨e,?_⟩
 refine ⟨y,_,I.lset (its':=its.eraseIdx k) hH e ?_ (r.eraseIdx k) ?_,rw',q⟩
 ·show its.toArray.eraseIdxIfInBounds k=(its.eraseIdx k).toArray
  rw [List.eraseIdxIfInBounds_toArray]
 ·have:=qo0 xs k
  omega

end
section
variable {prog:Program} {w:World} {A:Around} {E:Value->Shared->Prop} {s:Shared}
end
section
variable {X:Cx}
end
end L2
namespace L2
open PySem PySem.Spec PyProof.Rows
section
variable {κ:Type} [DecidableEq κ]
def qmq (kvs:List (κ × V)) (k:κ):Option V:=(kvs.find? fun kv=>decide (kv.1=k)).map (·.2)
def qub (kvs:List (κ × V)) (k:κ) (v:V):List (κ × V) :=
 if (kvs.any fun kv=>decide (kv.1=k))=true then kvs.map (fun kv=>if kv.1=k then (kv.1,v) else kv) else kvs++[(k,v)]
theorem qmn {p:κ × V} {r:List (κ × V)} {k:κ} (e:p.1=k):qmq (p::r) k=some p.2:=by simp [qmq,List.find?_cons,e]
theorem qmo {p:κ × V} {r:List (κ × V)} {k:κ} (e:¬ p.1=k):qmq (p::r) k=qmq r k:=by simp [qmq,List.find?_cons,e]
theorem qmp (k:κ):∀ kvs:List (κ × V),(kvs.any fun kv=>decide (kv.1=k))=(qmq kvs k).isSome
 | []=>rfl
 | p::r=>by
  rw [List.any_cons]
  by_cases e:p.1=k
  ·simp only [qmn e,decide_eq_true e,Bool.true_or,Option.isSome_some]
  ·rw [qmo e,decide_eq_false e,Bool.false_or];exact qmp k r
theorem qkc (kvs:List (κ × V)) (k:κ) (v:V):(qub kvs k v).length<=kvs.length + 1:=by
 unfold qub
 split
 ·rw [List.length_map];omega
 ·rw [List.length_append,List.length_cons,List.length_nil];omega
theorem RelO.isSome_eq {o:Option V} {u:Option Value} (r:RelO o u):o.isSome=u.isSome:=by
 cases o with
 | none=>cases u with
  | none=>rfl
  | some _=>exact (show False from r).elim
 | some _=>cases u with
  | none=>exact (show False from r).elim
  | some _=>rfl
theorem KV.val {kvs:List (κ × V)} {vs:List (κ × Value)} (r:KV kvs vs) (k:κ):RelO (qmq kvs k) (valueAt vs k):=by
 unfold KV at r
 induction r with
 | nil=>exact True.intro
 | @cons p q ps qs h t ih =>
  obtain ⟨h1,h2⟩:=h
  by_cases e:p.1=k
  ·have e':q.1=k:=h1.symm.trans e
   have b:valueAt (q::qs) k=some q.2:=by simp [valueAt,List.find?_cons,e']
   rw [qmn e,b];exact h2
  ·have e':¬ q.1=k:=fun z=>e (h1.trans z)
   have b:valueAt (q::qs) k=valueAt qs k:=by simp [valueAt,List.find?_cons,e']
   rw [qmo e,b];exact ih
theorem KV.any {kvs:List (κ × V)} {vs:List (κ × Value)} (r:KV kvs vs) (k:κ):(kvs.any fun kv=>decide (kv.1=k))=vs.any fun kv=>decide (kv.1=k):=by
 unfold KV at r
 induction r with
 | nil=>rfl
 | cons h t ih=>rw [List.any_cons,List.any_cons,ih,h.1]
theorem KV.repl {kvs:List (κ × V)} {vs:List (κ × Value)} (r:KV kvs vs) (k:κ) {y:V} {u:Value} (ry:RelV y u) :
  KV (kvs.map fun kv=>if kv.1=k then (kv.1,y) else kv) (vs.map fun kv=>if kv.1=k then (kv.1,u) else kv):=by
 unfold KV at r ⊢
 induction r with
 | nil=>exact .nil
 | @cons p q ps qs h t ih =>
  rw [List.map_cons,List.map_cons]
  refine .cons ?_ ih
  obtain ⟨h1,h2⟩:=h
  by_cases e:p.1=k
  ·rw [if_pos e,if_pos (h1.symm.trans e)];exact ⟨h1,ry⟩
  ·rw [if_neg e,if_neg (fun z=>e (h1.trans z))];exact ⟨h1,h2⟩
theorem KV.put {kvs:List (κ × V)} {vs:List (κ × Value)} (r:KV kvs vs) (k:κ) {y:V} {u:Value} (ry:RelV y u):KV (qub kvs k y) (stored vs k u):=by
 unfold qub stored
 rw [r.any k]
 by_cases e:(vs.any fun kv=>decide (kv.1=k))=true
 ·rw [if_pos e,if_pos e];exact r.repl k ry
 ·rw [if_neg e,if_neg e];exact Paired.snoc r ⟨rfl,ry⟩
theorem KV.length {kvs:List (κ × V)} {vs:List (κ × Value)} (r:KV kvs vs):kvs.length=vs.length:=Paired.length r
end
theorem qtl {P:Program} {w:World} {k:Key} {u:Value} (r:RelV (kV k) u):(qbq P w).is k u=true:=by
 cases k with
 | inl i=>obtain ⟨t,e⟩:=(show ∃ t,u=Value.int i t from r);subst e;exact qqk P w i t
 | inr x=>obtain ⟨t,e⟩:=(show ∃ t,u=Value.str x t from r);subst e;exact qg1 P w x t
theorem qo5 {P:Program} {w:World}:∀ {ks:List Key} {us:List Value},Vals (ks.map kV) us->ItemsAre (qbq P w) ks us
 | [],_,r=>by rw [List.map_nil] at r;cases r;exact .nil
 | k::ks,_,r=>by
  rw [List.map_cons] at r
  cases r with
  | cons h t=>exact .cons (qtl h) (qo5 t)

abbrev KT (H:Hp):List (List Key × V)->List (List Key × Addr × Value)->Prop:=Paired fun p q=>p.1=q.1/\H q.2.1=some (.tup (p.1.map kV))/\RelV p.2 q.2.2
theorem KT.val {H:Hp} {kvs:List (List Key × V)} {xs:List (List Key × Addr × Value)} (r:KT H kvs xs) (k:List Key):RelO (qmq kvs k) ((atKey xs k).map (·.2)):=by
 induction r with
 | nil=>exact True.intro
 | @cons p q ps qs h t ih =>
  obtain ⟨h1,_,h2⟩:=h
  by_cases e:p.1=k
  ·have e':q.1=k:=h1.symm.trans e
   have b:atKey (q::qs) k=some q.2:=by simp [atKey,List.find?_cons,e']
   rw [qmn e,b];exact h2
  ·have e':¬ q.1=k:=fun z=>e (h1.trans z)
   have b:atKey (q::qs) k=atKey qs k:=by simp [atKey,List.find?_cons,e']
   rw [qmo e,b];exact ih
theorem KT.repl {H:Hp} {kvs:List (List Key × V)} {xs:List (List Key × Addr × Value)} (r:KT H kvs xs) (k:List Key) {y:V} {u:Value} (ry:RelV y u) :
  KT H (kvs.map fun kv=>if kv.1=k then (kv.1,y) else kv) (xs.map (putAt k u)):=by
 induction r with
 | nil=>exact .nil
 | @cons p q ps qs h t ih =>
  rw [List.map_cons,List.map_cons]
  refine .cons ?_ ih
  obtain ⟨h1,h2,h3⟩:=h
  unfold putAt
  by_cases e:p.1=k
  ·rw [if_pos e,if_pos (h1.symm.trans e)];exact ⟨h1,h2,ry⟩
  ·rw [if_neg e,if_neg (fun z=>e (h1.trans z))];exact ⟨h1,h2,h3⟩
theorem KT.put {H:Hp} {kvs:List (List Key × V)} {xs:List (List Key × Addr × Value)} (r:KT H kvs xs) (k:List Key) {b:Addr} {y:V} {u:Value} (hb:H b=some (.tup (k.map kV))) (ry:RelV y u) :
  KT H (qub kvs k y) (storedH xs k b u):=by
 have e:(kvs.any fun kv=>decide (kv.1=k))=(atKey xs k).isSome:=by
  rw [qmp,(r.val k).isSome_eq,Option.isSome_map]
 unfold qub storedH
 rw [e]
 by_cases q:(atKey xs k).isSome=true
 ·rw [if_pos q,if_pos q];exact r.repl k ry
 ·rw [if_neg q,if_neg q];exact Paired.snoc r ⟨rfl,hb,ry⟩
theorem KT.keeps {H H':Hp} {kvs:List (List Key × V)} {xs:List (List Key × Addr × Value)} (r:KT H kvs xs) (ht:∀ b ys,H b=some (.tup ys)->H' b=some (.tup ys)):KT H' kvs xs :=
 Paired.mapP r fun _ _ z=>⟨z.1,ht _ _ z.2.1,z.2.2⟩

section
variable {P:Program} {w:World} {H:Hp} {h:Heap} {a:Addr}
theorem rd_of {u:HO} (ok:HOk P w H h) (e:Rd H a u):ObjOk P w H h a u:=e.ok ok
theorem qqz {kvs:List (Key × V)} (ok:HOk P w H h) (e:Rd H a (.dK kvs)):kvs.length<=sizeLine/\(a == sysModules)=false/\∃ vs,KV kvs vs/\h.DictOf (qbq P w) a vs :=
 show ObjOk P w H h a (.dK kvs) from rd_of ok e
theorem dk_of {kvs:List (Key × V)} (ok:HOk P w H h) (e:H a=some (.dK kvs)):kvs.length<=sizeLine/\(a == sysModules)=false/\∃ vs,KV kvs vs/\h.DictOf (qbq P w) a vs:=qqz ok (.inl e)
theorem qo3 {ks:List Key} (ok:HOk P w H h) (e:H a=some (.tup (ks.map kV))):(tupleKind (qbq P w)).is h ks a:=by
 obtain ⟨_,its,r,o,h1,h2,n,h3⟩:=(show ObjOk P w H h a (.tup (ks.map kV)) from ok a _ e)
 exact ⟨o,its.toArray,n,h1,h2,h3,by simpa using qo5 r⟩
theorem qw4 {kvs:List (List Key × V)} (ok:HOk P w H h) (e:Rd H a (.dT kvs)):kvs.length<=sizeLine/\(a == sysModules)=false /\
  ∃ xs,KT H kvs xs/\h.DictOfH (tupleKind (qbq P w)) a xs:=by
 obtain ⟨z,y,xs,r,o,es,ep,h1,h2,h3,h4,h5⟩:=(show ObjOk P w H h a (.dT kvs) from rd_of ok e)
 refine ⟨z,y,xs,r,o,es,ep,h1,h2,h3,h4,fun x hx=>?_,h5⟩
 have all:∀ {l:List (List Key × V)} {m:List (List Key × Addr × Value)},KT H l m->∀ x ∈ m,(tupleKind (qbq P w)).is h x.1 x.2.1:=by
  intro l m q
  induction q with
  | nil=>intro x hx;exact nomatch hx
  | @cons p q ps qs hq t ih =>
   intro x hx
   rcases List.mem_cons.mp hx with e | hx
   ·subst e
    exact qo3 ok (by rw [<- hq.1];exact hq.2.1)
   ·exact ih x hx
 exact all r x hx
theorem dt_of {kvs:List (List Key × V)} (ok:HOk P w H h) (e:H a=some (.dT kvs)):kvs.length<=sizeLine/\(a == sysModules)=false /\
  ∃ xs,KT H kvs xs/\h.DictOfH (tupleKind (qbq P w)) a xs:=qw4 ok (.inl e)
end
def DGet (H:Hp) (a:Addr) (y:V) (r:Option V):Prop :=
 (∃ kvs k,Rd H a (.dK kvs)/\y=kV k/\r=qmq kvs k) ∨ ∃ kvs k b,Rd H a (.dT kvs)/\y = .ref b/\H b=some (.tup (k.map kV))/\r=qmq kvs k
def DPut (H:Hp) (a:Addr) (y v:V) (H':Hp):Prop :=
 (∃ kvs k,H a=some (.dK kvs)/\y=kV k/\kvs.length < sizeLine/\H'=upd H a (.dK (qub kvs k v))) ∨
 ∃ kvs k b,H a=some (.dT kvs)/\y = .ref b/\H b=some (.tup (k.map kV))/\kvs.length < sizeLine/\H'=upd H a (.dT (qub kvs k v))
theorem DGet.k {H:Hp} {a:Addr} {kvs:List (Key × V)} {k:Key} (e:H a=some (.dK kvs)):DGet H a (kV k) (qmq kvs k):= .inl ⟨kvs,k,.inl e,rfl,rfl⟩
theorem DPut.k {H:Hp} {a:Addr} {kvs:List (Key × V)} {k:Key} {v:V} (e:H a=some (.dK kvs)) (hl:kvs.length < sizeLine):DPut H a (kV k) v (upd H a (.dK (qub kvs k v))):= .inl ⟨kvs,k,e,rfl,hl,rfl⟩
section
variable {X:Cx} {pins:List (Addr × Obj)} {σ:St} {H:Hp} {s:Shared} {a:Addr} {y v:V} {u r:Value} {o:Option V} {A:Around} {E:Value->Shared->Prop}
theorem Inv.big (I:Inv X pins σ H s):sysModules < s.heap.objs.size:=by
 have h:mainGlobals < s.heap.objs.size:=(I.mod.glob.keeps I.bk).lt
 exact Nat.lt_trans (by decide) h

theorem qw8 {Q:Value->Shared->Prop} (hu:A.units + 1 < cLine) (I:Inv X pins σ H s) (g:DGet H a y (some v)) (ry:RelV y u) (h:∀ w' s',Inv X pins σ H s'->RelV v w'->Q w' s') :
  wpAny (model X.prog X.w) A (getItem (.ref a) u) Q E s:=by
 rcases g with ⟨kvs,k,e,ey,l⟩ | ⟨kvs,k,b,e,ey,eb,l⟩
 ·subst ey
  obtain ⟨z,hd,vs,rel,dd⟩:=qqz I.hok e
  obtain ⟨w',hw,rw'⟩:=RelO.some_of (v:=v) (o:=valueAt vs k) (by rw [l];exact rel.val k)
  exact wpAny_getItem_of (qtl ry) dd.mapOf hw (h w' _ (I.tok _) rw')
 ·subst ey
  cases (show u=Value.ref b from ry)
  obtain ⟨z,hd,xs,rel,dd⟩:=qw4 I.hok e
  obtain ⟨w',hw,rw'⟩:=RelO.some_of (v:=v) (o:=(atKey xs k).map (·.2)) (by rw [l];exact rel.val k)
  obtain ⟨p,hp,hp2⟩:=Option.map_eq_some_iff.mp hw
  refine wpAny_getItem_heap (tupleKind_room_in1 hu) (qo3 I.hok eb) dd hp ?_
  rw [hp2]
  exact h w' _ (I.tok _) rw'
theorem d_in {Q:Value->Shared->Prop} (hu:A.units + 1 < cLine) (I:Inv X pins σ H s) (g:DGet H a y o) (ry:RelV y u) (h:∀ s',Inv X pins σ H s'->Q (.bool o.isSome) s') :
  wpAny (model X.prog X.w) A (compareOp .In u (.ref a)) Q E s:=by
 rcases g with ⟨kvs,k,e,ey,l⟩ | ⟨kvs,k,b,e,ey,eb,l⟩
 ·subst ey
  obtain ⟨z,hd,vs,rel,dd⟩:=qqz I.hok e
  refine wpAny_in_of (qtl ry) hd dd.mapOf ?_
  rw [<- (rel.val k).isSome_eq,<- l]
  exact h _ (I.tok _)
 ·subst ey
  cases (show u=Value.ref b from ry)
  obtain ⟨z,hd,xs,rel,dd⟩:=qw4 I.hok e
  refine wpAny_in_heap (tupleKind_room_in1 hu) (qo3 I.hok eb) hd dd ?_
  have q:=(rel.val k).isSome_eq
  rw [Option.isSome_map] at q
  rw [<- q,<- l]
  exact h _ (I.tok _)
theorem d_notIn {Q:Value->Shared->Prop} (hu:A.units + 1 < cLine) (I:Inv X pins σ H s) (g:DGet H a y o) (ry:RelV y u) (h:∀ s',Inv X pins σ H s'->Q (.bool (!o.isSome)) s') :
  wpAny (model X.prog X.w) A (compareOp .NotIn u (.ref a)) Q E s:=by
 rcases g with ⟨kvs,k,e,ey,l⟩ | ⟨kvs,k,b,e,ey,eb,l⟩
 ·subst ey
  obtain ⟨z,hd,vs,rel,dd⟩:=qqz I.hok e
  refine wpAny_notIn_of (qtl ry) hd dd.mapOf ?_
  rw [<- (rel.val k).isSome_eq,<- l]
  exact h _ (I.tok _)
 ·subst ey
  cases (show u=Value.ref b from ry)
  obtain ⟨z,hd,xs,rel,dd⟩:=qw4 I.hok e
  refine wpAny_notIn_heap (tupleKind_room_in1 hu) (qo3 I.hok eb) hd dd ?_
  have q:=(rel.val k).isSome_eq
  rw [Option.isSome_map] at q
  rw [<- q,<- l]
  exact h _ (I.tok _)
theorem qw6 {h':Heap} {t':Nat} {ob:HO} (I:Inv X pins σ H s) (mu:Mut (H a)) (hs:Heap.SameBut a s.heap h') (he:∃ q,h'.get? a=some q) (new:ObjOk X.prog X.w (upd H a ob) h' a ob) :
  Inv X pins σ (upd H a ob) { s with heap:=h',toks:=t' } :=
 I.write (x:=a) (e:=a) mu (.inl rfl) (fun b q hb z=>(hs.2 b hb).trans z) he new
theorem dk_new {P:Program} {w:World} {H':Hp} {h':Heap} {kvs:List (Key × V)} {vs:List (Key × Value)} (z:kvs.length<=sizeLine) (hd:(a == sysModules)=false) (rel:KV kvs vs) (dd:h'.DictOf (qbq P w) a vs) :
  ObjOk P w H' h' a (.dK kvs):=⟨z,hd,vs,rel,dd⟩
theorem qw7 {H':Hp} {Q:Unit->Shared->Prop} (hu:A.units + 1 < cLine) (I:Inv X pins σ H s) (g:DPut H a y v H') (ry:RelV y u) (rv:RelV v r) (h:∀ s',Inv X pins σ H' s'->Q () s') :
  wpAny (model X.prog X.w) A (setItem (.ref a) u r) Q E s:=by
 rcases g with ⟨kvs,k,e,ey,l,eH⟩ | ⟨kvs,k,b,e,ey,eb,l,eH⟩
 ·subst ey eH
  obtain ⟨z,hd,vs,rel,dd⟩:=dk_of I.hok e
  have hz:vs.length<=sizeLine:=by rw [<- rel.length];exact z
  have hl:(qub kvs k v).length<=sizeLine:=by have:=qkc kvs k v;omega
  refine wpAny_setItem_pairs (hsz:=hz) (qtl ry) dd fun h' dd' hs=>h _ ?_
  have he:∃ q,h'.get? a=some q:=let ⟨q,_,_,hq,_⟩:=dd';⟨q,hq⟩
  exact qw6 I (by rw [e];exact True.intro) hs he (dk_new hl hd (rel.put k rv) dd')
 ·subst ey eH
  cases (show u=Value.ref b from ry)
  obtain ⟨z,hd,xs,rel,dd⟩:=dt_of I.hok e
  have hz:xs.length<=sizeLine:=by rw [<- Paired.length rel];exact z
  have hl:(qub kvs k v).length<=sizeLine:=by have:=qkc kvs k v;omega
  refine wpAny_setItem_heap (hsz:=hz) (tupleKind_room_in1 hu) (qo3 I.hok eb) dd fun h' dd' hs=>h _ ?_
  obtain ⟨q,es,ep,hq,h2,h3,h4,_,h5⟩:=dd'
  refine qw6 I (by rw [e];exact True.intro) hs ⟨q,hq⟩ ⟨hl,hd,_,(rel.put k eb rv).keeps fun c ys ec=>?_,q,es,ep,hq,h2,h3,h4,h5⟩
  rw [qam (ne_of ec e (fun z=>nomatch z))]
  exact ec
end
section
variable {X:Cx} {pins:List (Addr × Obj)} {σ:St} {H:Hp} {s:Shared} {a:Addr} {kvs:List (Key × V)} {k:Key} {u:Value} {A:Around} {E:Value->Shared->Prop}
theorem d_len {Q:Value->Shared->Prop} (I:Inv X pins σ H s) (e:Rd H a (.dK kvs)) (h:∀ t s',Inv X pins σ H s'->Q (.int kvs.length t) s'):wpAny (model X.prog X.w) A (call (.builtin "len") [.ref a]) Q E s:=by
 obtain ⟨z,hd,vs,rel,dd⟩:=qqz I.hok e
 refine call_len_dict hd dd (by rw [<- rel.length];rw [sizeLine_eq] at z;omega) ?_
 rw [<- rel.length]
 exact h _ _ (I.tok _)
end
def NoSl (i:Expr):Prop:=∀ ov iv,subscripted i false ov iv=operate [ov,iv] (getItem ov iv)
theorem subD_of {prog:Program} {w:World} {A:Around} {E:Value->Shared->Prop} {s:Shared} {env:Env} {value slice:Expr} {pos:Pos} {T id:String} {Q:Value->Shared->Prop}
  (hl:typeLookup (.type T) "__getitem__"=pure (some (.builtin id))) (hs:NoSl slice)
  (h:wpAny (model prog w) A (eval value env) (fun o s₁=>wpAny (model prog w) A (eval slice env) (fun i s₂=>s₂.TypeIs o T/\wpAny (model prog w) A (getItem o i) Q E s₂) E s₁) E s) :
  wpAny (model prog w) A (eval (.Subscript value slice pos) env) Q E s:=by
 refine Subscript_ (wpAny_mono h (fun o s₁ h₁=>wpAny_mono h₁ (fun i s₂ h₂=>?_) fun _ _ x=>x) fun _ _ x=>x)
 obtain ⟨hT,h₂⟩:=h₂
 unfold subscriptTail
 refine wpAny_bind ?_
 rw [getitemInPython_of_ne hT.not_modules]
 refine wpAny_bind (wpAny_specialOf hT hl ?_)
 have fin:wpAny (model prog w) A (subscripted slice false o i) (fun r s₃=>wpAny (model prog w) A (letTemporaryGo value o r >>= fun _=>pure r) Q E s₃) E s₂:=by
  rw [hs o i]
  exact wpAny_operating (wpAny_mono h₂ (fun r s₃ h₃=>wpAny_bind (wpAny_letTemporaryGo (wpAny_pure h₃))) fun _ _ x=>x)
 first
  | exact wpAny_pure (wpAny_bind fin)
  | exact wpAny_bind (wpAny_pure (wpAny_bind fin))
  | exact wpAny_bind fin

theorem qq0 {X:Cx} {pins:List (Addr × Obj)} {σ:St} {H:Hp} {s:Shared} {a:Addr} {y:V} {o:Option V} (I:Inv X pins σ H s) (g:DGet H a y o):s.TypeIs (.ref a) "dict":=by
 rcases g with ⟨kvs,k,e,_,_⟩ | ⟨kvs,k,b,e,_,_,_⟩
 ·obtain ⟨_,_,vs,_,dd⟩:=qqz I.hok e
  exact dd.typeIs
 ·obtain ⟨_,_,xs,_,dd⟩:=qw4 I.hok e
  exact dd.typeIs
def tDGet (td ty:TE):TE:=fun σ H Q=>td σ H fun x H1=>ty σ H1 fun y H2=>∃ a v,x = .ref a/\DGet H2 a y (some v)/\Q v H2
def tDIn (ty td:TE):TE:=fun σ H Q=>ty σ H fun y H1=>td σ H1 fun x H2=>∃ a o,x = .ref a/\DGet H2 a y o/\Q (.bl o.isSome) H2
def quw (ty td:TE):TE:=fun σ H Q=>ty σ H fun y H1=>td σ H1 fun x H2=>∃ a o,x = .ref a/\DGet H2 a y o/\Q (.bl (!o.isSome)) H2
def sDPut (td ty tv:TE):TS:=fun D σ H=>tv σ H fun v H1=>td σ H1 fun x H2=>ty σ H2 fun y H3=>∃ a H4,x = .ref a/\DPut H3 a y v H4/\D.nx σ H4
section
variable {X:Cx} {o i e value:Expr} {pos pos' tpos:Pos} {td ty tv:TE}
theorem qqf (hu:X.A.units + 1 < cLine) (ho:PE X o td) (hi:PE X i ty) (hs:NoSl i):PE X (.Subscript o i pos) (tDGet td ty):=by
 intro pins s σ H Q I h
 refine subD_of PySem.F.slot_dict_getitem.lookup hs (thn (ho pins s σ H _ I h) fun u s1 ⟨x,H1,I1,rx,q1⟩=>thn (hi pins s1 σ H1 _ I1 q1) fun iv s2 ⟨y,H2,I2,ry,a,v,ex,g,q2⟩=>?_)
 subst ex
 obtain rfl:u=Value.ref a:=rx
 exact ⟨qq0 I2 g,qw8 hu I2 g ry fun w' s3 I3 rw'=>⟨v,H2,I3,rw',q2⟩⟩
theorem pc_din (hu:X.A.units + 1 < cLine) (hi:PE X i ty) (ho:PE X o td):PC X .In i o (tDIn ty td):=by
 intro pins s σ H Q I h
 refine thn (hi pins s σ H _ I h) fun iv s1 ⟨y,H1,I1,ry,q1⟩=>thn (ho pins s1 σ H1 _ I1 q1) fun u s2 ⟨x,H2,I2,rx,a,ov,ex,g,q2⟩=>?_
 subst ex
 obtain rfl:u=Value.ref a:=rx
 exact d_in hu I2 g ry fun s3 I3=>⟨.bl ov.isSome,H2,I3,rfl,q2⟩
theorem qvu (hu:X.A.units + 1 < cLine) (hi:PE X i ty) (ho:PE X o td):PC X .NotIn i o (quw ty td):=by
 intro pins s σ H Q I h
 refine thn (hi pins s σ H _ I h) fun iv s1 ⟨y,H1,I1,ry,q1⟩=>thn (ho pins s1 σ H1 _ I1 q1) fun u s2 ⟨x,H2,I2,rx,a,ov,ex,g,q2⟩=>?_
 subst ex
 obtain rfl:u=Value.ref a:=rx
 exact d_notIn hu I2 g ry fun s3 I3=>⟨.bl (!ov.isSome),H2,I3,rfl,q2⟩
theorem qvm (hu:X.A.units + 1 < cLine) (ho:PE X o td) (hi:PE X i ty) (hv:PE X value tv) (hs:swapsWith value (some (.Subscript o i pos')) pos.line X.env=pure false) :
  PS X (.Assign [.Subscript o i pos'] value pos) (sDPut td ty tv):=by
 intro pins s σ H D I h
 refine wpAny_Assign_Subscript (thn (hv pins s σ H _ I h) fun r s1 ⟨v,H1,I1,rv,q1⟩=>thn (ho pins s1 σ H1 _ I1 q1) fun u s2 ⟨x,H2,I2,rx,q2⟩=>thn (hi pins s2 σ H2 _ I2 q2) fun iv s3 ⟨y,H3,I3,ry,a,H4,ex,g,q3⟩=>?_) hs
 subst ex
 obtain rfl:u=Value.ref a:=rx
 exact qw7 hu I3 g ry rv fun s4 I4=>⟨σ,H4,I4,q3⟩
end
theorem dk_empty {P:Program} {w:World} {H:Hp} (h:Heap) (hb:sysModules < h.objs.size):ObjOk P w H (h.push { cls:= .type "dict",data:= .dict #[] }) h.objs.size (.dK []) :=
 ⟨Nat.zero_le _,beq_eq_false_iff_ne.mpr (Ne.symm (Nat.ne_of_lt hb)),[],.nil,Heap.DictOf.new h⟩
def tDNewK:TE:=fun _ H Q=>∀ p,H p=none->Q (.ref p) (upd H p (.dK []))
section
variable {X:Cx} {pos:Pos}
theorem qrv:PE X (.Dict [] [] pos) tDNewK:=fun pins s σ H Q I h =>
 wpAny_Dict_empty ⟨.ref s.heap.objs.size,_,I.laid (a:=s.heap.objs.size) (o:= .dK []) (t':=s.toks) (fun _ _ q=>Heap.get?_push_of_some _ q) (Nat.le_refl _) (dk_empty s.heap I.big),rfl,h _ (I.hok.fresh (Nat.le_refl _))⟩
end
section
variable {X:Cx} {pins:List (Addr × Obj)} {σ:St} {H:Hp} {s:Shared} {a:Addr} {y d:V} {u r:Value} {o:Option V} {A:Around} {E:Value->Shared->Prop}
end
section
variable {X:Cx} {o e f:Expr} {apos cpos:Pos} {td ty tx:TE}
end
section
variable {X:Cx} {pins:List (Addr × Obj)} {σ:St} {H:Hp} {s:Shared} {a:Addr} {kvs:List (Key × V)} {A:Around} {E:Value->Shared->Prop}
end
section
variable {X:Cx} {pins:List (Addr × Obj)} {σ:St} {H:Hp} {s:Shared} {a:Addr} {y:V} {u:Value} {A:Around} {E:Value->Shared->Prop}
end
end L2
namespace Att
open PySem PySem.W PySem.Calls PyProof.Rows
theorem qkh {P:Params} {h:Heap}:∀ (ns:List Int) (vs:List Value),WellAll P h vs (ns.map WData.int)->IntsAre vs ns:=by
 intro ns
 induction ns with
 | nil =>
  intro vs w
  rw [List.map_nil] at w
  cases w
  exact .nil
 | cons n ns ih =>
  intro vs w
  rw [List.map_cons] at w
  cases w with
  | cons a b =>
   cases a
   exact .cons _ _ (ih _ b)

theorem qu5 {l:OpenLaw} {n:Nat} (hn:l.most=some n) {P:Params} {h:Heap} {args:List WData} {vals:List Value}
  (hpre:l.row.toRowW.claim.pre args=true) (hwl:WellAll P h vals args) :
  ∃ a vs ns,vals=[Value.ref a]/\args=[WData.list (ns.map WData.int)]/\h.get? a=some { cls:= .type "list",data:= .seq vs.toArray }/\IntsAre vs ns/\ns.length<=n:=by
 have hsh:WShape.hasAll [] args [.list .int]=true:=(pre_splitW hpre).1
 have hc:l.pre.holds [] { args:=args }=true:=(pre_splitW hpre).2
 obtain ⟨d,r,rfl,h1,h2⟩:=hasAllW_cons hsh
 obtain rfl:=hasAllW_nil h2
 obtain ⟨xs,rfl,h3⟩:=hasW_list h1
 obtain ⟨ns,rfl⟩:=items_int h3
 have hlen:ns.length<=n:=by
  unfold OpenLaw.pre at hc
  have h4:(WTm.not (.lt (.lit (.int (n:Int))) (.len (.arg 0)))).holds [] { args:=[.list (ns.map .int)] }=true:=by
   have h4:=(holds_andW hc).1
   rw [hn] at h4
   exact h4
  have h5:=condW_of h4 (w_not (w_lt w_lit (w_len_list (w_arg rfl))))
  rw [List.length_map] at h5
  refine Nat.le_of_not_lt fun q=>?_
  have q':(n:Int) < ((ns.length:Nat):Int):=by omega
  first
   | (rw [decide_eq_true q'] at h5;exact absurd h5 (by decide))
   | (simp at h5;omega)
 cases hwl with
 | cons w1 w2 =>
  cases w2
  cases w1 with
  | list ho hall=>exact ⟨_,_,ns,rfl,rfl,ho,qkh ns _ hall,hlen⟩

theorem qvo (l:OpenLaw) (args:List WData):l.row.toRowW.claim.post args (.bool true) args=true :=
 postW_of (r:=l.row.toRowW) (X:=(true == true))
  (show WShape.has [] (.bool true) .bool=true by first | rfl | decide | simp [WShape.has,WShape.arms,WShape.armsAll])
  (show (WTm.eq .res (.lit (.bool true))).value [] { args:=args,res:=some (.bool true),after:=args }=some (.bool (true == true)) from w_eq_bool (w_res rfl) w_lit) rfl

theorem attach_call {l:OpenLaw} {n:Nat} {q:Program} {loose:List Str} {XP:(Str->Option Value)->Heap->Prop} {YP:World->Heap->Prop} {d:DefRec}
  (hn:l.most=some n) (hdf:d.params.defaults=[])
  (call:∀ (w:World) (s₀ s₁:Shared) (mg mb:Str->Option Value) (fa:Addr) (o:Obj) (pm cd doc:Value) (a:Addr) (vs:List Value) (ns:List Int),
   Ground q loose [] XP w s₀ mg mb s₁.heap->YP w s₁.heap ->
   s₁.heap.get? fa=some o->o.data = .func (docDef d.name d.params d.body d.scope pm cd doc)->s₁.heap.CodeRec cd d.name->mg d.name=some (.ref fa) ->
   s₁.heap.get? a=some { cls:= .type "list",data:= .seq vs.toArray }->IntsAre vs ns->ns.length<=n->s₁.gens=#[] ->
   codeAny (model l.prog w) callerA (.call (.ref fa) ⟨[.ref a],[]⟩) (fun r s'=>r = .ok (.ret (.bool true))/\OldK s₁.heap s'.heap/\s'.os=s₁.os/\AllBare s'.gens) s₁) :
  WalkO q loose XP YP l.row.toRowW d [] (fun f vs=>PySem.call f vs):=by
 intro w s₀ s₁ mg mb G Y fa o pm cd doc dV kV ho hd hcd hD hmg hg args vals as hpre hlay hrd hwl hlo
 obtain rfl:dV = .none:=Dflts.none hD hdf
 obtain rfl:kV = .none:=Dflts.noKw hD
 obtain ⟨a,vs,ns,rfl,rfl,hobj,hints,hlen⟩:=qu5 hn hpre hwl
 refine enter_call (codeAny_mono (call w s₀ s₁ mg mb fa o pm cd doc a vs ns G Y ho (fd_plain hd) hcd hmg hobj hints hlen hg) fun r s' hq=>?_)
 obtain ⟨rfl,h2,h3,h4⟩:=hq
 exact ⟨.inl ⟨.bool true,.bool true,[],rfl,fun _=>rfl,.bool true,qvo l _,fun _=>⟨List.Pairwise.nil,fun _ hm=>(nomatch hm)⟩⟩,h2,h3,h4⟩

section
variable {prog:Program} {w:World} {A:Around} {E:Value->Shared->Prop} {s:Shared} {K:Frag}
end
end Att
namespace L2
open PySem PySem.Spec PyProof.Rows
theorem qoa:∀ {vs:List Value} {ns:List Int},IntsAre vs ns->Vals (ns.map V.int) vs
 | _,_,.nil=> .nil
 | _,_,.cons n t h=> .cons ⟨t,rfl⟩ (qoa h)

def Only (H:Hp):Prop:=∀ b,H b=none ∨ ∃ o xs,H b=some (.frz o (.lst xs))

theorem law_call {P:Program} {w:World} {K:PySem.W.Frag} {mg mb:Str->Option Value} {CX:CXT} {k:Nat} {fa a:Addr} {fd:FuncData} {x:Str} {sp:Sp} {s₁:Shared} {vs:List Value} {ns:List Int}
  (KX:K.In s₁.heap) (hns:s₁.heap.Ns mainGlobals mg) (hb:s₁.heap.Ns builtinsNs mb) (hbb:∀ x:Str,x ≠ "__name__"->mb x=bootBuiltins x) (hlim:s₁.heap.NoLimit) (hg:s₁.gens=#[])
  (ha:s₁.heap.get? a=some { cls:= .type "list",data:= .seq vs.toArray }) (hi:IntsAre vs ns) (hl:ns.length<=sizeLine) (hr:Room k callerA)
  (F:∀ base:Heap,K.In base->base.Ns mainGlobals mg->FnOk P w K mg base CX k fa fd [x] sp) (hbind:∀ (s:Shared) (u:Value),BindsTo s fd ⟨[u],[]⟩ [(x,u)])
  (hsp:∀ H:Hp,Only H->SqL K H a (ns.map V.int)->sp [.ref a] H (fun v _=>v = .bl true) fun _ _ _=>False)
  (hCX:∀ H e s',CX [] H s₁ (fun _ _ _=>False) e s'->False) :
  codeAny (model P w) callerA (.call (.ref fa) ⟨[.ref a],[]⟩) (fun r s'=>r = .ok (.ret (.bool true))/\OldK s₁.heap s'.heap/\s'.os=s₁.os/\AllBare s'.gens) s₁:=by
 have rv:=qoa hi
 have lenV:=hi.length
 -- from an abstract heap in which nothing but the script may be tracked
 have core:∀ H:Hp,Only H->SqL K H a (ns.map V.int)->HOk P w H s₁.heap->(∀ b,H b ≠ none->b=a)->(H a ≠ none->K.lookup a=none) ->
   codeAny (model P w) callerA (.call (.ref fa) ⟨[.ref a],[]⟩) (fun r s'=>r = .ok (.ret (.bool true))/\OldK s₁.heap s'.heap/\s'.os=s₁.os/\AllBare s'.gens) s₁:=by
  intro H hO hS hok hA hK
  have base_of:∀ {b:Addr} {o:Obj},s₁.heap.get? b=some o->H b=none->(hidT s₁.heap H).get? b=some o:=fun e n=>hidT_get e n
  have noA:∀ {b:Addr} {o:Obj} {es:Array DictEntry} {ep:Nat},s₁.heap.get? b=some o->o.data = .dict es ep->H b=none:=fun {b o es ep} e d=>by
   cases q:H b with
   | none=>rfl
   | some u =>
    have e':b=a:=hA b (by rw [q];simp)
    subst e'
    rw [ha] at e;cases e
    have d':Data.seq vs.toArray _=Data.dict es ep:=d
    cases d'
  have nsK:∀ {b:Addr} {m:Str->Option Value},s₁.heap.Ns b m->(hidT s₁.heap H).Ns b m:=fun {b m} ⟨o,es,ep,e,d,r⟩=>⟨o,es,ep,base_of e (noA e d),d,r⟩
  have hKb:K.In (hidT s₁.heap H):=fun b o e=>base_of (KX b o e) (by
   cases q:H b with
   | none=>rfl
   | some u =>
    have e':b=a:=hA b (by rw [q];simp)
    subst e'
    rw [hK (by rw [q];simp)] at e;cases e)
  have hM:Mod K mg (hidT s₁.heap H):=⟨hKb,nsK hns,⟨mb,nsK hb,hbb⟩,let ⟨mc,h1,h2⟩:=hlim;⟨mc,nsK h1,h2⟩⟩
  have e0:Env0 P w K mg (hidT s₁.heap H) callerA [] s₁ H:=⟨rfl,hM,fun b o e=>of_hidT e,Nat.le_of_eq (qwr _ _),trivial,fun b hb=>absurd (show b ∈ ([]:List Addr) from hb) (by simp),hok,.of_eq hg⟩
  refine codeAny_mono ((F _ hKb (nsK hns)).run callerA [] s₁ H ⟨[.ref a],[]⟩ [.ref a] [.ref a] _ _ hr e0 (hbind s₁ (.ref a)) (.cons rfl .nil) (hsp H hO hS)) fun r s' h=>?_
  cases r with
  | error e=>exact (hCX H e s' h).elim
  | ok fl =>
   cases fl with
   | next=>exact False.elim h
   | brk=>exact False.elim h
   | cont=>exact False.elim h
   | ret u =>
    obtain ⟨v,H',os,bare,un,hok',r',q⟩:=h
    have q':v = .bl true:=q
    subst q'
    obtain rfl:u=Value.bool true:=r'
    refine ⟨rfl,OldK.of_keep fun b o e=>?_,os,bare⟩
    cases q:H b with
    | none=>exact un.keep b o e q (by intro z;exact absurd (show b ∈ ([]:List Addr) from z) (by simp)) (by simp)
    | some u =>
     rcases hO b with z | ⟨ob,xs,z⟩
     ·rw [q] at z;cases z
     ·have z2:=un.frzs b ob _ z
      obtain ⟨e1,_⟩:=hok b _ z
      obtain ⟨e2,_⟩:=hok' b _ z2
      rw [e] at e1;cases e1
      exact e2
 cases hk:K.lookup a with
 | some o =>
  -- the script is one of the module's own objects
  have e:=KX a o hk
  rw [ha] at e
  cases e
  refine core (fun _=>none) (fun _=> .inl rfl) (.inr ⟨_,vs.toArray,_,hk,rfl,rfl,rfl,by rw [List.size_toArray,lenV];exact hl,by simpa using rv⟩) (fun b u z=>by have z':(none:Option HO)=some u:=z;cases z') (fun b z=>absurd rfl z) fun z=>absurd rfl z
 | none =>
  refine core (fun b=>if b=a then some (.frz { cls:= .type "list",data:= .seq vs.toArray } (.lst (ns.map V.int))) else none) (fun b=>?_) (.inl (.inr ⟨{ cls:= .type "list",data:= .seq vs.toArray },if_pos rfl⟩)) (fun b u z=>?_) (fun b z=>?_) fun _=>hk
  ·by_cases hb:b=a
   ·exact .inr ⟨_,_,if_pos hb⟩
   ·exact .inl (if_neg hb)
  ·by_cases hb:b=a
   ·have z':=(if_pos hb).symm.trans z
    cases z'
    subst hb
    exact ⟨ha,by rw [List.length_map];exact hl,vs,_,rv,ha⟩
   ·have z':=(if_neg hb).symm.trans z
    cases z'
  ·by_cases hb:b=a
   ·exact hb
   ·exact absurd (if_neg hb) z
end L2
namespace L2
open PySem PySem.Spec PyProof.Rows
theorem walk_of {l:PySem.W.OpenLaw} {n k:Nat} {q:Program} {loose:List Str} {XP:(Str->Option Value)->Heap->Prop} {YP:World->Heap->Prop} {d:DefRec} {K:Params->PySem.W.Frag} {CX:World->CXT} {sp:World->Sp} {x:Str}
  (hn:l.most=some n) (hn2:n<=sizeLine) (hdf:d.params.defaults=[]) (hr:Room k callerA)
  (hY:∀ (w:World) (h:Heap),YP w h->(K w.params).In h)
  (F:∀ (w:World) (mg:Str->Option Value) (fa:Addr) (h:Heap),(K w.params).In h->h.Ns mainGlobals mg->mg d.name=some (.ref fa) ->
   ∃ fd:FuncData,(∀ (s:Shared) (u:Value),BindsTo s fd ⟨[u],[]⟩ [(x,u)]) /\
    ∀ base:Heap,(K w.params).In base->base.Ns mainGlobals mg->FnOk l.prog w (K w.params) mg base (CX w) k fa fd [x] (sp w))
  (hsp:∀ (w:World) (H:Hp) (a:Addr) (ns:List Int),ns.length<=n->Only H->SqL (K w.params) H a (ns.map V.int)->sp w [.ref a] H (fun v _=>v = .bl true) fun _ _ _=>False)
  (hCX:∀ (w:World) (H:Hp) (s:Shared) (e:Value) (s':Shared),CX w [] H s (fun _ _ _=>False) e s'->False) :
  PySem.W.WalkO q loose XP YP l.row.toRowW d [] (fun f vs=>PySem.call f vs):=by
 refine Att.attach_call hn hdf fun w s₀ s₁ mg mb fa o pm cd doc a vs ns G Y ho hd hcd hmg hobj hints hlen hg=>?_
 have KX:=hY w _ Y
 obtain ⟨fd,hb,hF⟩:=F w mg fa _ KX G.T.g hmg
 exact law_call KX G.T.g G.T.b G.T.builtins G.T.nolimit hg hobj hints (Nat.le_trans hlen hn2) hr hF hb (fun H hO hS=>hsp w H a ns hlen hO hS) fun H e s'=>hCX w H s₁ e s'
end L2
namespace L2
open PySem PySem.Spec PyProof.Rows
def qg3 (s:Stmt) (j:Nat):Stmt:=match s with
 | .ClassDef _ _ _ body _ _ _ _ _ _ _=>body.getD j (.Pass ⟨0,0,0,0⟩)
 | _=> .Pass ⟨0,0,0,0⟩
def qas (s:Stmt):Arguments:=match s with
 | .FunctionDef _ a _ _ _ _ _ _ _ _=>a
 | _=>{ posonlyargs:=[],args:=[],vararg:=none,kwonlyargs:=[],kw_defaults:=[],kwarg:=none,defaults:=[] }
def qal (s:Stmt):List Stmt:=match s with
 | .FunctionDef _ _ b _ _ _ _ _ _ _=>b
 | _=>[]
def qab (s:Stmt):Scope:=match s with
 | .FunctionDef _ _ _ _ _ _ sc _ _ _=>sc
 | _=>{ kind:= .function,names:=[],isGenerator:=false,isCoroutine:=false }

abbrev CX0:CXT:=fun _ _ _ _ _ _=>False
abbrev E0:XK:=fun _ _ _=>False
theorem pass0 {X:Cx}:qk1 CX0 X E0:=fun _ _ _ _ _ _ _ h=>h.elim

structure Fun (K:PySem.W.Frag) (x qual:Str) (st:Stmt) (f:Addr) (fd:FuncData):Prop where
 ex:∃ (oc:Value) (od:Option Addr) (kV doc pm:Value) (an:Option Addr) (cdv ct:Value) (osl:Array (Option Value)),
  fd=PySem.W.fnOf x qual (qas st) (qal st) (qab st) .none kV doc pm an cdv ct/\K.lookup f=some ⟨oc,od,.func fd,osl⟩/\PySem.W.codeIn K cdv qual=true
 kp:PySem.W.keepIn K (.ref f)=true
section
variable {P:Program} {w:World} {K:PySem.W.Frag} {mg:Str->Option Value} {base:Heap}
theorem Fun.ok {x qual:Str} {st:Stmt} {f:Addr} {fd:FuncData} {N ps:List Str} {k:Nat} {sp:Sp} (F:Fun K x qual st f fd) (S:qar N ps (qab st)) (len:∀ vs H Q E,sp vs H Q E->vs.length=ps.length)
  (hbody:∀ (cdv:Value) (A:Around) (outer:List Env) (s:Shared) (H:Hp) (vs:List V) (Q:VK) (E:XK),Room k (A.deeper (envOfC qual (qab st) s.heap.objs.size f cdv))->sp vs H Q E ->
   ∃ t,PSs (qsa CX0 P w K mg base N qual (qab st) f cdv A outer s H E).nox (qal st) t/\t { nx:=fun _ H'=>Q .non H',rt:=Q } (start N vs) H):FnOk P w K mg base CX0 (k + 1) f fd ps sp:=by
 obtain ⟨oc,od,kV,doc,pm,an,cdv,ct,osl,rfl,lk,hcd⟩:=F.ex
 refine fn_of lk hcd S len fun A outer s H vs Q E hr hsp=>?_
 obtain ⟨t,h,q⟩:=hbody cdv A outer s H vs Q E hr hsp
 exact ⟨t,h.nox,q⟩
theorem Fun.binds {x qual:Str} {st:Stmt} {f:Addr} {fd:FuncData} {ps:List Str} (F:Fun K x qual st f fd)
  (h:∀ (kV doc pm:Value) (an:Option Addr) (cdv ct:Value) (us:List Value),us.length=ps.length->bindArgs (PySem.W.fnOf x qual (qas st) (qal st) (qab st) .none kV doc pm an cdv ct) ⟨us,[]⟩=pure (ps.zip us)):Binds K fd ps []:=by
 obtain ⟨oc,od,kV,doc,pm,an,cdv,ct,osl,rfl,lk,hcd⟩:=F.ex
 exact .all (h kV doc pm an cdv ct)
theorem qa9 {x qual:Str} {st:Stmt} {f:Addr} {oc:Value} {od an:Option Addr} {osl:Array (Option Value)} {kV doc pm cdv ct:Value} (l:K.lookup f=some ⟨oc,od,.func (PySem.W.fnOf x qual (qas st) (qal st) (qab st) .none kV doc pm an cdv ct),osl⟩)
  (c:PySem.W.codeIn K cdv qual=true) (k:PySem.W.keepIn K (.ref f)=true):Fun K x qual st f (PySem.W.fnOf x qual (qas st) (qal st) (qab st) .none kV doc pm an cdv ct):=⟨⟨oc,od,kV,doc,pm,an,cdv,ct,osl,rfl,l,c⟩,k⟩
end
theorem qqt {A:Around} {k:Nat} (hr:Room k A):A.units + 1 < cLine:=Nat.lt_of_le_of_lt (Nat.add_le_add_left (by decide:1<=64) _) hr.units
theorem qfl {n:Nat} (h:n<=1000):n < sizeLine:=Nat.lt_of_le_of_lt h (by decide)

section
variable {X:Cx}
theorem pv (i:Nat) {x:Str} {pos:Pos} (hN:X.N[i]?=some x:=by rfl) (hv:Vis X.env.scope x:=by first | exact Or.inl rfl | exact Or.inr (Or.inl rfl) | exact Or.inr (Or.inr rfl)) (hd:(x == ("__debug__":Str))=false:=by decide)
  (hcd:(x == ("__classdict__":Str))=false:=by decide):PE X (.Name x pos) (qiu i):=pe_var hN hv hd hcd
theorem qxp:CallR X (.builtin "len") (fun xs H Q=>∃ a kvs,xs=[V.ref a]/\H a=some (.dK kvs)/\Q (.int kvs.length) H):=by
 intro pins s σ H xs us Q I r h
 obtain ⟨a,kvs,rfl,ha,q⟩:=h
 obtain ⟨u,rfl,ru⟩:=qjl r
 cases ru
 exact d_len I (.inl ha) fun t s' I'=>⟨.int kvs.length,H,I',⟨t,rfl⟩,q⟩
end
theorem qr3 {A B:Prop} (h:B):if false=true then A else B:=by
 rw [if_neg Bool.false_ne_true]
 exact h
theorem qr2 {A B:Prop} (h:A):if true=true then A else B:=by
 rw [if_pos rfl]
 exact h
theorem ite2 {c A B:Prop} [Decidable c] (h1:c->A) (h2:¬ c->B):if c then A else B:=by
 by_cases h:c
 ·rw [if_pos h]
  exact h1 h
 ·rw [if_neg h]
  exact h2 h
def Same (H H':Hp):Prop:=∀ b o,H b=some o->H' b=some o
theorem Same.refl (H:Hp):Same H H:=fun _ _ h=>h
theorem Same.trans {H H1 H2:Hp} (a:Same H H1) (b:Same H1 H2):Same H H2:=fun c o h=>b c o (a c o h)
theorem Same.free {H H':Hp} (e:Same H H') {l:Addr} (h:H' l=Option.none):H l=Option.none:=by
 cases q:H l with
 | none=>rfl
 | some o =>
  rw [e l o q] at h
  cases h
theorem Same.seq {K:PySem.W.Frag} {H H':Hp} {a:Addr} {xs:List V} (e:Same H H') (h:SqL K H a xs):SqL K H' a xs:=by
 rcases h with (h | ⟨o,h⟩) | h
 ·exact .inl (.inl (e _ _ h))
 ·exact .inl (.inr ⟨o,e _ _ h⟩)
 ·exact .inr h

section
variable {κ:Type} [DecidableEq κ]
end
end L2

set_option maxHeartbeats 4000000
set_option synthInstance.maxHeartbeats 4000000
set_option synthInstance.maxSize 4096
namespace L2
open PySem PySem.Spec PyProof.Rows
section
variable {prog:Program} {w:World} {A:Around} {R:Result->Shared->Prop} {s:Shared}
theorem qd6 {elt target iter:Expr} {ifs:List Expr} {scope:Scope} {pos:Pos} {it acc:Value} {env:Env} (I:Nat->Shared->Prop)
  (turn:∀ n s,I n s->wpAny (model prog w) A (pyNext it) (fun r s₁=>match r with
   | none=>R (.ok .next) s₁
   | some v=>wpAny (model prog w) A (letOwnedTupleGo target it v) (fun _ s₀=>wpAny (model prog w) A (assign target env v) (fun _ s₂ =>
     wpAny (model prog w) A (forIn ifs true fun c r=>if r=true then do let ok <- isTrue c env (eval c env);pure (ForInStep.yield ok) else pure (ForInStep.yield r)) (fun ok s₃ =>
      if ok=true then wpAny (model prog w) A (eval elt env) (fun x s₄ =>
       wpAny (model prog w) A (call (.builtin "list.append") [acc,x]) (fun _ s₅=>∃ m,m < n/\I m s₅) (fun _ _=>False) s₄) (fun _ _=>False) s₃
      else ∃ m,m < n/\I m s₃) (fun _ _=>False) s₂) (fun _ _=>False) s₀) (fun _ _=>False) s₁) (fun _ _=>False) s)
  (n:Nat) (h:I n s) :
  codeAny (model prog w) A (.compLoop (.ListComp elt [⟨target,iter,ifs,0⟩] scope pos) 0 it acc env) R s:=by
 refine codeAny_loop rfl I (fun n s hI=>?_) n h
 show wpAny _ A ((compTurn (.ListComp elt [⟨target,iter,ifs,0⟩] scope pos) 0 it acc env).onRaise (fun x=>do noteFrame x env;theTreesLotGoes x)) _ _ s
 refine wpAny_noted (wpAny_noRaise ?_)
 rw [compTurn_list]
 refine wpAny_bind (wpAny_standAt (wpAny_bind (thn (turn n s hI) fun r s₁ h₁=>?_)))
 cases r with
 | none=>exact wpAny_pure h₁
 | some v =>
  refine wpAny_bind (thn h₁ fun _ s₀ h₀=>?_)
  refine wpAny_bind (thn h₀ fun _ s₂ h₂=>wpAny_bind (thn h₂ fun ok s₃ h₃=>?_))
  cases ok with
  | false=>exact wpAny_pure ⟨rfl,h₃⟩
  | true=>exact wpAny_bind (wpAny_bind (thn h₃ fun x s₄ h₄=>wpAny_bind (thn h₄ fun _ s₅ h₅=>wpAny_pure (wpAny_pure ⟨rfl,h₅⟩))))
end
theorem qmb {α β:Type} {f:α->β->Sem (ForInStep β)} (g:α->β->β):∀ (l:List α) (b:β),(∀ a ∈ l,∀ b,f a b=pure (.yield (g a b)))->forIn l b f=(pure (l.foldl (fun b a=>g a b) b):Sem β)
 | [],_,_=>rfl
 | x::l,b,h=>by
  rw [List.forIn_cons,h x List.mem_cons_self,pure_bind]
  exact qmb g l (g x b) fun y hy=>h y (List.mem_cons_of_mem _ hy)

def qhn (env:Env) (y:Str × NameKind) (cs:List (Str × Addr)):List (Str × Addr):=if y.2 == .free then (y.1,(env.cells.lookup y.1).getD 0)::cs else cs
theorem qpd (env:Env):∀ (l:List (Str × NameKind)) (cs:List (Str × Addr)),(∀ y ∈ l,y.2 = .free->∃ c,env.cells.lookup y.1=some c)->(∀ x c,cs.lookup x=some c->env.cells.lookup x=some c) ->
  (∀ x c,(l.foldl (fun b a=>qhn env a b) cs).lookup x=some c->env.cells.lookup x=some c)
 | [],_,_,h=>h
 | (n,k)::l,cs,hl,h=>by
  refine qpd env l _ (fun y hy=>hl y (List.mem_cons_of_mem _ hy)) fun x c e=>?_
  unfold qhn at e
  dsimp only at e
  cases hk:(k == NameKind.free) with
  | false =>
   rw [hk,if_neg Bool.false_ne_true] at e
   exact h x c e
  | true =>
   rw [hk,if_pos rfl] at e
   obtain ⟨c0,e0⟩:=hl (n,k) List.mem_cons_self (by simpa using hk)
   cases hx:x == n with
   | true =>
    rw [List.lookup_cons,hx] at e
    have hx':x=n:=by simpa using hx
    subst hx'
    have e':(List.lookup x env.cells).getD 0=c:=Option.some.inj e
    have e0':List.lookup x env.cells=some c0:=e0
    rw [e0'] at e'
    rw [e0',<- e']
    rfl
   | false =>
    rw [List.lookup_cons,hx] at e
    exact h x c e
theorem qim (env:Env) (x:Str):∀ (l:List (Str × NameKind)) (cs:List (Str × Addr)),(∃ c,cs.lookup x=some c)->∃ c,(l.foldl (fun b a=>qhn env a b) cs).lookup x=some c
 | [],_,h=>h
 | (n,k)::l,cs,h=>by
  refine qim env x l _ ?_
  unfold qhn
  dsimp only
  split
  ·rw [List.lookup_cons]
   cases hx:x == n with
   | true=>exact ⟨_,rfl⟩
   | false=>exact h
  ·exact h
theorem qmf (env:Env):∀ (l:List (Str × NameKind)) (cs:List (Str × Addr)),∀ y ∈ l,y.2 = .free->∃ c,(l.foldl (fun b a=>qhn env a b) cs).lookup y.1=some c
 | [],_,_,h,_=>nomatch h
 | z::l,cs,y,h,hf=>by
  rcases List.mem_cons.mp h with e | h
  ·subst e
   refine qim env y.1 l _ ?_
   unfold qhn
   dsimp only
   rw [hf,if_pos (by rfl),List.lookup_cons,beq_self_eq_true]
   exact ⟨_,rfl⟩
  ·exact qmf env l _ y h hf
theorem qdf {scope:Scope} {env:Env} (h:∀ y ∈ scope.names,y.2 = .free->∃ c,env.cells.lookup y.1=some c) :
  ∃ cl,closureFor scope env=pure cl/\(∀ x c,cl.lookup x=some c->env.cells.lookup x=some c)/\∀ y ∈ scope.names,y.2 = .free->∃ c,cl.lookup y.1=some c:=by
 refine ⟨scope.names.foldl (fun b a=>qhn env a b) [],?_,qpd env _ _ h (fun x c e=>by cases e),qmf env _ _⟩
 simp only [closureFor]
 rw [qmb (qhn env) scope.names [] (fun y hy b=>?_)]
 ·rfl
 ·obtain ⟨n,k⟩:=y
  unfold qhn
  cases hk:(k == NameKind.free) with
  | false=>simp only [hk,Bool.false_eq_true,if_false] <;> rfl
  | true =>
   obtain ⟨c,e⟩:=h (n,k) hy (by simpa using hk)
   have e':List.lookup n env.cells=some c:=e
   simp only [hk,if_true,cellOf,e']
   rfl

theorem qii (env:Env) (n:Str) (k:NameKind) (r:List (Str × NameKind)) (x:Str) :
  ((List.map (fun (n,k)=>if (k == NameKind.free && env.scope.kind == .function && env.kindOf n == some .cell) then (n,NameKind.cell) else (n,k)) ((n,k)::r)).lookup x) =
   (if x == n then some (if (k == NameKind.free && env.scope.kind == .function && env.kindOf n == some .cell) then NameKind.cell else k) else
    (List.map (fun (n,k)=>if (k == NameKind.free && env.scope.kind == .function && env.kindOf n == some .cell) then (n,NameKind.cell) else (n,k)) r).lookup x):=by
 rw [List.map_cons]
 show List.lookup x ((if (k == NameKind.free && env.scope.kind == .function && env.kindOf n == some .cell)=true then (n,NameKind.cell) else (n,k))::_)=_
 by_cases hc:(k == NameKind.free && env.scope.kind == .function && env.kindOf n == some .cell)=true
 ·rw [if_pos hc,if_pos hc,List.lookup_cons]
  cases x == n <;> rfl
 ·rw [if_neg hc,if_neg hc,List.lookup_cons]
  cases x == n <;> rfl
theorem qgx {env:Env} {x:Str} {k:NameKind}:∀ {names:List (Str × NameKind)},
  (names.map fun (n,k)=>if (k == NameKind.free && env.scope.kind == .function && env.kindOf n == some .cell) then (n,NameKind.cell) else (n,k)).lookup x=some k ->
  ∃ k',names.lookup x=some k'/\(k'=k ∨ (k' = .free/\k = .cell))
 | [],h=>by simp at h
 | (n,q)::r,h=>by
  rw [qii] at h
  rw [List.lookup_cons]
  cases hx:x == n with
  | true =>
   rw [hx,if_pos rfl] at h
   have h':=Option.some.inj h
   refine ⟨q,rfl,?_⟩
   by_cases hc:(q == NameKind.free && env.scope.kind == .function && env.kindOf n == some .cell)=true
   ·rw [if_pos hc] at h'
    have hq:(q == NameKind.free)=true:=by
     cases z:(q == NameKind.free) with
     | true=>rfl
     | false=>rw [z] at hc;simp at hc
    exact .inr ⟨by simpa using hq,h'.symm⟩
   ·rw [if_neg hc] at h'
    exact .inl h'
  | false =>
   rw [hx,if_neg Bool.false_ne_true] at h
   exact qgx h
theorem qfo {env:Env} {x:Str}:∀ {names:List (Str × NameKind)},names.lookup x=some .free ->
  (names.map fun (n,k)=>if (k == NameKind.free && env.scope.kind == .function && env.kindOf n == some .cell) then (n,NameKind.cell) else (n,k)).lookup x=some .cell ∨
  (names.map fun (n,k)=>if (k == NameKind.free && env.scope.kind == .function && env.kindOf n == some .cell) then (n,NameKind.cell) else (n,k)).lookup x=some .free
 | [],h=>by simp at h
 | (n,q)::r,h=>by
  rw [qii]
  rw [List.lookup_cons] at h
  cases hx:x == n with
  | true =>
   rw [hx] at h
   have h':q = .free:=Option.some.inj h
   rw [if_pos rfl]
   by_cases hc:(q == NameKind.free && env.scope.kind == .function && env.kindOf n == some .cell)=true
   ·rw [if_pos hc];exact .inl rfl
   ·rw [if_neg hc,h'];exact .inr rfl
  | false =>
   rw [hx] at h
   rw [if_neg Bool.false_ne_true]
   exact qfo h

def qei (cap:List (Option Nat)) (σ:St):St:=cap.map fun o=>o.bind fun i=>(σ[i]?).join
structure qml (X:Cx) (N':List Str) (cap:List (Option Nat)) (sc:Scope):Prop where
 kind:sc.kind = .function
 nocell:∀ y ∈ sc.names,y.2 ≠ .cell
 names:∀ y ∈ sc.names,y.2 = .local->sc.names.lookup y.1=some .local
 free:∀ y ∈ sc.names,y.2 = .free->X.env.kindOf y.1=some .cell ∨ X.env.kindOf y.1=some .free
 len:cap.length=N'.length
 cap:∀ (j i:Nat),cap[j]?=some (some i)->∃ x,N'[j]?=some x/\X.N[i]?=some x/\sc.names.lookup x=some .free
def qwc:Option NameKind->Bool
 | some .cell=>true
 | some .free=>true
 | _=>false
theorem qo1 {k:Option NameKind} (h:qwc k=true):k=some .cell ∨ k=some .free:=by
 cases k with
 | none=>cases h
 | some k=>cases k <;> first | exact .inl rfl | exact .inr rfl | cases h
def qry (names:List (Str × NameKind)) (kd:Str->Option NameKind) (y:Str × NameKind):Bool :=
 match y.2 with
 | .cell=>false
 | .local=>names.lookup y.1 == some .local
 | .free=>qwc (kd y.1)
 | _=>true
def qfy (N:List Str) (sc:Scope):List Str->List (Option Nat)->Bool
 | [],[]=>true
 | _::r,none::c=>qfy N sc r c
 | x::r,some i::c=>N[i]? == some x && (sc.names.lookup x == some .free && qfy N sc r c)
 | _,_=>false
theorem qge {N:List Str} {sc:Scope}:∀ {xs:List Str} {c:List (Option Nat)},qfy N sc xs c=true->c.length=xs.length
 | [],[],_=>rfl
 | _::r,none::c,h=>by
  have h':qfy N sc r c=true:=h
  simp [qge h']
 | x::r,some i::c,h=>by
  have h':(N[i]? == some x && (sc.names.lookup x == some .free && qfy N sc r c))=true:=h
  simp only [Bool.and_eq_true] at h'
  simp [qge h'.2.2]
 | [],_::_,h=>by cases h
 | _::_,[],h=>by cases h
theorem qho {N:List Str} {sc:Scope}:∀ {xs:List Str} {c:List (Option Nat)},qfy N sc xs c=true->∀ (j i:Nat),c[j]?=some (some i)->∃ x,xs[j]?=some x/\N[i]?=some x/\sc.names.lookup x=some .free
 | [],[],_,j,i,e=>by simp at e
 | _::r,none::c,h,0,i,e=>by simp at e
 | _::r,none::c,h,j + 1,i,e=>by
  have h':qfy N sc r c=true:=h
  obtain ⟨x,h1,h2⟩:=qho h' j i (by simpa using e)
  exact ⟨x,by simpa using h1,h2⟩
 | x::r,some k::c,h,0,i,e=>by
  have h':(N[k]? == some x && (sc.names.lookup x == some .free && qfy N sc r c))=true:=h
  simp only [Bool.and_eq_true] at h'
  have e':k=i:=by simpa using e
  subst e'
  exact ⟨x,rfl,by simpa using h'.1,by simpa using h'.2.1⟩
 | x::r,some k::c,h,j + 1,i,e=>by
  have h':(N[k]? == some x && (sc.names.lookup x == some .free && qfy N sc r c))=true:=h
  simp only [Bool.and_eq_true] at h'
  obtain ⟨x',h1,h2⟩:=qho h'.2.2 j i (by simpa using e)
  exact ⟨x',by simpa using h1,h2⟩
 | [],_::_,h,_,_,_=>by cases h
 | _::_,[],h,_,_,_=>by cases h
theorem qci {X:Cx} {N':List Str} {cap:List (Option Nat)} {sc:Scope} (h1:sc.kind = .function) (h2:(sc.names.all fun y=>qry sc.names X.env.kindOf y)=true) (h3:qfy X.N sc N' cap=true):qml X N' cap sc:=by
 have h2':=List.all_eq_true.mp h2
 refine ⟨h1,fun y hy e=>?_,fun y hy e=>?_,fun y hy e=>?_,qge h3,qho h3⟩
 ·have q:=h2' y hy
  unfold qry at q
  rw [e] at q;cases q
 ·have q:=h2' y hy
  unfold qry at q
  rw [e] at q
  simpa using q
 ·have q:=h2' y hy
  unfold qry at q
  rw [e] at q
  exact qo1 q

def qc4 (X:Cx) (N':List Str) (sc:Scope) (cl:List (Str × Addr)) (C:Addr) (s:Shared) (H:Hp) (fp:List Addr) (pn:List (Addr × Obj)):Cx where
 prog:=X.prog
 w:=X.w
 K:=X.K
 mg:=X.mg
 base:=X.base
 A:=X.A
 N:=N'
 s₀:=s
 H₀:=H
 env:=compEnvC sc cl C X.env
 outer:=X.stack
 stack:=X.stack
 ex:=fp
 fn:=fun _=>false
 calm:=X.calm
 pn:=pn
 xe:=fun _ _=>False

section
variable {X:Cx} {pins:List (Addr × Obj)} {σ:St} {H:Hp} {s:Shared} {h1:Heap} {N':List Str} {cap:List (Option Nat)} {sc:Scope} {cl:List (Str × Addr)} {fp:List Addr} {C D:Addr}
theorem qxf (I:Inv X pins σ H s) (S:qml X N' cap sc) (hc1:∀ x c,cl.lookup x=some c->X.env.cells.lookup x=some c) (hc2:∀ y ∈ sc.names,y.2 = .free->∃ c,cl.lookup y.1=some c)
  (hf:∀ b ∈ fp,qlm X pins H b) (ho:∀ b ∈ fp,b < s.heap.objs.size) (hC:s.heap.objs.size<=C):(qc4 X N' sc cl C s H fp (X.pn++pins)).Ok where
 mod:=I.ok.mod
 kind:=S.kind
 glob:=I.ok.glob
 blt:=I.ok.blt
 above:=hC
 inj:=fun x y c e1 e2=>I.ok.inj x y c (hc1 x c e1) (hc1 y c e2)
 has:=fun x hx=>by
  have key:∀ k,(relabel sc X.env).names.lookup x=some k->(k = .cell ∨ k = .free)->∃ c,cl.lookup x=some c:=fun k e hk=>by
   obtain ⟨k',e',q⟩:=qgx e
   have hm:=PySem.mem_of_lookup e'
   have hfree:k' = .free:=by
    rcases q with q | q
    ·rcases hk with z | z
     ·exact absurd (q.trans z) (S.nocell _ hm)
     ·exact q.trans z
    ·exact q.1
   exact hc2 (x,k') hm hfree
  rcases hx with e | e
  ·exact key _ e (.inl rfl)
  ·exact key _ e (.inr rfl)
 cab:=fun x c hx _=>by cases hx
 hd:=I.ok.hd
 frames:=I.ok.frames
 stk:= .inl rfl
 exf:=fun b hb=>⟨Nat.ne_of_lt (Nat.lt_of_lt_of_le (ho b hb) hC),fun x c e=>(hf b hb).2.2.2.2.1 x c (hc1 x c e)⟩
 bs:=I.bs
 bsz:=Nat.le_trans I.ok.bsz I.sz
 noex:=fun b o e hb=>by
  rcases (hf b hb).2.2.2.1 with z | z
  ·exact I.ok.noex b o e z
  ·exact absurd (Nat.lt_of_lt_of_le (Heap.lt_size e) (Nat.le_trans I.ok.bsz z)) (Nat.lt_irrefl _)
 exfs:=fun b hb hz=>by
  rcases List.mem_cons.mp (I.stkSub b hz) with e | e
  ·exact (hf b hb).2.1 e
  ·exact (hf b hb).2.2.1 e
 funs:=I.stack
 frf:=I.stkFree

theorem inv_comp {m0:Str->Option Value} {o:Obj} (I:Inv X pins σ H s) (S:qml X N' cap sc) (hc1:∀ x c,cl.lookup x=some c->X.env.cells.lookup x=some c) (hc2:∀ y ∈ sc.names,y.2 = .free->∃ c,cl.lookup y.1=some c)
  (hf:∀ b ∈ fp,qlm X pins H b) (ho:∀ b ∈ fp,b < s.heap.objs.size) (hD:s.heap.objs.size<=D) (hC:D < C) (hDo:h1.get? D=some o) (hoc:∀ v,o.data ≠ .cell v)
  (hns:h1.Ns C m0) (hk:∀ b o,s.heap.get? b=some o->h1.get? b=some o) (t:Nat) :
  Inv (qc4 X N' sc cl C s H fp (X.pn++pins)) [(D,o)] (qei cap σ) H { s with heap:=h1,toks:=t }:=by
 have hCs:s.heap.objs.size<=C:=Nat.le_trans hD (Nat.le_of_lt hC)
 have lt_s:∀ b o,s.heap.get? b=some o->b ≠ C:=fun b o e=>Nat.ne_of_lt (Nat.lt_of_lt_of_le (Heap.lt_size e) hCs)
 refine ⟨qxf I S hc1 hc2 hf ho hCs,rfl,I.bare,Un.kept hk,⟨m0,hns,fun j x v e1 e2 e3=>?_⟩,fun x c e=>?_,I.hok.fresh hCs,fun x c e=>I.freeC x c (hc1 x c e),fun p hp=>?_,I.hok.kept hk,?_⟩
 ·obtain ⟨i,hi,hσ⟩:∃ i,cap[j]?=some (some i)/\σ[i]?=some (some v):=by
   unfold qei at e2
   rw [List.getElem?_map] at e2
   cases hc:cap[j]? with
   | none=>rw [hc] at e2;cases e2
   | some o' =>
    rw [hc] at e2
    have e2':(o'.bind fun i=>(σ[i]?).join)=some v:=Option.some.inj e2
    cases o' with
    | none=>cases e2'
    | some i =>
     refine ⟨i,rfl,?_⟩
     have e3':(σ[i]?).join=some v:=e2'
     cases hs:σ[i]? with
     | none=>rw [hs] at e3';cases e3'
     | some q=>rw [hs] at e3';exact congrArg some e3'
  obtain ⟨x',n1,n2,n3⟩:=S.cap j i hi
  have e1':N'[j]?=some x:=e1
  rw [n1] at e1'
  obtain rfl:x'=x:=Option.some.inj e1'
  have hkd:=S.free (x',.free) (PySem.mem_of_lookup n3) rfl
  obtain ⟨m,_,hl⟩:=I.loc
  obtain ⟨u,r,l⟩:=hl i x' v n2 hσ (by
   rcases hkd with z | z
   ·exact .inr (.inl z)
   ·exact .inr (.inr z))
  refine ⟨u,r,?_⟩
  rcases l with ⟨l1,_⟩ | ⟨_,c,ec,hcell⟩
  ·rcases hkd with z | z
   ·exact absurd (l1.symm.trans z) (by simp)
   ·exact absurd (l1.symm.trans z) (by simp)
  ·obtain ⟨c',ec'⟩:=hc2 (x',.free) (PySem.mem_of_lookup n3) rfl
   have q:=hc1 x' c' ec'
   rw [ec] at q
   obtain rfl:c=c':=Option.some.inj q
   refine .inr ⟨qfo n3,c,ec',?_⟩
   obtain ⟨oc,hoc',hd⟩:=hcell
   exact ⟨oc,hk _ _ hoc',hd⟩
 ·obtain ⟨v,oc,hoc',hd⟩:=I.cell x c (hc1 x c e)
  exact ⟨v,oc,hk _ _ hoc',hd⟩
 ·rcases List.mem_append.mp hp with hp | hp
  ·obtain ⟨e,n,ne,nf,d⟩:=I.pin p hp
   refine ⟨hk _ _ e,n,lt_s _ _ e,fun hz=>?_,d⟩
   rcases List.mem_cons.mp (I.stkSub _ hz) with e' | e'
   ·exact ne e'
   ·exact nf e'
  ·have e:p=(D,o):=by simpa using hp
   subst e
   refine ⟨hDo,I.hok.fresh hD,Nat.ne_of_lt hC,fun hz=>?_,hoc⟩
   rcases List.mem_cons.mp (I.stkSub _ hz) with e' | e'
   ·exact absurd (Nat.lt_of_lt_of_le I.lt hD) (by rw [show X.env.locals=D from e'.symm];exact Nat.lt_irrefl _)
   ·exact I.nofs hD e'
 ·unfold qei
  rw [List.length_map]
  exact S.len
end
end L2
namespace L2
open PySem PySem.Spec PyProof.Rows
structure Wk (σ σ':St):Prop where
 len:σ.length=σ'.length
 at':∀ (i:Nat) v,σ[i]?=some (some v)->σ'[i]?=some (some v)
theorem Wk.refl (σ:St):Wk σ σ:=⟨rfl,fun _ _ h=>h⟩
theorem Wk.set {σ σ':St} {i:Nat} {o:Option V} (w:Wk σ σ') (h:σ[i]?=some none):Wk σ (σ'.set i o):=by
 refine ⟨by rw [List.length_set];exact w.len,fun j v e=>?_⟩
 have ne:i ≠ j:=fun z=>by rw [<- z,h] at e;cases e
 rw [List.getElem?_set_ne ne]
 exact w.at' j v e
theorem Wk.one {σ:St} {i:Nat} {o:Option V} (h:σ[i]?=some none):Wk σ (σ.set i o):=(Wk.refl σ).set h

def PTs (X:Cx) (ifs:List Expr) (t:TT):Prop :=
 ∀ (pins:List (Addr × Obj)) (s:Shared) (σ:St) (H:Hp) (Q:Bool->Hp->Prop),Inv X pins σ H s->t σ H Q ->
  wpAny (model X.prog X.w) X.A (forIn ifs true fun c r=>if r=true then do let ok <- isTrue c X.env (eval c X.env);pure (ForInStep.yield ok) else pure (ForInStep.yield r)) (TP X pins σ Q) X.xe s
def tYes:TT:=fun _ H Q=>Q true H
theorem qbm {X:Cx}:PTs X [] tYes:=fun _ _ _ H _ I h=>wpAny_tests_nil ⟨H,I,h⟩
theorem qvl {X:Cx} {c:Expr} {t:TT} (h:PT X c t):PTs X [c] t:=fun pins s σ H Q I q=>wpAny_tests_one (h pins s σ H Q I q)

def qsq (J:It) (g:TG) (tt:TT) (te:TE) (Q:VK) (σ0:St) (H1:Hp):Prop:=∃ W:Nat->Nat->List V->Hp->Prop,(∃ m,W 0 m [] H1)/\∀ i m ys H,W i m ys H->ys.length<=sizeLine /\
  ((J.stop i H/\∀ D,H D=none->Q (.ref D) (upd H D (.lst ys))) ∨
   (J.go i H/\∀ x H',J.yld i H x H'->g x σ0 H' fun σ2 H2=>Wk σ0 σ2/\tt σ2 H2 fun b H3 =>
      if b=true then te σ2 H3 fun v H4=>∃ m',m' < m/\W (i + 1) m' (ys++[v]) H4 else ∃ m',m' < m/\W (i + 1) m' ys H3))
def qp4 (wi:TI) (g:TG) (tt:TT) (te:TE) (cap:List (Option Nat)):TE:=fun σ H Q=>wi σ H fun J H1=>qsq J g tt te Q (qei cap σ) H1

section
variable {X:Cx} {pins:List (Addr × Obj)} {σ:St} {s₂:Shared} {N':List Str} {cap:List (Option Nat)} {sc:Scope} {cl:List (Str × Addr)} {fp:List Addr}
theorem qme {tg iter elt:Expr} {ifs:List Expr} {pos:Pos} {g:TG} {tt:TT} {te:TE} {Q:VK} {H2:Hp} {it:Addr} {tn:Nat->Heap->Prop} {J:It} {E:Value->Shared->Prop} {RR:Value->Addr->Result->Shared->Prop}
    (S:qml X N' cap sc) (hc:X.calm=true) (hc1:∀ x c,cl.lookup x=some c->X.env.cells.lookup x=some c) (hc2:∀ y ∈ sc.names,y.2 = .free->∃ c,cl.lookup y.1=some c)
    (hg:∀ C pn,PG (qc4 X N' sc cl C s₂ H2 fp pn) tg g) (ht:∀ C pn,PTs (qc4 X N' sc cl C s₂ H2 fp pn) ifs tt) (he:∀ C pn,PE (qc4 X N' sc cl C s₂ H2 fp pn) elt te)
    (I2:Inv X pins σ H2 s₂) (T:Turn X.prog X.w X.K tg J fp it tn) (st2:tn 0 s₂.heap) (f2:∀ b ∈ fp,qlm X pins H2 b)
    (W:Nat->Nat->List V->Hp->Prop) (w0:∃ m,W 0 m [] H2) (turn:∀ i m ys H,W i m ys H->ys.length<=sizeLine /\
      ((J.stop i H/\∀ D,H D=none->Q (.ref D) (upd H D (.lst ys))) ∨
       (J.go i H/\∀ x H',J.yld i H x H'->g x (qei cap σ) H' fun σ2 H2=>Wk (qei cap σ) σ2/\tt σ2 H2 fun b H3 =>
          if b=true then te σ2 H3 fun v H4=>∃ m',m' < m/\W (i + 1) m' (ys++[v]) H4 else ∃ m',m' < m/\W (i + 1) m' ys H3)))
    (hRR:∀ D C H' s' m,Inv X pins σ H' s'->s'.heap.Ns C m->qlm X pins H' C->Q (.ref D) H'->RR (.ref D) C (.ok .next) s') :
    wpAny (model X.prog X.w) X.A (newList []) (fun acc s₃=>wpAny (model X.prog X.w) X.A (newFunctionEnv sc X.env.globals cl [] X.env.qual none .none (some X.env)) (fun cenv s₄ =>
      codeAny (model X.prog X.w) X.A (.compStart (.ListComp elt [⟨tg,iter,ifs,0⟩] sc pos) 0 (.ref it) acc { cenv with scope:=relabel sc X.env }) (RR acc cenv.locals) s₄) E s₃) E s₂:=by
  refine wpAny_newObj_type (wpAny_newFunctionEnv S.nocell (by intro y hy;simp at hy) (fun h₁ hns₁ hsb₁=>?_) S.kind)
  dsimp only at hns₁ hsb₁ ⊢
  generalize hG:s₂.heap.push { cls:= .type "list",dict:=none,data:= .seq ([]:List Value).toArray }=G at hns₁ hsb₁ ⊢
  have hC:G.objs.size=s₂.heap.objs.size + 1:=by rw [<- hG,Heap.size_push]
  have hDC:s₂.heap.objs.size < G.objs.size:=by rw [hC];exact Nat.lt_succ_self _
  have old:∀ b o,s₂.heap.get? b=some o->h₁.get? b=some o:=fun b o e =>
    hsb₁.extBut b o (Nat.ne_of_lt (Nat.lt_trans (Heap.lt_size e) hDC)) (Heap.get?_push_of_some _ (hG ▸ Heap.get?_push_of_some _ e))
  have hacc:h₁.get? s₂.heap.objs.size=some (LCg.lst []):=hsb₁.extBut _ _ (Nat.ne_of_lt hDC) (Heap.get?_push_of_some _ (hG ▸ Heap.get?_push_size _ rfl))
  have fl:∀ b ∈ fp,b < s₂.heap.objs.size:=fun b hb=>by obtain ⟨o,e,_⟩:=T.obj _ _ st2 b hb;exact Heap.lt_size e
  have seqd:∀ (us:List Value) v,(LCg.lst us).data ≠ .cell v:=fun us v z=>by cases z
  have cellt:∀ x c,cl.lookup x=some c->c < s₂.heap.objs.size:=fun x c e=>by obtain ⟨v,oc,ho,_⟩:=I2.cell x c (hc1 x c e);exact Heap.lt_size ho
  have pint:∀ p ∈ X.pn++pins,p.1 < s₂.heap.objs.size:=fun p hp=>Heap.lt_size (I2.pin p hp).1
  have I0:Inv (qc4 X N' sc cl G.objs.size s₂ H2 fp (X.pn++pins)) [(s₂.heap.objs.size,LCg.lst [])] (qei cap σ) H2 { s₂ with heap:=h₁,toks:=s₂.toks + ([]:List (Str × Value)).length } :=
    inv_comp I2 S hc1 hc2 f2 fl (Nat.le_refl _) hDC hacc (seqd []) hns₁ old _
  have stat:∀ {H':Hp} {us:List Value},(∀ b ∈ fp,H' b=none)->∀ b ∈ fp,qlm (qc4 X N' sc cl G.objs.size s₂ H2 fp (X.pn++pins)) [(s₂.heap.objs.size,LCg.lst us)] H' b:=fun {H' us} hn b hb=>by
    obtain ⟨f0,f1,f2',f3,f4,f5⟩:=f2 b hb
    refine ⟨hn b hb,Nat.ne_of_lt (Nat.lt_trans (fl b hb) hDC),fun hz=>?_,.inl hb,fun x c e=>f4 x c (hc1 x c e),fun p hp=>?_⟩
    · rcases List.mem_cons.mp (I2.stkSub b hz) with e | e
      · exact f1 e
      · exact f2' e
    · rcases List.mem_append.mp hp with hp | hp
      · exact f5 p hp
      · have e:p=(s₂.heap.objs.size,LCg.lst us):=by simpa using hp
        rw [e]
        exact Ne.symm (Nat.ne_of_lt (fl b hb))
  have loop:∀ s₃:Shared,s₃={ s₂ with heap:=h₁,toks:=s₂.toks + ([]:List (Str × Value)).length } ->
      codeAny (model X.prog X.w) X.A (.compLoop (.ListComp elt [⟨tg,iter,ifs,0⟩] sc pos) 0 (.ref it) (.ref s₂.heap.objs.size) (compEnvC sc cl G.objs.size X.env)) (RR (.ref s₂.heap.objs.size) G.objs.size) s₃:=by
    rintro s₃ rfl
    obtain ⟨m0,w0⟩:=w0
    refine qd6
      (fun n s'=>∃ i ys us H',Inv (qc4 X N' sc cl G.objs.size s₂ H2 fp (X.pn++pins)) [(s₂.heap.objs.size,LCg.lst us)] (qei cap σ) H' s'/\Vals ys us/\tn i s'.heap/\(∀ b ∈ fp,H' b=none)/\W i n ys H') ?_ m0
      ⟨0,[],[],H2,I0,.nil,T.keep _ _ _ st2 fun b _ o e=>old b o e,fun b hb=>(f2 b hb).1,w0⟩
    rintro n s3 ⟨i,ys,us,H3,I3,rv,st3,fr3,w3⟩
    obtain ⟨hz,alt⟩:=turn i n ys H3 w3
    rcases alt with ⟨stop,fin⟩ | ⟨go,step⟩
    · refine thn (T.done (qc4 X N' sc cl G.objs.size s₂ H2 fp (X.pn++pins)) rfl rfl rfl hc i _ s3 _ H3 _ I3 (stat fr3) st3 stop) fun r s4 ⟨hr,I4⟩=>?_
      subst hr
      obtain ⟨gD,nD,_,_,_⟩:=I4.pin (s₂.heap.objs.size,LCg.lst us) (List.mem_append_right _ (List.mem_singleton.mpr rfl))
      have nD':H3 s₂.heap.objs.size=none:=nD
      have gD':s4.heap.get? s₂.heap.objs.size=some (LCg.lst us):=gD
      have b4:Un (frs X.stack) fp H2 H3 s₂.heap s4.heap:=I4.base
      have n2:H2 s₂.heap.objs.size=none:=I2.hok.fresh (Nat.le_refl _)
      have un:Un (frs X.stack) fp H2 (upd H3 s₂.heap.objs.size (.lst ys)) s₂.heap s4.heap :=
        ⟨b4.keep,b4.slot,fun b o e n hx=>by rw [qam (Nat.ne_of_lt (Heap.lt_size e))];exact b4.free b o e n hx,b4.there,
          fun b xs e=>by rw [qam (qai e n2)];exact b4.tups b xs e,fun b o u e=>by rw [qam (qai e n2)];exact b4.frzs b o u e,
          fun b ps e=>by obtain ⟨mo,q⟩:=b4.tbls b ps e;exact ⟨mo,by rw [qam (qai e n2)];exact q⟩⟩
      have hok:HOk X.prog X.w (upd H3 s₂.heap.objs.size (.lst ys)) s4.heap:=fun b u e=>by
        by_cases hb:b=s₂.heap.objs.size
        · subst hb
          rw [qan] at e
          cases e
          exact ⟨hz,us,us.length,rv,gD'⟩
        · rw [qam hb] at e
          exact (I4.hok b u e).stay (fun c v _ q=>q) (fun c q=>by rw [qam (qai q nD')];exact q) fun c xs q=>by rw [qam (qai q nD')];exact q
      have IF:Inv X pins σ (upd H3 s₂.heap.objs.size (.lst ys)) s4:=I2.call' (ch:=fp) I4.os un hok I4.bare fun b hb=>by
        obtain ⟨f0,f1,f2',f3,f4,f5⟩:=f2 b hb
        exact ⟨f3,f1,f4,f5⟩
      obtain ⟨mF,hnF,_⟩:=I4.loc
      refine hRR _ _ _ _ mF IF hnF (I2.fpOk (Nat.le_of_lt hDC) ?_) (fin _ nD')
      rw [qam (Ne.symm (Nat.ne_of_lt hDC))]
      exact I4.free
    · refine thn (T.item (qc4 X N' sc cl G.objs.size s₂ H2 fp (X.pn++pins)) rfl rfl rfl hc i _ s3 _ H3 _ I3 (stat fr3) st3 go) fun r s4 ⟨u,hr,h4⟩=>?_
      subst hr
      refine thn h4 fun _ s5 ⟨x,H5,I5,r5,y5,st5,fr5⟩=>?_
      have I5':=I5.pinned (stat fr5) (T.obj _ _ st5)
      refine thn (hg G.objs.size (X.pn++pins) _ s5 _ H5 x u _ I5' r5 (step x H5 y5)) fun _ s6 ⟨σ6,H6,I6,wk,q6⟩=>?_
      refine thn (ht G.objs.size (X.pn++pins) _ s6 σ6 H6 _ I6 q6) fun ok s7 ⟨H7,I7,q7⟩=>?_
      have back:∀ {σ8:St} {H8:Hp} {s8:Shared} {us8:List Value},Inv (qc4 X N' sc cl G.objs.size s₂ H2 fp (X.pn++pins)) ([(s₂.heap.objs.size,LCg.lst us8)]++ql2 fp s5.heap) σ8 H8 s8 ->
          tn (i + 1) s8.heap/\∀ b ∈ fp,H8 b=none:=fun {σ8 H8 s8 us8} I8=>by
        refine ⟨T.keep _ _ _ st5 fun b hb o e=>(I8.pin (b,o) (List.mem_append_right _ (List.mem_append_right _ (qd2 hb e)))).1,fun b hb=>?_⟩
        obtain ⟨o,e,d⟩:=T.obj _ _ st5 b hb
        exact (I8.pin (b,o) (List.mem_append_right _ (List.mem_append_right _ (qd2 hb e)))).2.1
      cases ok with
      | false =>
        obtain ⟨m',hm,w7⟩:=q7
        obtain ⟨t7,f7⟩:=back I7
        exact ⟨m',hm,i + 1,ys,us,H7,I7.unpinned.weak wk.len wk.at',rv,t7,f7,w7⟩
      | true =>
        refine thn (he G.objs.size (X.pn++pins) _ s7 σ6 H7 _ I7 q7) fun uv s8 ⟨v,H8,I8,r8,m',hm,w8⟩=>?_
        obtain ⟨t8,f8⟩:=back I8
        obtain ⟨gD,nD,lD,fD,_⟩:=I8.pin (s₂.heap.objs.size,LCg.lst us) (List.mem_append_right _ (List.mem_append_left _ (List.mem_singleton.mpr rfl)))
        have gD':s8.heap.get? s₂.heap.objs.size=some { cls:= .type "list",data:= .seq us.toArray us.length }:=gD
        refine append_at (hsz:=by rw [List.size_toArray,<- rv.length];exact hz) gD' fun h9 hs9 hD9=>?_
        have I8a:Inv (qc4 X N' sc cl G.objs.size s₂ H2 fp (X.pn++pins)) [] σ6 H8 s8:=I8.pins_of fun p hp=>nomatch hp
        have I9:Inv (qc4 X N' sc cl G.objs.size s₂ H2 fp (X.pn++pins)) [] σ6 H8 { s8 with heap:=h9,toks:=s8.toks } :=
          I8a.turned (it:=s₂.heap.objs.size) (fun b o hb e=>hs9.extBut b o hb e) nD lD (.inr (Nat.le_refl _)) (fun x c e=>Nat.ne_of_lt (cellt x c e)) fun p hp=>by
            rw [List.append_nil] at hp
            exact Nat.ne_of_lt (pint p hp)
        have I10:Inv (qc4 X N' sc cl G.objs.size s₂ H2 fp (X.pn++pins)) [(s₂.heap.objs.size,LCg.lst (us++[uv]))] σ6 H8 { s8 with heap:=h9,toks:=s8.toks }:=I9.pins_of fun p hp=>by
          have e:p=(s₂.heap.objs.size,LCg.lst (us++[uv])):=by simpa using hp
          subst e
          exact ⟨hD9.trans (congrArg some (LCg.lst_snoc us uv)),nD,lD,fD,seqd _⟩
        refine ⟨m',hm,i + 1,ys++[v],us++[uv],H8,I10.weak wk.len wk.at',rv.append (.cons r8 .nil),T.keep _ _ _ t8 fun b hb o e=>hs9.extBut b o (Nat.ne_of_lt (fl b hb)) e,f8,w8⟩
  have st1:tn 0 h₁:=T.keep _ _ _ st2 fun b _ o e=>old b o e
  exact codeAny_compStart_list (loop _ rfl) (T.self _ 0 _ _ _ st1 (loop _ rfl))

theorem qbv {tg iter elt:Expr} {ifs:List Expr} {pos:Pos} {wi:TI} {g:TG} {tt:TT} {te:TE} (S:qml X N' cap sc) (hc:X.calm=true) (hi:PI X tg iter wi)
  (hg:∀ cl C s H fp pn,PG (qc4 X N' sc cl C s H fp pn) tg g) (ht:∀ cl C s H fp pn,PTs (qc4 X N' sc cl C s H fp pn) ifs tt) (he:∀ cl C s H fp pn,PE (qc4 X N' sc cl C s H fp pn) elt te)
  (hs:∀ x,foldedSetIterable iter X.env x=pure x:=by intro _;rfl):PE X (.ListComp elt [⟨tg,iter,ifs,0⟩] sc pos) (qp4 wi g tt te cap):=by
 intro pins s σ H Q I h
 rw [eval_ListComp]
 obtain ⟨cl,hcl,hc1,hc2⟩:=qdf (scope:=sc) (env:=X.env) fun y hy e=>I.ok.has y.1 (S.free y hy e)
 refine wpAny_comprehension_free (use:=none) rfl hs hcl S.kind S.names (thn (hi pins s σ H _ I h) fun v s1 h1=>thn h1 fun itv s2 h2=>?_)
 obtain ⟨it,fp,tn,J,H2,e,I2,T,st2,f2,W,w0,turn⟩:=h2
 subst e
 refine qme (RR:=fun acc C=>compPost (model X.prog X.w) X.A X.xe none (EP X pins σ Q) acc C) S hc hc1 hc2 (fun C pn=>hg cl C s2 H2 fp pn) (fun C pn=>ht cl C s2 H2 fp pn) (fun C pn=>he cl C s2 H2 fp pn) I2 T st2 f2 W w0 turn ?_
 intro D C H' s' m I' hn F q
 obtain ⟨f0,f1,f2',f3,f4,f5⟩:=F
 exact ⟨m,hn,fun h' hs'=>⟨.ref D,H',I'.turned (t':=s'.toks) (fun b o hb e=>hs'.extBut b o hb e) f0 f1 f3 f4 f5,rfl,q⟩⟩

theorem qqc {i:Nat} {x:Str} {tg iter elt:Expr} {ifs:List Expr} {pos spos pos':Pos} {wi:TI} {g:TG} {tt:TT} {te:TE} (S:qml X N' cap sc) (hc:X.calm=true) (hN:X.N.Nodup) (hx:X.N[i]?=some x) (hk:X.env.scope.names.lookup x=some .local) (hi:PI X tg iter wi)
  (hg:∀ cl C s H fp pn,PG (qc4 X N' sc cl C s H fp pn) tg g) (ht:∀ cl C s H fp pn,PTs (qc4 X N' sc cl C s H fp pn) ifs tt) (he:∀ cl C s H fp pn,PE (qc4 X N' sc cl C s H fp pn) elt te)
  (hsw:swapsWith (.ListComp elt [⟨tg,iter,ifs,0⟩] sc pos) (some (.Name x pos')) spos.line X.env=pure true:=by rfl)
  (hs:∀ x,foldedSetIterable iter X.env x=pure x:=by intro _;rfl):PS X (.Assign [.Name x pos'] (.ListComp elt [⟨tg,iter,ifs,0⟩] sc pos) spos) (qrj (qp4 wi g tt te cap) (qez i)):=by
 intro pins s σ H D I h
 rw [exec_Assign_Name_used _ _ _ _ hsw]
 refine wpAny_bind (wpAny_standAt (wpAny_bind ?_))
 show wpAny _ X.A (do let _ <- comprehension (.ListComp elt [⟨tg,iter,ifs,0⟩] sc pos) sc X.env _ (newList []) false (eval iter X.env) (some (assign (.Name x pos') X.env))) _ _ s
 obtain ⟨cl,hcl,hc1,hc2⟩:=qdf (scope:=sc) (env:=X.env) fun y hy e=>I.ok.has y.1 (S.free y hy e)
 refine wpAny_bind (thn (wpAny_comprehension_free (use:=some (assign (.Name x pos') X.env)) (Q:=fun _ s'=>SP X pins D .next s') rfl hs hcl S.kind S.names
  (thn (hi pins s σ H _ I h) fun v s1 h1=>thn h1 fun itv s2 h2=>?_)) fun _ s' hq=>wpAny_pure (wpAny_pure hq))
 obtain ⟨it,fp,tn,J,H2,e,I2,T,st2,f2,W,w0,turn⟩:=h2
 subst e
 refine qme (Q:=fun v H1=>qez i v σ H1 D.nx) (RR:=fun acc C=>compPost (model X.prog X.w) X.A X.xe (some (assign (.Name x pos') X.env)) (fun _ s'=>SP X pins D .next s') acc C) S hc hc1 hc2 (fun C pn=>hg cl C s2 H2 fp pn) (fun C pn=>ht cl C s2 H2 fp pn) (fun C pn=>he cl C s2 H2 fp pn) I2 T st2 f2 W w0 turn ?_
 intro E C H' s' m I' hn F q
 obtain ⟨f0,f1,f2',f3,f4,f5⟩:=F
 show wpAny _ X.A (assign (.Name x pos') X.env (.ref E)) _ _ _
 refine wpAny_assign_Name (qjn I' hN hx (.inl hk) (v:= .ref E) rfl (fun s'' I'' ch=>?_) (.inr hk))
 obtain ⟨a,sb,ha⟩:=ch
 have nC:C ≠ a:=by
  rcases ha with z | z
  ·rw [z];exact f1
  ·exact Ne.symm (f4 x a z)
 exact ⟨m,hn.sameBut sb nC,fun h' hs'=>⟨_,H',I''.turned (t':=s''.toks) (fun b o hb e=>hs'.extBut b o hb e) f0 f1 f3 f4 f5,q⟩⟩
end
section
variable {g:TG} {tt:TT} {te:TE} {Q:VK} {H:Hp} {σ0:St}
theorem qxh {K:PySem.W.Frag} {a:Addr} {xs:List V} (Pv:Nat->List V->Hp->Prop) (h0:Pv 0 [] H) (hz:∀ i ys H,i<=xs.length->Pv i ys H->ys.length<=sizeLine) (hl:∀ i ys H,i<=xs.length->Pv i ys H->SqL K H a xs)
  (hs:∀ i x ys H (R:List V->Hp->Prop),xs[i]?=some x->Pv i ys H->(∀ ys' H',Pv (i + 1) ys' H'->R ys' H')->g x σ0 H fun σ2 H2=>Wk σ0 σ2/\tt σ2 H2 fun b H3=>if b=true then te σ2 H3 fun v H4=>R (ys++[v]) H4 else R ys H3)
  (hd:∀ ys H,Pv xs.length ys H->∀ D,H D=none->Q (.ref D) (upd H D (.lst ys))):qsq (Itl K a) g tt te Q σ0 H:=by
 refine ⟨fun i m ys H=>m=xs.length - i/\i<=xs.length/\Pv i ys H,⟨xs.length,by simp,Nat.zero_le _,h0⟩,?_⟩
 rintro i m ys H ⟨rfl,hi,p⟩
 have q:=hl i ys H hi p
 refine ⟨hz i ys H hi p,?_⟩
 by_cases hlt:i < xs.length
 ·refine .inr ⟨⟨xs,xs[i],q,by simp [hlt]⟩,fun x H' y=>?_⟩
  obtain ⟨e,y⟩:=y
  subst e
  exact hs i x ys _ (fun ys' H'=>∃ m',m' < xs.length - i/\m'=xs.length - (i + 1)/\i + 1<=xs.length/\Pv (i + 1) ys' H') (y xs q) p fun ys' H' p'=>⟨xs.length - (i + 1),by omega,rfl,hlt,p'⟩
 ·have e:i=xs.length:=by omega
  subst e
  exact .inl ⟨⟨xs,q,Nat.le_refl _⟩,hd ys H p⟩
end
end L2
namespace L2
open PySem PySem.Spec PyProof.Rows
def tyB (T c:String):Option Bool:=if (Value.type T == Value.type c)=true then some true else if PySem.W.kitMeta c=true then (fastBuiltinMro T).map (·.contains (Value.type c)) else none
theorem kit_tyB {K:PySem.W.Frag} {T c:String} {b:Bool} (h:tyB T c=some b):PySem.W.kitOne K (.type T) (.type c)=some b:=h
theorem qsu:tyB "int" "int"=some true:=by decide +kernel
theorem qp1:tyB "int" "bool"=some false:=by decide +kernel
theorem qoc:tyB "list" "list"=some true:=by decide +kernel
theorem qst:tyB "str" "str"=some true:=by decide +kernel
theorem qa7:bootBuiltins "isinstance"=some (.builtin "isinstance"):=by decide +kernel
theorem qc5:bootBuiltins "list"=some (.type "list"):=by decide +kernel
theorem qpl:bootBuiltins "int"=some (.type "int"):=by decide +kernel
theorem qmg:bootBuiltins "bool"=some (.type "bool"):=by decide +kernel
theorem qpi:bootBuiltins "str"=some (.type "str"):=by decide +kernel
theorem qf0:bootBuiltins "all"=some (.builtin "all"):=by decide +kernel
theorem qxr:bootBuiltins "sum"=some (.builtin "sum"):=by decide +kernel
theorem qpk:bootBuiltins "min"=some (.builtin "min"):=by decide +kernel
theorem qkt:bootBuiltins "enumerate"=some (.type "enumerate"):=by decide +kernel
theorem qxq:bootBuiltins "zip"=some (.type "zip"):=by decide +kernel
section
variable {X:Cx}
theorem qq6:CallR X (.builtin "isinstance") (fun xs H Q=>∃ x n T b,xs=[x,.ty n]/\qq9 X.K H x (.type T)/\tyB T n=some b/\Q (.bl b) H):=by
 intro pins s σ H xs us Q I r h
 obtain ⟨x,n,T,b,rfl,ty,e,q⟩:=h
 obtain ⟨u,w',rfl,rx,rw'⟩:=vals2 r
 obtain rfl:w'=Value.type n:=rw'
 exact qwi I rx ty (kit_tyB e) fun tk=>⟨.bl b,H,I.tok _,rfl,q⟩

theorem qui:∀ {bs:List Bool} {us:List Value} {i:Nat} {u:Value},Vals (bs.map V.bl) us->us[i]?=some u->u = .bool (bs.getD i false)
 | [],_,_,_,.nil,e=>by simp at e
 | b::_,_,0,_,.cons r _,e=>by
  have e':=Option.some.inj e
  subst e'
  exact r
 | _::bs,_,i + 1,u,.cons _ t,e=>by
  have q:=qui (i:=i) (u:=u) t (by simpa using e)
  simpa using q
theorem all_getD:∀ (bs:List Bool),(List.range bs.length).all (fun i=>bs.getD i false)=bs.all id:=by
 intro bs
 rw [Bool.eq_iff_iff,List.all_eq_true,List.all_eq_true]
 constructor
 ·intro h b hb
  obtain ⟨i,hi,e⟩:=List.getElem_of_mem hb
  have q:=h i (List.mem_range.mpr hi)
  rw [List.getD_eq_getElem?_getD,List.getElem?_eq_getElem hi] at q
  rw [<- e]
  exact q
 ·intro h i hi
  have hi':=List.mem_range.mp hi
  rw [List.getD_eq_getElem?_getD,List.getElem?_eq_getElem hi']
  exact h _ (List.getElem_mem hi')
theorem call_all (hc:X.calm=true):CallR X (.builtin "all") (fun xs H Q=>∃ (a:Addr) (bs:List Bool),xs=[.ref a]/\SqL X.K H a (bs.map V.bl)/\Q (.bl (bs.all id)) H):=by
 intro pins s σ H xs us Q I r h
 obtain ⟨a,bs,rfl,hq,q⟩:=h
 obtain ⟨u,rfl,ru⟩:=qjl r
 obtain rfl:u=Value.ref a:=ru
 obtain ⟨its,rv,p,hz⟩:=I.list hq
 have hlt:a < s.heap.objs.size:=by obtain ⟨_,_,e,_⟩:=p;exact Heap.lt_size e
 have hl:s.heap.IsList a its.toArray:=p.isList
 refine call_all_walk (wpAny_pyIter_list hl ?_)
 refine ⟨s.heap.objs.size,_,_,_,_,_,fun i=>bs.getD i false,rfl,Walks.list (A:=X.A.in1) (I.ok.hd hc) s.heap.objs.size a (Nat.ne_of_lt hlt) its.toArray,⟨⟨_,Heap.get?_push_size _ rfl,rfl,rfl⟩,hl.push _⟩,?_,fun h' tk k=>?_⟩
 ·intro i v s' Q' E' hP hQ
  have e:=qui rv (by simpa using hP)
  subst e
  exact wpAny_truthy_bool hQ
 ·have hn:its.toArray.size=bs.length:=by
   have e:=rv.length
   rw [List.length_map] at e
   rw [List.size_toArray]
   exact e.symm
  rw [hn,all_getD]
  refine ⟨.bl (bs.all id),H,I.kept (t':=tk) (fun b o e=>k b o (fun hm=>?_) (Heap.get?_push_of_some _ e)),rfl,q⟩
  have e':b=s.heap.objs.size:=by simpa using hm
  exact absurd (Heap.lt_size e) (by rw [e'];exact Nat.lt_irrefl _)

theorem qfk:∀ {ns:List Int} {us:List Value},Vals (ns.map V.int) us->IntsAre us ns
 | [],_,.nil=> .nil
 | n::_,_,.cons ⟨t,e⟩ r=>by
  subst e
  exact .cons n t (qfk r)
theorem call_sum (hc:X.calm=true):CallR X (.builtin "sum") (fun xs H Q=>∃ (a:Addr) (ns:List Int),xs=[.ref a]/\SqL X.K H a (ns.map V.int)/\Q (.int ns.sum) H):=by
 intro pins s σ H xs us Q I r h
 obtain ⟨a,ns,rfl,hq,q⟩:=h
 obtain ⟨u,rfl,ru⟩:=qjl r
 obtain rfl:u=Value.ref a:=ru
 obtain ⟨its,rv,p,hz⟩:=I.list hq
 have hi:=qfk rv
 have hl:s.heap.IsList a its.toArray:=p.isList
 obtain ⟨xs,ex⟩:=hi.allInts.items
 have e2:(numsOf its.toArray.toList).sum=ns.sum:=by rw [show its.toArray.toList=its from rfl,hi.numsOf]
 rw [ex] at hl e2
 rw [nums_intItems] at e2
 refine sum_intListG (I.ok.hd hc) hl fun h' tk t' k=>⟨.int ns.sum,H,I.kept (t':=tk) k,?_,q⟩
 rw [preSum_eq,List.take_of_length_le (by simp),e2]
 exact ⟨_,rfl⟩

def CDivL (_i j:Int):Prop:=0 < j/\j.natAbs.log2 < 9000
theorem qrw:OpR X (binaryOp .FloorDiv) (rI CDivL fun i j=> .int (i / j)):=opI fun i j _ _ _ _ _ hc q=>by
 have e:i.fdiv j=i / j:=Int.fdiv_eq_ediv_of_nonneg i (Int.le_of_lt hc.1)
 exact floordiv_int (Ne.symm (Int.ne_of_lt hc.1)) (by rw [e];exact q) (.inl (PyProof.noPylong_of_log2 hc.2))
def qx1 (i j:Int):Prop:=Builtin.Int.intBits i<=2 ^ 20/\Builtin.Int.intBits j<=2 ^ 20
theorem qni:OpR X (binaryOp .Mult) (rI qx1 fun i j=> .int (i * j)):=opI fun _ _ _ _ _ _ _ hc q=>mul_int q (IntMulOk.of_bits hc.1 hc.2)

def Its (lo c:Int) (n:Nat):It:=⟨fun i _=>i < n,fun i H x H'=>H'=H/\x = .int (lo + i * c),fun i _=>n<=i⟩
theorem qp2 {P:Program} {w:World} {K:PySem.W.Frag} {tg:Expr} (it:Addr) (lo c:Int) (n:Nat):Turn P w K tg (Its lo c n) [it] it (fun i h=>IsRangeIter h it (lo + (i:Nat) * c) ((n:Int) - (i:Nat)) c) where
 mem:=by simp
 obj:=fun i h st b hb=>by
  have e:b=it:=by simpa using hb
  subst e
  exact ⟨_,st,fun v z=>by
   have z':Data.fields _=Data.cell v:=z
   cases z'⟩
 keep:=fun i h h' st k=>k it (by simp) _ st
 item:=by
  intro X hP hw hK hc i pins s σ H E I hf st hg
  subst hP hw hK
  obtain ⟨f0,f1,f2,f3,f4,f5⟩:=hf it (by simp)
  have W:=Walks.range (prog:=X.prog) (w:=X.w) (I.ok.hd hc) it lo c n
  refine W.item i s _ _ hg st fun v h' tk hv st' kk=>?_
  obtain ⟨t,rfl⟩:=hv
  have I1:Inv X pins σ H { s with heap:=h',toks:=tk }:=I.turned (fun b o hb e=>kk b o (by simpa using hb) e) f0 f1 f3 f4 f5
  exact ⟨_,rfl,go_of (s:={ s with heap:=h',toks:=tk }) (n := "range_iterator") st' rfl rfl (by decide) ⟨.int (lo + i * c),H,I1,⟨t,rfl⟩,⟨rfl,rfl⟩,st',fun b hb=>(hf b hb).1⟩⟩
 done:=by
  intro X hP hw hK hc i pins s σ H E I hf st hg
  subst hP hw hK
  obtain ⟨f0,f1,f2,f3,f4,f5⟩:=hf it (by simp)
  exact wpAny_pyNext_range_end (I.ok.hd hc) st (by have:n<=i:=hg;omega) fun h' eb=>⟨rfl,I.turned (t':=s.toks) (fun b o hb e=>eb b o hb e) f0 f1 f3 f4 f5⟩
 self:=fun _ _ _ _ _ st h=>wpAny_pyIter_rangeiter st h
def rngN (i j c:Int):Nat:=(Builtin.Range.rangeSize i j c).toNat
def iRng3 (ta:TA):TI:=fun σ H R=>ta σ H fun vs H1=>∃ i j c:Int,vs=[.int i,.int j,.int c]/\(0 < c/\c < 1073741824)/\0<=Builtin.Range.rangeSize i j c/\Builtin.Range.small i j c=true/\R (Its i c (rngN i j c)) H1
variable {tg:Expr}
theorem qvp {a b c:Expr} {ta:TA} {p pos:Pos} (hg:Gl X "range") (hm:X.mg "range"=none) (ha:PA X [a,b,c] ta) (hs:starEach [a,b,c] X.env=[(false,eval a X.env),(false,eval b X.env),(false,eval c X.env)]:=by rfl)
  (hs2:starEach [b,c] X.env=[(false,eval b X.env),(false,eval c X.env)]:=by rfl) :
  PI X tg (.Call (.Name "range" p) [a,b,c] [] pos) (iRng3 ta):=by
 intro pins s σ H R I h
 refine Call_ (qke I hg hm boot_range (PyProof.Rows.callWith_type1 (thn (ha pos pins s σ H _ I h) fun us s1 ⟨vs,H1,I1,r1,q1⟩=>?_) (by rw [hs,hs2]) (by rw [hs2];rfl)))
 obtain ⟨i,j,c,e,⟨q1,q2⟩,q3,q4,q⟩:=q1
 subst e
 cases r1 with
 | cons r rr =>
  cases rr with
  | cons r' rr =>
   cases rr with
   | cons r'' rr =>
    cases rr
    obtain ⟨t,rfl⟩:=r
    obtain ⟨t',rfl⟩:=r'
    obtain ⟨t'',rfl⟩:=r''
    refine call_range_3 (Ne.symm (Int.ne_of_lt q1)) ?_ (.inl (PyProof.noPylong_small (by omega)))
    refine wpAny_pyIter_range (IsRange.new ..) q4 ?_
    have I2:Inv X pins σ H1 { s1 with heap:=s1.heap.push { cls:= .type "range",data:= .fields #[.int i t,.int j t',.int c t''] },toks:=s1.toks }:=I1.kept fun b o e=>Heap.get?_push_of_some _ e
    refine ⟨(s1.heap.push { cls:= .type "range",data:= .fields #[.int i t,.int j t',.int c t''] }).objs.size,[(s1.heap.push { cls:= .type "range",data:= .fields #[.int i t,.int j t',.int c t''] }).objs.size],_,_,H1,rfl,
     I2.kept (t':=s1.toks) fun b o e=>Heap.get?_push_of_some _ e,qp2 _ i c (rngN i j c),?_,fun b hb=>?_,q⟩
    ·have e1:i + ((0:Nat):Int) * c=i:=by simp
     have e2:((rngN i j c:Nat):Int) - ((0:Nat):Int)=Builtin.Range.rangeSize i j c:=by unfold rngN;omega
     show IsRangeIter _ _ (i + ((0:Nat):Int) * c) (((rngN i j c:Nat):Int) - ((0:Nat):Int)) c
     rw [e1,e2]
     exact Heap.get?_push_size _ rfl
    ·have e:b=(s1.heap.push { cls:= .type "range",data:= .fields #[.int i t,.int j t',.int c t''] }).objs.size:=by simpa using hb
     subst e
     exact I2.fpOk (Nat.le_refl _) (I2.hok.fresh (Nat.le_refl _))
end
theorem for_its {lo c:Int} {n:Nat} {g:TG} {tb:TS} {D:qrc} {σ:St} {H:Hp} (Pv:Nat->St->Hp->Prop) (h0:Pv 0 σ H)
  (hs:∀ i σ H,i < n->Pv i σ H->g (.int (lo + i * c)) σ H fun σ2 H2=>tb { D with nx:=Pv (i + 1),ct:=Pv (i + 1),bk:=D.nx } σ2 H2) (hd:∀ σ H,Pv n σ H->D.nx σ H) :
  ∃ W:Nat->Nat->St->Hp->Prop,(∃ m,W 0 m σ H)/\∀ i m σ H,W i m σ H ->
   ((Its lo c n).stop i H/\D.nx σ H) ∨ ((Its lo c n).go i H/\∃ N:St->Hp->Prop,(∀ σ' H',N σ' H'->∃ m',m' < m/\W (i + 1) m' σ' H')/\∀ x H',(Its lo c n).yld i H x H'->g x σ H' fun σ2 H2=>tb { D with nx:=N,ct:=N,bk:=D.nx } σ2 H2):=by
 refine ⟨fun i m σ H=>m=n - i/\i<=n/\Pv i σ H,⟨n,by simp,Nat.zero_le _,h0⟩,?_⟩
 rintro i m σ H ⟨rfl,hi,p⟩
 by_cases hlt:i < n
 ·refine .inr ⟨hlt,Pv (i + 1),fun σ' H' p'=>⟨n - (i + 1),by omega,rfl,hlt,p'⟩,fun x H' y=>?_⟩
  obtain ⟨e,y⟩:=y
  subst e y
  exact hs i σ _ hlt p
 ·have e:i=n:=by omega
  subst e
  exact .inl ⟨Nat.le_refl _,hd σ H p⟩

section
open PySem.SeqAt
theorem qdq {α β:Type} {F:α->β->Prop}:∀ {l₁:List α} {l₂:List β},Paired F l₁ l₂->∀ (j:Nat) (h1:j < l₁.length) (h2:j < l₂.length),F l₁[j] l₂[j]
 | _,_,.cons r _,0,_,_=>r
 | _,_,.cons _ t,j + 1,h1,h2=>qdq t j (by simpa using h1) (by simpa using h2)
variable {X:Cx}
end
structure Fn (P:Program) (w:World) (K:PySem.W.Frag) (mg:Str->Option Value) (base:Heap) (k:Nat) (x:Str) (ps:List Str) (sp:Sp):Prop where
 ex:∃ f fd,FnOk P w K mg base CX0 k f fd ps sp/\mg x=some (.ref f)/\PySem.W.keepIn K (.ref f)=true/\Binds K fd ps []
section
variable {X:Cx} {k j:Nat} {x:Str} {ps:List Str} {sp:Sp} {e:Expr} {es:List Expr} {t:TA} {p pos:Pos}
theorem qa3 (c:Fn X.prog X.w X.K X.mg X.base k x ps sp) (hr:Room j X.A) (hj:k<=j) (hg:Gl X x) (ha:PA X (e::es) t) (hdb:(x == ("__debug__":Str))=false:=by decide)
  (he:starEach (e::es) X.env=(false,eval e X.env)::starEach es X.env:=by rfl) (hpl:(backTo pos (starEach es X.env)).any (·.1)=false:=by rfl) :
  PE X (.Call (.Name x p) (e::es) [] pos) (qgg sp [] E0 t):=by
 obtain ⟨f,fd,F,hm,hk,hb⟩:=c.ex
 exact pe_call F (hr.mono hj) hg hm hk hb .nil pass0 ha hdb he hpl
end
end L2
namespace L2
open PySem PySem.Spec PyProof.Rows
section
variable {X:Cx} {pins:List (Addr × Obj)} {σ:St} {H:Hp} {s:Shared} {h':Heap}
theorem Inv.turnedL {t':Nat} {ch:List Addr} (I:Inv X pins σ H s) (k:∀ b o,b ∉ ch->s.heap.get? b=some o->h'.get? b=some o) (hf:∀ b ∈ ch,qlm X pins H b):Inv X pins σ H { s with heap:=h',toks:=t' }:=by
 have nit:∀ b u,H b=some u->b ∉ ch:=fun b u e z=>by rw [(hf b z).1] at e;cases e
 have nL:X.env.locals ∉ ch:=fun z=>(hf _ z).2.1 rfl
 refine I.step (g':=s.gens) (d':=s.drawn) (ch:=ch) (fun b hb=>?_) (fun b o _ _ hc e _=>k b o hc e) (fun b o _ _ hc e _=>⟨o.slots,k b o hc e⟩) (fun _ _ _ _ n=>n)
  (fun b o hc e=>⟨o,k b o hc e⟩) (fun _ _ e=>e) (fun _ _ _ e=>e) (fun b ps e=>⟨#[],by rw [e];simp⟩) (fun m hm=>?_) (fun b u e=>?_) I.bare
 ·obtain ⟨f0,f1,f2,f3,f4,f5⟩:=hf b hb
  exact ⟨f3,f1,f4,f5⟩
 ·obtain ⟨o,es,ep,ho,r⟩:=hm
  exact ⟨o,es,ep,k _ o nL ho,r⟩
 ·refine (I.hok b u e).stay (fun c v hc q=>k c v ?_ q) (fun _ q=>q) fun _ _ q=>q
  rcases hc with z | z
  ·rw [z];exact nit b u e
  ·exact nit c _ z
theorem Inv.track {p:Addr} {o:HO} (I:Inv X pins σ H s) (hp:X.s₀.heap.objs.size<=p) (hn:H p=none) (nL:p ≠ X.env.locals) (nC:∀ x c,X.env.cells.lookup x=some c->c ≠ p) (nP:∀ q ∈ X.pn++pins,q.1 ≠ p)
  (new:ObjOk X.prog X.w (upd H p o) s.heap p o):Inv X pins σ (upd H p o) s:=by
 refine ⟨I.ok,I.os,I.bare,⟨I.base.keep,I.base.slot,fun b ob e n hx=>?_,I.base.there,fun b xs e=>?_,fun b ob u e=>?_,fun b ps e=>?_⟩,I.loc,I.cell,?_,fun x c e=>?_,fun q hq=>?_,fun b u e=>?_,I.len⟩
 ·rw [qam (Nat.ne_of_lt (Nat.lt_of_lt_of_le (Heap.lt_size e) hp))]
  exact I.base.free b ob e n hx
 ·have z:=I.base.tups b xs e
  rw [qam (qai z hn)]
  exact z
 ·have z:=I.base.frzs b ob u e
  rw [qam (qai z hn)]
  exact z
 ·obtain ⟨mo,z⟩:=I.base.tbls b ps e
  exact ⟨mo,by rw [qam (qai z hn)];exact z⟩
 ·rw [qam (Ne.symm nL)];exact I.free
 ·rw [qam (nC x c e)];exact I.freeC x c e
 ·obtain ⟨a1,a2,a3⟩:=I.pin q hq
  exact ⟨a1,by rw [qam (nP q hq)];exact a2,a3⟩
 ·by_cases hb:b=p
  ·subst hb
   rw [qan] at e
   cases e
   exact new
  ·rw [qam hb] at e
   exact (I.hok b u e).stay (fun c v _ q=>q) (fun c q=>by rw [qam (qai q hn)];exact q) fun c xs q=>by rw [qam (qai q hn)];exact q
theorem Inv.seq_ne {a b:Addr} {xs:List V} (I:Inv X pins σ H s) (hq:SqL X.K H a xs) (hf:qlm X pins H b):a ≠ b:=by
 rintro rfl
 rcases hq with (h | ⟨o,h⟩) | ⟨o,its,n,hk,_⟩
 ·rw [hf.1] at h;cases h
 ·rw [hf.1] at h;cases h
 ·have e:=I.ok.mod.kin a o hk
  rcases hf.2.2.2.1 with z | z
  ·exact I.ok.noex a o e z
  ·exact absurd (Nat.lt_of_lt_of_le (Heap.lt_size e) (Nat.le_trans I.ok.bsz z)) (Nat.lt_irrefl _)
end
def Ite (K:PySem.W.Frag) (a:Addr):It :=
 ⟨fun i H=>∃ xs x,SqL K H a xs/\xs[i]?=some x,fun i H x H'=>∃ p y,H p=none/\x = .ref p/\H'=upd H p (.tup [.int i,y])/\∀ xs,SqL K H a xs->xs[i]?=some y,fun i H=>∃ xs,SqL K H a xs/\xs.length<=i⟩
theorem qus {P:Program} {w:World} {K:PySem.W.Frag} {elts:List Expr} {x1:Nat} {tp:Pos} (a e it:Addr) (hne:e ≠ it):Turn P w K (.Tuple elts x1 tp) (Ite K a) [e,it] e (fun i h=>(∃ old,IsEnum h e it ((i:Nat):Int) old)/\h.IsListIter it a i) where
 mem:=by simp
 obj:=fun i h st b hb=>by
  obtain ⟨⟨old,he⟩,hit⟩:=st
  rcases List.mem_cons.mp hb with rfl | hb
  ·exact ⟨_,he,fun v z=>by
    have z':Data.fields _=Data.cell v:=z
    cases z'⟩
  ·have eb:b=it:=by simpa using hb
   subst eb
   obtain ⟨o,e1,c,d⟩:=hit
   exact ⟨o,e1,fun v z=>by rw [d] at z;cases z⟩
 keep:=fun i h h' st k=>by
  obtain ⟨⟨old,he⟩,hit⟩:=st
  exact ⟨⟨old,k e (by simp) _ he⟩,hit.at fun o q=>k it (by simp) o q⟩
 item:=by
  intro X hP hw hK hc i pins s σ H E I hf st hg
  subst hP hw hK
  obtain ⟨⟨old,he⟩,hit⟩:=st
  obtain ⟨xs,x,hq,hx⟩:=hg
  obtain ⟨its,rv,p,hz⟩:=I.list hq
  obtain ⟨u,hu,ru⟩:=rv.get hx
  have fz:qlm X pins H s.heap.objs.size:=I.fpOk (Nat.le_refl _) (I.hok.fresh (Nat.le_refl _))
  have lte:e < s.heap.objs.size:=Heap.lt_size he
  have lti:it < s.heap.objs.size:=by obtain ⟨o,q,_⟩:=hit;exact Heap.lt_size q
  refine wpAny_pyNext_enum_item he hit p.isList (x:=u) (by simpa using hu) hne fun h1 heo hit1 ht1 hz1 hk1=>⟨_,rfl,?_⟩
  refine wpAny_letOwnedTupleGo_enum heo fun h2 he2 hs2=>?_
  have hs2':Heap.SameBut e h1 h2:=hs2
  have I2:Inv X pins σ H { s with heap:=h2,toks:=s.toks + 1 }:=I.turnedL (ch:=[e,it]) (fun b o hb q=>by
   have n1:b ≠ e:=fun z=>hb (by rw [z];simp)
   have n2:b ≠ it:=fun z=>hb (by rw [z];simp)
   exact hs2'.extBut b o n1 (hk1 b o n1 n2 q)) hf
  obtain ⟨f0,f1,f2,f3,f4,f5⟩:=fz
  have tup:h2.get? s.heap.objs.size=some { cls:= .type "tuple",data:= .seq #[.int i s.toks,u] }:=hs2'.extBut _ _ (Ne.symm (Nat.ne_of_lt lte)) ht1
  refine ⟨.ref s.heap.objs.size,upd H s.heap.objs.size (.tup [.int i,x]),I2.track I.sz f0 f1 f4 f5 ?_,rfl,⟨s.heap.objs.size,x,f0,rfl,rfl,fun ys hy=>by rw [I.list_inj hy hq];exact hx⟩,⟨⟨u,?_⟩,?_⟩,fun b hb=>?_⟩
  ·exact ⟨by show 2<=sizeLine;decide,[.int i s.toks,u],.cons ⟨_,rfl⟩ (.cons ru .nil),⟨_,tup,rfl,_,rfl⟩⟩
  ·have ei:(((i + 1:Nat):Int))=(i:Int) + 1:=by omega
   rw [ei]
   exact he2
  ·exact hit1.at fun o q=>hs2'.extBut it o (Ne.symm hne) q
  ·have nb:b ≠ s.heap.objs.size:=by
    rcases List.mem_cons.mp hb with rfl | hb
    ·exact Nat.ne_of_lt lte
    ·have eb:b=it:=by simpa using hb
     rw [eb];exact Nat.ne_of_lt lti
   rw [qam nb]
   exact (hf b hb).1
 done:=by
  intro X hP hw hK hc i pins s σ H E I hf st hg
  subst hP hw hK
  obtain ⟨⟨old,he⟩,hit⟩:=st
  obtain ⟨xs,hq,hx⟩:=hg
  obtain ⟨its,rv,p,hz⟩:=I.list hq
  have hl:=rv.length
  exact wpAny_pyNext_enum_end (I.ok.hd hc) he hit p.isList (by simp;omega) fun h1 eb=>⟨rfl,I.turnedL (t':=s.toks) (ch:=[e,it]) (fun b o hb q=>eb b o (fun z=>hb (by rw [z];simp)) q) hf⟩
 self:=fun _ _ _ _ _ st h=>by
  obtain ⟨⟨old,he⟩,hit⟩:=st
  exact wpAny_pyIter_enum he h
section
variable {X:Cx} {elts:List Expr} {x1:Nat} {tp:Pos}
def iEnum (K:PySem.W.Frag) (ta:TA):TI:=fun σ H R=>ta σ H fun vs H1=>∃ a,vs=[.ref a]/\(∃ xs,SqL K H1 a xs)/\R (Ite K a) H1
theorem pi_enum {a:Expr} {ta:TA} {p pos:Pos} (hg:Gl X "enumerate") (hm:X.mg "enumerate"=none) (ha:PA X [a] ta) (hs:starEach [a] X.env=[(false,eval a X.env)]:=by rfl):PI X (.Tuple elts x1 tp) (.Call (.Name "enumerate" p) [a] [] pos) (iEnum X.K ta):=by
 intro pins s σ H R I h
 refine Call_ (qke I hg hm qkt (PyProof.Rows.callWith_type1 (thn (ha pos pins s σ H _ I h) fun us s1 ⟨vs,H1,I1,r1,q1⟩=>?_) hs rfl))
 obtain ⟨a,e,⟨xs,hq⟩,q⟩:=q1
 subst e
 cases r1 with
 | cons r rr =>
  cases rr
  cases r
  obtain ⟨its,rv,p,hz⟩:=I1.list hq
  refine call_enumerate_list p.isList fun h' he hit hsz hk=>?_
  refine wpAny_pyIter_enum he ?_
  refine ⟨s1.heap.objs.size + 1,[s1.heap.objs.size + 1,s1.heap.objs.size],_,_,H1,rfl,I1.kept (t':=s1.toks) hk,qus a (s1.heap.objs.size + 1) s1.heap.objs.size (Nat.ne_of_gt (Nat.lt_succ_self _)),⟨⟨_,he⟩,hit⟩,fun b hb=>?_,q⟩
  rcases List.mem_cons.mp hb with rfl | hb
  ·exact I1.fpOk (Nat.le_succ _) (I1.hok.fresh (Nat.le_succ _))
  ·have eb:b=s1.heap.objs.size:=by simpa using hb
   subst eb
   exact I1.fpOk (Nat.le_refl _) (I1.hok.fresh (Nat.le_refl _))
end
def Itz (K:PySem.W.Frag) (a b:Addr):It :=
  ⟨fun i H=>∃ xs ys x y,SqL K H a xs/\SqL K H b ys/\xs[i]?=some x/\ys[i]?=some y,
   fun i H z H'=>∃ p x y,H p=none/\z = .ref p/\H'=upd H p (.tup [x,y])/\(∀ xs,SqL K H a xs->xs[i]?=some x)/\∀ ys,SqL K H b ys->ys[i]?=some y,
   fun i H=>∃ xs ys,SqL K H a xs/\SqL K H b ys/\(xs.length<=i ∨ ys.length<=i)⟩
theorem turn_zip {P:Program} {w:World} {K:PySem.W.Frag} {elts:List Expr} {x1:Nat} {tp:Pos} (a b z TI TO i1 i2:Addr) (d:[z,TI,TO,i1,i2].Nodup):Turn P w K (.Tuple elts x1 tp) (Itz K a b) [z,TI,TO,i1,i2] z
  (fun i h=>IsZip h z TI TO .none/\IsPair h TI (.ref i1) (.ref i2)/\(∃ u v,IsPair h TO u v)/\h.IsListIter i1 a i/\h.IsListIter i2 b i) where
 mem:=by simp
 obj:=fun i h st c hc=>by
  obtain ⟨hz,hTI,⟨u,v,hTO⟩,h1,h2⟩:=st
  have hc':c=z ∨ c=TI ∨ c=TO ∨ c=i1 ∨ c=i2:=by simpa using hc
  rcases hc' with rfl | rfl | rfl | rfl | rfl
  ·exact ⟨_,hz,fun v q=>by
    have q':Data.fields _=Data.cell v:=q
    cases q'⟩
  ·exact ⟨_,hTI,fun v q=>by
    have q':Data.seq _ _=Data.cell v:=q
    cases q'⟩
  ·exact ⟨_,hTO,fun v q=>by
    have q':Data.seq _ _=Data.cell v:=q
    cases q'⟩
  ·obtain ⟨o,e1,cc,dd⟩:=h1
   exact ⟨o,e1,fun v q=>by rw [dd] at q;cases q⟩
  ·obtain ⟨o,e1,cc,dd⟩:=h2
   exact ⟨o,e1,fun v q=>by rw [dd] at q;cases q⟩
 keep:=fun i h h' st k=>by
  obtain ⟨hz,hTI,⟨u,v,hTO⟩,h1,h2⟩:=st
  exact ⟨k z (by simp) _ hz,k TI (by simp) _ hTI,⟨u,v,k TO (by simp) _ hTO⟩,h1.at fun o e=>k i1 (by simp) o e,h2.at fun o e=>k i2 (by simp) o e⟩
 item:=by
  intro X hP hw hK hc i pins s σ H E I hf st hg
  subst hP hw hK
  obtain ⟨hz,hTI,⟨u0,v0,hTO⟩,h1,h2⟩:=st
  obtain ⟨xs,ys,x,y,hqa,hqb,hx,hy⟩:=hg
  obtain ⟨its,rv,p,_⟩:=I.list hqa
  obtain ⟨jts,rw',p',_⟩:=I.list hqb
  obtain ⟨u,hu,ru⟩:=rv.get hx
  obtain ⟨v,hv,rv'⟩:=rw'.get hy
  simp only [List.nodup_cons,List.mem_cons,not_or,List.not_mem_nil,not_false_eq_true,List.nodup_nil,and_true] at d
  obtain ⟨⟨d1,d2,d3,d4⟩,⟨d5,d6,d7⟩,⟨d8,d9⟩,d10⟩:=d
  have ap:ZipApart z TI TO i1 i2 a b:=⟨Ne.symm d1,Ne.symm d2,Ne.symm d3,Ne.symm d4,d5,d6,d7,d8,d9,d10,
   I.seq_ne hqa (hf z (by simp)),I.seq_ne hqa (hf TO (by simp)),I.seq_ne hqa (hf i1 (by simp)),I.seq_ne hqa (hf i2 (by simp)),
   I.seq_ne hqb (hf z (by simp)),I.seq_ne hqb (hf TO (by simp)),I.seq_ne hqb (hf i1 (by simp)),I.seq_ne hqb (hf i2 (by simp))⟩
  have fz:qlm X pins H s.heap.objs.size:=I.fpOk (Nat.le_refl _) (I.hok.fresh (Nat.le_refl _))
  have lt:∀ c ∈ [z,TI,TO,i1,i2],c < s.heap.objs.size:=fun c hc=>by
   have hc':c=z ∨ c=TI ∨ c=TO ∨ c=i1 ∨ c=i2:=by simpa using hc
   rcases hc' with rfl | rfl | rfl | rfl | rfl
   ·exact Heap.lt_size hz
   ·exact Heap.lt_size hTI
   ·exact Heap.lt_size hTO
   ·obtain ⟨o,q,_⟩:=h1;exact Heap.lt_size q
   ·obtain ⟨o,q,_⟩:=h2;exact Heap.lt_size q
  refine wpAny_pyNext_zip_item ap hz hTI hTO h1 h2 p.isList p'.isList (x:=u) (y:=v) (by simpa using hu) (by simpa using hv) fun h3 hz3 hTO3 h13 h23 hp3 hs3 hk3=>⟨_,rfl,?_⟩
  refine wpAny_letOwnedTupleGo_zip hz3 fun h4 hz4 hs4=>?_
  have hs4':Heap.SameBut z h3 h4:=hs4
  have I4:Inv X pins σ H { s with heap:=h4,toks:=s.toks }:=I.turnedL (ch:=[z,TI,TO,i1,i2]) (fun c o hc q=>by
   have n1:c ≠ z:=fun e=>hc (by rw [e];simp)
   have n2:c ≠ TO:=fun e=>hc (by rw [e];simp)
   have n3:c ≠ i1:=fun e=>hc (by rw [e];simp)
   have n4:c ≠ i2:=fun e=>hc (by rw [e];simp)
   exact hs4'.extBut c o n1 (hk3 c o n1 n2 n3 n4 q)) hf
  obtain ⟨f0,f1,f2,f3,f4,f5⟩:=fz
  have tup:h4.get? s.heap.objs.size=some { cls:= .type "tuple",data:= .seq #[u,v] }:=hs4'.extBut _ _ (Ne.symm (Nat.ne_of_lt (lt z (by simp)))) hp3
  refine ⟨.ref s.heap.objs.size,upd H s.heap.objs.size (.tup [x,y]),I4.track I.sz f0 f1 f4 f5 ?_,rfl,⟨s.heap.objs.size,x,y,f0,rfl,rfl,(fun zs hy'=>by rw [I.list_inj hy' hqa];exact hx),fun zs hy'=>by rw [I.list_inj hy' hqb];exact hy⟩,⟨hz4,?_,⟨u,v,?_⟩,?_,?_⟩,fun c hc=>?_⟩
  ·exact ⟨by show 2<=sizeLine;decide,[u,v],.cons ru (.cons rv' .nil),⟨_,tup,rfl,_,rfl⟩⟩
  ·exact hs4'.extBut _ _ (Ne.symm d1) (hk3 _ _ (Ne.symm d1) d5 d6 d7 hTI)
  ·exact hs4'.extBut _ _ (Ne.symm d2) hTO3
  ·exact h13.at fun o q=>hs4'.extBut i1 o (Ne.symm d3) q
  ·exact h23.at fun o q=>hs4'.extBut i2 o (Ne.symm d4) q
  ·rw [qam (Nat.ne_of_lt (lt c hc))]
   exact (hf c hc).1
 done:=by
  intro X hP hw hK hc i pins s σ H E I hf st hg
  subst hP hw hK
  obtain ⟨hz,hTI,⟨u0,v0,hTO⟩,h1,h2⟩:=st
  obtain ⟨xs,ys,hqa,hqb,hend⟩:=hg
  obtain ⟨its,rv,p,_⟩:=I.list hqa
  obtain ⟨jts,rw',p',_⟩:=I.list hqb
  have l1:=rv.length
  have l2:=rw'.length
  simp only [List.nodup_cons,List.mem_cons,not_or,List.not_mem_nil,not_false_eq_true,List.nodup_nil,and_true] at d
  obtain ⟨⟨d1,d2,d3,d4⟩,⟨d5,d6,d7⟩,⟨d8,d9⟩,d10⟩:=d
  have ap:ZipApart z TI TO i1 i2 a b:=⟨Ne.symm d1,Ne.symm d2,Ne.symm d3,Ne.symm d4,d5,d6,d7,d8,d9,d10,
   I.seq_ne hqa (hf z (by simp)),I.seq_ne hqa (hf TO (by simp)),I.seq_ne hqa (hf i1 (by simp)),I.seq_ne hqa (hf i2 (by simp)),
   I.seq_ne hqb (hf z (by simp)),I.seq_ne hqb (hf TO (by simp)),I.seq_ne hqb (hf i1 (by simp)),I.seq_ne hqb (hf i2 (by simp))⟩
  refine wpAny_pyNext_zip_end (I.ok.hd hc) ap hz hTI hTO h1 h2 p.isList p'.isList (hend.elim (fun q=> .inl (by simp;omega)) (fun q=> .inr (by simp;omega))) fun h3 hk3=>⟨rfl,I.turnedL (t':=s.toks) (ch:=[z,TI,TO,i1,i2]) (fun c o hc q=>?_) hf⟩
  exact hk3 c o (fun e=>hc (by rw [e];simp)) (fun e=>hc (by rw [e];simp)) (fun e=>hc (by rw [e];simp)) (fun e=>hc (by rw [e];simp)) q
 self:=fun _ _ _ _ _ st h=>wpAny_pyIter_zip st.1 h
section
variable {X:Cx} {elts:List Expr} {x1:Nat} {tp:Pos}
def iZip (K:PySem.W.Frag) (ta:TA):TI:=fun σ H R=>ta σ H fun vs H1=>∃ a b,vs=[.ref a,.ref b]/\(∃ xs,SqL K H1 a xs)/\(∃ ys,SqL K H1 b ys)/\R (Itz K a b) H1
theorem pi_zip {a b:Expr} {ta:TA} {p pos:Pos} (hg:Gl X "zip") (hm:X.mg "zip"=none) (ha:PA X [a,b] ta) (hs:starEach [a,b] X.env=[(false,eval a X.env),(false,eval b X.env)]:=by rfl) (hs2:starEach [b] X.env=[(false,eval b X.env)]:=by rfl) :
  PI X (.Tuple elts x1 tp) (.Call (.Name "zip" p) [a,b] [] pos) (iZip X.K ta):=by
 intro pins s σ H R I h
 refine Call_ (qke I hg hm qxq (PyProof.Rows.callWith_type1 (thn (ha pos pins s σ H _ I h) fun us s1 ⟨vs,H1,I1,r1,q1⟩=>?_) (by rw [hs,hs2]) (by rw [hs2];rfl)))
 obtain ⟨a,b,e,⟨xs,hq⟩,⟨ys,hq'⟩,q⟩:=q1
 subst e
 cases r1 with
 | cons r rr =>
  cases rr with
  | cons r' rr =>
   cases rr
   cases r
   cases r'
   obtain ⟨its,rv,p,hz⟩:=I1.list hq
   obtain ⟨jts,rw',p',_⟩:=I1.list hq'
   refine call_zip_2 p.isList p'.isList fun h' g1 g2 g3 g4 g5 hsz hk=>?_
   refine wpAny_pyIter_zip g1 ?_
   refine ⟨s1.heap.objs.size + 4,[s1.heap.objs.size + 4,s1.heap.objs.size + 2,s1.heap.objs.size + 3,s1.heap.objs.size,s1.heap.objs.size + 1],_,_,H1,rfl,I1.kept (t':=s1.toks) hk,turn_zip a b _ _ _ _ _ ?_,⟨g1,g2,⟨_,_,g3⟩,g4,g5⟩,fun c hc=>?_,q⟩
   ·simp only [List.nodup_cons,List.mem_cons,not_or,List.not_mem_nil,not_false_eq_true,List.nodup_nil,and_true]
    refine ⟨⟨?_,?_,?_,?_⟩,⟨?_,?_,?_⟩,⟨?_,?_⟩,?_⟩ <;> (show ¬ (_:Nat)=_;omega)
   ·have hc':s1.heap.objs.size<=c:=by
     have hc2:c=s1.heap.objs.size + 4 ∨ c=s1.heap.objs.size + 2 ∨ c=s1.heap.objs.size + 3 ∨ c=s1.heap.objs.size ∨ c=s1.heap.objs.size + 1:=by simpa using hc
     rcases hc2 with e | e | e | e | e <;> (rw [e];first | exact Nat.le_refl _ | exact Nat.le_add_right _ _)
    exact I1.fpOk hc' (I1.hok.fresh hc')
end
section
variable {g:TG} {tt:TT} {te:TE} {Q:VK} {H:Hp} {σ0:St} {K:PySem.W.Frag}
end
end L2
namespace L2
open PySem PySem.Spec PyProof.Rows
section
variable {X:Cx} {K:PySem.W.Frag}
theorem qja (h:X.K=K):IxR X (rIxL K):=by subst h;exact ix_list
theorem qmy (h:X.K=K):SlR X (rSlL K):=by subst h;exact sl_list
theorem qhp (h:X.K=K):CallR X (.builtin "len") (fun xs H Q=>∃ p ys,xs=[.ref p]/\(SqL K H p ys ∨ SqT K H p ys)/\Q (.int ys.length) H):=by subst h;exact qpg
theorem qxk (hc:X.calm=true) (h:X.K=K):CallR X (.builtin "sum") (fun xs H Q=>∃ (a:Addr) (ns:List Int),xs=[.ref a]/\SqL K H a (ns.map V.int)/\Q (.int ns.sum) H):=by subst h;exact call_sum hc
theorem qnb {es:List Expr} {k:Nat} {t:TGs} {n:Nat} {pos:Pos} (hc:X.calm=true) (hK:X.K=K) (h:PGs X es t)
  (hn:(assignEach es X.env).length=n:=by rfl) (hst:(assignEach es X.env).findIdx? (·.1)=none:=by rfl):PG X (.Tuple es k pos) (gTup K n t):=by subst hK;exact pg_tup hc h hn hst
theorem qbg {tg l:Expr} {tl:TE} (hK:X.K=K) (hl:PE X l tl):PI X tg l (iList K tl):=by subst hK;exact pi_list hl
theorem qrt {elts:List Expr} {x1:Nat} {tp:Pos} {a:Expr} {ta:TA} {p pos:Pos} (hK:X.K=K) (hg:Gl X "enumerate") (hm:X.mg "enumerate"=none) (ha:PA X [a] ta) (hs:starEach [a] X.env=[(false,eval a X.env)]:=by rfl):PI X (.Tuple elts x1 tp) (.Call (.Name "enumerate" p) [a] [] pos) (iEnum K ta):=by subst hK;exact pi_enum hg hm ha hs
theorem pi_zipK {elts:List Expr} {x1:Nat} {tp:Pos} {a b:Expr} {ta:TA} {p pos:Pos} (hK:X.K=K) (hg:Gl X "zip") (hm:X.mg "zip"=none) (ha:PA X [a,b] ta) (hs:starEach [a,b] X.env=[(false,eval a X.env),(false,eval b X.env)]:=by rfl) (hs2:starEach [b] X.env=[(false,eval b X.env)]:=by rfl) :
  PI X (.Tuple elts x1 tp) (.Call (.Name "zip" p) [a,b] [] pos) (iZip K ta):=by subst hK;exact pi_zip hg hm ha hs hs2
end
end L2
namespace L2
open PySem PySem.Spec PyProof.Rows
section
variable {X:Cx}
end
end L2
namespace L2
open PySem PySem.Spec PyProof.Rows
section
variable {X:Cx}
theorem qvy:OpR X (compareOp .LtE) (fun x y H Q=>∃ i j,x = .str i/\y = .str j/\Q (.bl (!decide (j.cps.toList < i.cps.toList))) H):=by
 intro pins s σ H x y v u Q I rx ry h
 obtain ⟨i,j,rfl,rfl,q⟩:=h
 obtain ⟨t,rfl⟩:=rx
 obtain ⟨t',rfl⟩:=ry
 exact PySem.P.le_str (qww I q rfl)
def ItS (z:Str):It:=⟨fun i _=>i < z.cps.size,fun i H x H'=>H'=H/\∃ c,z.cps[i]?=some c/\x = .str ⟨#[c]⟩,fun i _=>i=z.cps.size⟩
theorem qri {P:Program} {w:World} {K:PySem.W.Frag} {x:Str} {px:Pos} (it:Addr) (ty:String) (z:Str) (t:Tok)
  (W:∀ A':Around,A'.handled=none->Walks P w A' it [it] [it] z.cps.size (SignAt z) (fun i h=>h.IsStrIter it ty z t i))
  (sf:∀ (A:Around) (i:Nat) (s:Shared) (Q:Value->Shared->Prop) (E:Value->Shared->Prop),s.heap.IsStrIter it ty z t i->Q (.ref it) s->wpAny (model P w) A (pyIter (.ref it)) Q E s) :
  Turn P w K (.Name x px) (ItS z) [it] it (fun i h=>h.IsStrIter it ty z t i) where
 mem:=by simp
 obj:=fun i h st b hb=>by
  have e:b=it:=by simpa using hb
  subst e
  obtain ⟨o,e,c,d⟩:=st
  exact ⟨o,e,fun v q=>by rw [d] at q;cases q⟩
 keep:=fun i h h' st k=>by
  obtain ⟨o,e,r⟩:=st
  exact ⟨o,k it (by simp) o e,r⟩
 item:=by
  intro X hP hw hK hc i pins s σ H E I hf st hg
  subst hP hw hK
  obtain ⟨f0,f1,f2,f3,f4,f5⟩:=hf it (by simp)
  refine (W X.A (I.ok.hd hc)).item i s _ _ hg st fun v h' tk hv st' kk=>?_
  obtain ⟨c,u,e1,rfl⟩:=hv
  have I1:Inv X pins σ H { s with heap:=h',toks:=tk }:=I.turned (fun b o hb e=>kk b o (by simpa using hb) e) f0 f1 f3 f4 f5
  refine ⟨_,rfl,?_⟩
  show wpAny _ _ (pure ()) _ _ _
  exact wpAny_pure ⟨.str ⟨#[c]⟩,H,I1,⟨u,rfl⟩,⟨rfl,c,e1,rfl⟩,st',fun b hb=>(hf b hb).1⟩
 done:=by
  intro X hP hw hK hc i pins s σ H E I hf st hg
  subst hP hw hK
  obtain ⟨f0,f1,f2,f3,f4,f5⟩:=hf it (by simp)
  have hg':i=z.cps.size:=hg
  subst hg'
  exact (W X.A (I.ok.hd hc)).done s _ _ st fun h' tk kk=>⟨rfl,I.turned (fun b o hb e=>kk b o (by simpa using hb) e) f0 f1 f3 f4 f5⟩
 self:=sf
def iStr (tl:TE):TI:=fun σ H R=>tl σ H fun x H1=>∃ z,x = .str z/\R (ItS z) H1
theorem pi_str {x:Str} {px:Pos} {l:Expr} {tl:TE} (hl:PE X l tl):PI X (.Name x px) l (iStr tl):=by
 intro pins s σ H R I h
 refine thn (hl pins s σ H _ I h) fun v s1 ⟨x,H1,I1,r1,q1⟩=>?_
 obtain ⟨z,e,q⟩:=q1
 subst e
 obtain ⟨t,rfl⟩:=r1
 have fp:∀ b ∈ [s1.heap.objs.size],qlm X pins H1 b:=fun b hb=>by
  have e:b=s1.heap.objs.size:=by simpa using hb
  subst e
  exact I1.fpOk (Nat.le_refl _) (I1.hok.fresh (Nat.le_refl _))
 cases ha:z.cps.all (· < 128)
 ·refine wpAny_pyIter_wide ha ?_
  exact ⟨s1.heap.objs.size,[s1.heap.objs.size],_,_,H1,rfl,I1.kept (t':=s1.toks) fun b o e=>Heap.get?_push_of_some _ e,qri _ "str_iterator" z t (fun A' hA=>Walks.strWide hA _ z t) (fun _ _ _ _ _ st h=>wpAny_pyIter_striter_wide st h),⟨_,Heap.get?_push_size _ rfl,rfl,rfl⟩,fp,q⟩
 ·refine wpAny_pyIter_ascii ha ?_
  exact ⟨s1.heap.objs.size,[s1.heap.objs.size],_,_,H1,rfl,I1.kept (t':=s1.toks) fun b o e=>Heap.get?_push_of_some _ e,qri _ "str_ascii_iterator" z t (fun A' hA=>Walks.strAscii hA _ z t) (fun _ _ _ _ _ st h=>wpAny_pyIter_striter_ascii st h),⟨_,Heap.get?_push_size _ rfl,rfl,rfl⟩,fp,q⟩
def tSlS (te:TE) (tl th:TO):TE:=fun σ H Q=>te σ H fun x H1=>tl σ H1 fun l H2=>th σ H2 fun u H3=>∃ z,x = .str z/\z.length<=sizeLine/\((l=none/\∃ j,u=some j) ∨ (u=none/\∃ i,l=some i))/\Q (.str (Txt.slice z l u)) H3
end
end L2
namespace L2
open PySem PySem.Spec PyProof.Rows
section
variable {X:Cx} {K:PySem.W.Frag}
def rCatL (K:PySem.W.Frag):R2:=fun x y H Q=>∃ l b xs zs,x = .ref l/\y = .ref b/\SqL K H l xs/\SqL K H b zs/\xs.length + zs.length<=sizeLine/\∀ p,H p=none->Q (.ref p) (upd H p (.lst (xs++zs)))
theorem op_catL:OpR X (binaryOp .Add) (rCatL X.K):=by
 intro pins s σ H x y v u Q I rx ry h
 obtain ⟨l,b,xs,zs,rfl,rfl,hH,hB,hz,q⟩:=h
 cases rx
 cases ry
 obtain ⟨its,r,⟨⟨cls,dd,data,sl⟩,n,e,h1,h2,h3⟩,_⟩:=I.list hH
 obtain ⟨its2,r2,⟨⟨cls2,dd2,data2,sl2⟩,n2,e2,k1,k2,k3⟩,_⟩:=I.list hB
 dsimp only at h1 h2 h3 k1 k2 k3
 subst h1 h2 h3 k1 k2 k3
 have hl:=r.length
 have hl2:=r2.length
 have hsz:its.toArray.size + its2.toArray.size<=sizeLine:=by rw [List.size_toArray,List.size_toArray];omega
 refine concat_meets ⟨_,e,rfl⟩ ⟨_,e2,rfl⟩ noFill_list_add seq_list_add PySem.F.slot_list_add PySem.F.entry_list_add (PySem.F.args_list_add_2 _ _) (list_addW l b its.toArray its2.toArray n n2 none none sl sl2 hsz) ⟨e,e2,?_⟩
 have ea:its.toArray++its2.toArray=(its++its2).toArray:=by simp
 rw [ea]
 exact ⟨.ref _,_,I.lnew (t':=s.toks) (r.append r2) (by rw [List.length_append];omega),rfl,q _ I.fresh⟩
end
end L2
namespace L2
open PySem PySem.Spec PyProof.Rows
section
variable {P:Program} {w:World} {H H' H0:Hp} {h h' h0:Heap} {a:Addr} {o:HO}
end
section
variable {M:Model} {A:Around} {Er:Value->Shared->Prop} {s:Shared} {h0 base:Heap} {H:Hp} {P:Program} {w:World} {env:Env} {outer:List Env} {L e:Addr} {cls:Value} {Q:Unit->Shared->Prop}
end
section
variable {P:Program} {w:World} {K:PySem.W.Frag} {mg:Str->Option Value} {base:Heap} {N:List Str} {qual:Str} {scope:Scope} {f:Addr} {cd:Value} {A:Around} {outer:List Env} {s:Shared} {H:Hp} {E:XK}
end
section
variable {X:Cx} {k j:Nat} {x:Str} {ps:List Str} {sp:Sp} {e:Expr} {es:List Expr} {t:TA} {p pos:Pos} {E:XK}
end
end L2
namespace L2
open PySem PySem.Spec PyProof.Rows
section
variable {X:Cx} {x:Str} {C:Addr} {E:XK} {np cpos pos:Pos}
end
end L2
namespace L2
open PySem PySem.Spec PyProof.Rows
section
variable {X:Cx} {pins:List (Addr × Obj)} {σ:St} {H:Hp} {s:Shared} {W:Value->Shared->Prop} {b ea:Addr}
end
section
variable {X:Cx} {x n:Str} {i:Nat} {D0:Addr} {E:XK} {body suite:List Stmt} {b₀:Stmt} {tb:TS} {ts:Addr->Value->TS} {np hpos pos:Pos}
end
end L2
namespace L2
open PySem PySem.Spec PyProof.Rows PySem.W Builtin Builtin.ObjectAttr Builtin.Getset_descriptor
section
variable {prog:Program} {w:World} {A:Around} {K:PySem.W.Frag} {s:Shared} {ea C:Addr}
end
section
variable {X:Cx} {K:PySem.W.Frag} {ea C:Addr} {oe:Obj}
end
end L2
namespace L2
open PySem PySem.Spec PyProof.Rows PySem.SeqAt
section
variable {X:Cx} {pins:List (Addr × Obj)} {σ:St} {H:Hp} {s:Shared}
end
end L2
namespace L2
open PySem PySem.Spec PyProof.Rows
section
variable {X:Cx}
end
end L2
namespace L2
open PySem PySem.Spec PyProof.Rows PySem.SeqAt
def EqP (K:PySem.W.Frag) (H:Hp):Nat->V->V->Bool->Prop
 | 0,x,y,b=>qbn x=true/\qbn y=true/\b=eqV x y
 | n + 1,x,y,b=>(qbn x=true/\qbn y=true/\b=eqV x y) ∨
  (∃ (a c:Addr) (xs ys:List V),x = .ref a/\y = .ref c/\SqL K H a xs/\SqL K H c ys/\((xs.length ≠ ys.length/\b=false) ∨ (xs.length=ys.length/\∃ e:Nat->Bool,(∀ j (h1:j < xs.length) (h2:j < ys.length),EqP K H n xs[j] ys[j] (e j))/\b=(List.range xs.length).all e))) ∨
  (∃ (a c:Addr) (xs ys:List V),x = .ref a/\y = .ref c/\SqT K H a xs/\SqT K H c ys/\∃ e:Nat->Bool,(∀ j (h1:j < xs.length) (h2:j < ys.length),EqP K H n xs[j] ys[j] (e j))/\b=((List.range (min xs.length ys.length)).all e && xs.length == ys.length)) ∨
  (∃ (a c:Addr) (xs ys:List V),x = .ref a/\y = .ref c/\SqL K H a xs/\SqT K H c ys/\b=false) ∨
  (∃ (a c:Addr) (xs ys:List V),x = .ref a/\y = .ref c/\SqT K H a xs/\SqL K H c ys/\b=false) ∨
  (∃ (c:Addr) (ys:List V),qbn x=true/\y = .ref c/\(SqL K H c ys ∨ SqT K H c ys)/\b=false) ∨
  (∃ (a:Addr) (xs:List V),qbn y=true/\x = .ref a/\(SqL K H a xs ∨ SqT K H a xs)/\b=false)
theorem qje {x:V} (h:qbn x=true):eqV x x=true:=by
 cases x <;> first | rfl | exact beq_self_eq_true _ | cases h
theorem rcAt_V {A:Around} {s:Shared} {y x:V} {u v:Value} (ry:RelV y u) (rx:RelV x v) (fy:qbn y=true) (fx:qbn x=true):RcAt A s u v (eqV y x):=by
 cases y with
 | non =>
  cases ry
  cases x with
  | non=>cases rx;exact RcAt.none_none
  | bl b=>cases rx;exact RcAt.none_bool b
  | int b=>obtain ⟨t2,rfl⟩:=rx;exact RcAt.none_int b t2
  | str b=>obtain ⟨t2,rfl⟩:=rx;exact RcAt.none_str b t2
  | _=>exact absurd (show false=true from fx) Bool.false_ne_true
 | bl a =>
  cases ry
  cases x with
  | non=>cases rx;exact RcAt.bool_none a
  | bl b=>cases rx;exact RcAt.bool_bool a b
  | int b=>obtain ⟨t2,rfl⟩:=rx;exact RcAt.bool_int a b t2
  | str b=>obtain ⟨t2,rfl⟩:=rx;exact RcAt.bool_str a b t2
  | _=>exact absurd (show false=true from fx) Bool.false_ne_true
 | int a =>
  obtain ⟨t1,rfl⟩:=ry
  cases x with
  | non=>cases rx;exact RcAt.int_none a t1
  | bl b=>cases rx;exact RcAt.int_bool a t1 b
  | int b=>obtain ⟨t2,rfl⟩:=rx;exact RcAt.int_int a t1 b t2
  | str b=>obtain ⟨t2,rfl⟩:=rx;exact RcAt.int_str a t1 b t2
  | _=>exact absurd (show false=true from fx) Bool.false_ne_true
 | str a =>
  obtain ⟨t1,rfl⟩:=ry
  cases x with
  | non=>cases rx;exact RcAt.str_none a t1
  | bl b=>cases rx;exact RcAt.str_bool a t1 b
  | int b=>obtain ⟨t2,rfl⟩:=rx;exact RcAt.str_int a t1 b t2
  | str b=>obtain ⟨t2,rfl⟩:=rx;exact RcAt.str_str a t1 b t2
  | _=>exact absurd (show false=true from fx) Bool.false_ne_true
 | _=>exact absurd (show false=true from fy) Bool.false_ne_true
theorem qrq {A:Around} {s:Shared} {y x:V} {u v:Value} (ry:RelV y u) (rx:RelV x v) (fy:qbn y=true) (fx:qbn x=true):RcNeAt A s u v (!eqV y x):=by
 cases y with
 | non =>
  cases ry
  cases x with
  | non=>cases rx;exact RcNeAt.none_none
  | bl b=>cases rx;exact RcNeAt.none_bool b
  | int b=>obtain ⟨t2,rfl⟩:=rx;exact RcNeAt.none_int b t2
  | str b=>obtain ⟨t2,rfl⟩:=rx;exact RcNeAt.none_str b t2
  | _=>exact absurd (show false=true from fx) Bool.false_ne_true
 | bl a =>
  cases ry
  cases x with
  | non=>cases rx;exact RcNeAt.bool_none a
  | bl b=>cases rx;exact RcNeAt.bool_bool a b
  | int b=>obtain ⟨t2,rfl⟩:=rx;exact RcNeAt.bool_int a b t2
  | str b=>obtain ⟨t2,rfl⟩:=rx;exact RcNeAt.bool_str a b t2
  | _=>exact absurd (show false=true from fx) Bool.false_ne_true
 | int a =>
  obtain ⟨t1,rfl⟩:=ry
  cases x with
  | non=>cases rx;exact RcNeAt.int_none a t1
  | bl b=>cases rx;exact RcNeAt.int_bool a t1 b
  | int b=>obtain ⟨t2,rfl⟩:=rx;exact RcNeAt.int_int a t1 b t2
  | str b=>obtain ⟨t2,rfl⟩:=rx;exact RcNeAt.int_str a t1 b t2
  | _=>exact absurd (show false=true from fx) Bool.false_ne_true
 | str a =>
  obtain ⟨t1,rfl⟩:=ry
  cases x with
  | non=>cases rx;exact RcNeAt.str_none a t1
  | bl b=>cases rx;exact RcNeAt.str_bool a t1 b
  | int b=>obtain ⟨t2,rfl⟩:=rx;exact RcNeAt.str_int a t1 b t2
  | str b=>obtain ⟨t2,rfl⟩:=rx;exact RcNeAt.str_str a t1 b t2
  | _=>exact absurd (show false=true from fx) Bool.false_ne_true
 | _=>exact absurd (show false=true from fy) Bool.false_ne_true
theorem qty {A:Around} {s:Shared} {y:V} {u:Value} {l:Addr} {items:Array Value} (hl:s.heap.IsList l items) (hu:A.units < cLine) (ry:RelV y u) (fy:qbn y=true):EqAt A s u (.ref l) false:=by
 cases y with
 | non=>cases ry;exact EqAt.none_list hl hu
 | bl a=>cases ry;exact EqAt.bool_list a hl hu
 | int a=>obtain ⟨t1,rfl⟩:=ry;exact EqAt.int_list a t1 hl hu
 | str a=>obtain ⟨t1,rfl⟩:=ry;exact EqAt.str_list a t1 hl hu
 | _=>exact absurd (show false=true from fy) Bool.false_ne_true
theorem qtx {A:Around} {s:Shared} {y:V} {u:Value} {l:Addr} {items:Array Value} (hl:s.heap.IsList l items) (hu:A.units < cLine) (ry:RelV y u) (fy:qbn y=true):EqAt A s (.ref l) u false:=by
 cases y with
 | non=>cases ry;exact EqAt.list_none hl hu
 | bl a=>cases ry;exact EqAt.list_bool a hl hu
 | int a=>obtain ⟨t1,rfl⟩:=ry;exact EqAt.list_int a t1 hl hu
 | str a=>obtain ⟨t1,rfl⟩:=ry;exact EqAt.list_str a t1 hl hu
 | _=>exact absurd (show false=true from fy) Bool.false_ne_true
theorem qqy {A:Around} {s:Shared} {y:V} {u:Value} {l:Addr} {items:Array Value} (hl:s.heap.IsTuple l items) (hu:A.units < cLine) (ry:RelV y u) (fy:qbn y=true):EqAt A s u (.ref l) false:=by
 cases y with
 | non=>cases ry;exact EqAt.none_tuple hl hu
 | bl a=>cases ry;exact EqAt.bool_tuple a hl hu
 | int a=>obtain ⟨t1,rfl⟩:=ry;exact EqAt.int_tuple a t1 hl hu
 | str a=>obtain ⟨t1,rfl⟩:=ry;exact EqAt.str_tuple a t1 hl hu
 | _=>exact absurd (show false=true from fy) Bool.false_ne_true
theorem qqx {A:Around} {s:Shared} {y:V} {u:Value} {l:Addr} {items:Array Value} (hl:s.heap.IsTuple l items) (hu:A.units < cLine) (ry:RelV y u) (fy:qbn y=true):EqAt A s (.ref l) u false:=by
 cases y with
 | non=>cases ry;exact EqAt.tuple_none hl hu
 | bl a=>cases ry;exact EqAt.tuple_bool a hl hu
 | int a=>obtain ⟨t1,rfl⟩:=ry;exact EqAt.tuple_int a t1 hl hu
 | str a=>obtain ⟨t1,rfl⟩:=ry;exact EqAt.tuple_str a t1 hl hu
 | _=>exact absurd (show false=true from fy) Bool.false_ne_true
theorem qs4 {A:Around} {s:Shared} {y:V} {u:Value} {l:Addr} {items:Array Value} (hl:s.heap.IsList l items) (hu:A.units < cLine) (ry:RelV y u) (fy:qbn y=true):RcAt A s u (.ref l) false:=by
 cases y with
 | non=>cases ry;exact RcAt.none_list hl hu
 | bl a=>cases ry;exact RcAt.bool_list a hl hu
 | int a=>obtain ⟨t1,rfl⟩:=ry;exact RcAt.int_list a t1 hl hu
 | str a=>obtain ⟨t1,rfl⟩:=ry;exact RcAt.str_list a t1 hl hu
 | _=>exact absurd (show false=true from fy) Bool.false_ne_true
theorem qs3 {A:Around} {s:Shared} {y:V} {u:Value} {l:Addr} {items:Array Value} (hl:s.heap.IsList l items) (hu:A.units < cLine) (ry:RelV y u) (fy:qbn y=true):RcAt A s (.ref l) u false:=by
 cases y with
 | non=>cases ry;exact RcAt.list_none hl hu
 | bl a=>cases ry;exact RcAt.list_bool a hl hu
 | int a=>obtain ⟨t1,rfl⟩:=ry;exact RcAt.list_int a t1 hl hu
 | str a=>obtain ⟨t1,rfl⟩:=ry;exact RcAt.list_str a t1 hl hu
 | _=>exact absurd (show false=true from fy) Bool.false_ne_true
theorem qqa {A:Around} {s:Shared} {y:V} {u:Value} {l:Addr} {items:Array Value} (hl:s.heap.IsTuple l items) (hu:A.units < cLine) (ry:RelV y u) (fy:qbn y=true):RcAt A s u (.ref l) false:=by
 cases y with
 | non=>cases ry;exact RcAt.none_tuple hl hu
 | bl a=>cases ry;exact RcAt.bool_tuple a hl hu
 | int a=>obtain ⟨t1,rfl⟩:=ry;exact RcAt.int_tuple a t1 hl hu
 | str a=>obtain ⟨t1,rfl⟩:=ry;exact RcAt.str_tuple a t1 hl hu
 | _=>exact absurd (show false=true from fy) Bool.false_ne_true
theorem qp9 {A:Around} {s:Shared} {y:V} {u:Value} {l:Addr} {items:Array Value} (hl:s.heap.IsTuple l items) (hu:A.units < cLine) (ry:RelV y u) (fy:qbn y=true):RcAt A s (.ref l) u false:=by
 cases y with
 | non=>cases ry;exact RcAt.tuple_none hl hu
 | bl a=>cases ry;exact RcAt.tuple_bool a hl hu
 | int a=>obtain ⟨t1,rfl⟩:=ry;exact RcAt.tuple_int a t1 hl hu
 | str a=>obtain ⟨t1,rfl⟩:=ry;exact RcAt.tuple_str a t1 hl hu
 | _=>exact absurd (show false=true from fy) Bool.false_ne_true
theorem qom {A:Around} {s:Shared} {y:V} {u:Value} {l:Addr} {items:Array Value} (hl:s.heap.IsList l items) (hu:A.units < cLine) (ry:RelV y u) (fy:qbn y=true):RcNeAt A s u (.ref l) true:=by
 cases y with
 | non=>cases ry;exact RcNeAt.none_list hl hu
 | bl a=>cases ry;exact RcNeAt.bool_list a hl hu
 | int a=>obtain ⟨t1,rfl⟩:=ry;exact RcNeAt.int_list a t1 hl hu
 | str a=>obtain ⟨t1,rfl⟩:=ry;exact RcNeAt.str_list a t1 hl hu
 | _=>exact absurd (show false=true from fy) Bool.false_ne_true
theorem qol {A:Around} {s:Shared} {y:V} {u:Value} {l:Addr} {items:Array Value} (hl:s.heap.IsList l items) (hu:A.units < cLine) (ry:RelV y u) (fy:qbn y=true):RcNeAt A s (.ref l) u true:=by
 cases y with
 | non=>cases ry;exact RcNeAt.list_none hl hu
 | bl a=>cases ry;exact RcNeAt.list_bool a hl hu
 | int a=>obtain ⟨t1,rfl⟩:=ry;exact RcNeAt.list_int a t1 hl hu
 | str a=>obtain ⟨t1,rfl⟩:=ry;exact RcNeAt.list_str a t1 hl hu
 | _=>exact absurd (show false=true from fy) Bool.false_ne_true
theorem qm7 {A:Around} {s:Shared} {y:V} {u:Value} {l:Addr} {items:Array Value} (hl:s.heap.IsTuple l items) (hu:A.units < cLine) (ry:RelV y u) (fy:qbn y=true):RcNeAt A s u (.ref l) true:=by
 cases y with
 | non=>cases ry;exact RcNeAt.none_tuple hl hu
 | bl a=>cases ry;exact RcNeAt.bool_tuple a hl hu
 | int a=>obtain ⟨t1,rfl⟩:=ry;exact RcNeAt.int_tuple a t1 hl hu
 | str a=>obtain ⟨t1,rfl⟩:=ry;exact RcNeAt.str_tuple a t1 hl hu
 | _=>exact absurd (show false=true from fy) Bool.false_ne_true
theorem qm6 {A:Around} {s:Shared} {y:V} {u:Value} {l:Addr} {items:Array Value} (hl:s.heap.IsTuple l items) (hu:A.units < cLine) (ry:RelV y u) (fy:qbn y=true):RcNeAt A s (.ref l) u true:=by
 cases y with
 | non=>cases ry;exact RcNeAt.tuple_none hl hu
 | bl a=>cases ry;exact RcNeAt.tuple_bool a hl hu
 | int a=>obtain ⟨t1,rfl⟩:=ry;exact RcNeAt.tuple_int a t1 hl hu
 | str a=>obtain ⟨t1,rfl⟩:=ry;exact RcNeAt.tuple_str a t1 hl hu
 | _=>exact absurd (show false=true from fy) Bool.false_ne_true
section
variable {X:Cx} {pins:List (Addr × Obj)} {σ:St} {H:Hp} {s:Shared}
theorem qjf (I:Inv X pins σ H s):∀ (n:Nat) {x:V} {b:Bool},EqP X.K H n x x b->b=true
 | 0,x,b,h=>by obtain ⟨h1,_,rfl⟩:=h;exact qje h1
 | n + 1,x,b,h=>by
  rcases h with ⟨h1,_,rfl⟩ | ⟨a,c,xs,ys,rfl,e2,p1,p2,h⟩ | ⟨a,c,xs,ys,rfl,e2,p1,p2,e,he,rfl⟩ | ⟨a,c,xs,ys,rfl,e2,p1,p2,_⟩ | ⟨a,c,xs,ys,rfl,e2,p1,p2,_⟩ | ⟨c,ys,f,rfl,_⟩ | ⟨c,ys,f,rfl,_⟩
  ·exact qje h1
  ·cases e2
   cases I.list_inj p1 p2
   rcases h with ⟨h,_⟩ | ⟨_,e,he,rfl⟩
   ·exact absurd rfl h
   ·rw [List.all_eq_true]
    exact fun j hj=>qjf I n (he j (List.mem_range.mp hj) (List.mem_range.mp hj))
  ·cases e2
   cases I.tuple_inj p1 p2
   rw [Nat.min_self,beq_self_eq_true,Bool.and_true,List.all_eq_true]
   exact fun j hj=>qjf I n (he j (List.mem_range.mp hj) (List.mem_range.mp hj))
  ·cases e2
   obtain ⟨_,_,⟨o1,_,q1,c1,_⟩,_⟩:=I.list p1
   obtain ⟨_,_,⟨o2,q2,c2,_⟩,_⟩:=I.tuple p2
   rw [q1] at q2;cases q2;rw [c1] at c2;exact absurd c2 (by decide)
  ·cases e2
   obtain ⟨_,_,⟨o2,q2,c2,_⟩,_⟩:=I.tuple p1
   obtain ⟨_,_,⟨o1,_,q1,c1,_⟩,_⟩:=I.list p2
   rw [q1] at q2;cases q2;rw [c1] at c2;exact absurd c2 (by decide)
  ·cases f
  ·cases f
theorem qtw (I:Inv X pins σ H s):∀ (n:Nat) (A:Around) {x y:V} {u v:Value} {b:Bool},A.units + n < cLine->EqP X.K H n x y b->RelV x u->RelV y v->EqAt A s u v b
 | 0,A,x,y,u,v,b,hu,h,r1,r2=>by obtain ⟨h1,h2,rfl⟩:=h;exact qw3 r1 r2 h1 h2
 | n + 1,A,x,y,u,v,b,hu,h,r1,r2=>by
  have h':=h
  rcases h with ⟨h1,h2,rfl⟩ | ⟨a,c,xs,ys,rfl,rfl,p1,p2,h⟩ | ⟨a,c,xs,ys,rfl,rfl,p1,p2,e,he,rfl⟩ | ⟨a,c,xs,ys,rfl,rfl,p1,p2,rfl⟩ | ⟨a,c,xs,ys,rfl,rfl,p1,p2,rfl⟩ | ⟨c,ys,f,rfl,p,rfl⟩ | ⟨c,ys,f,rfl,p,rfl⟩
  ·exact qw3 r1 r2 h1 h2
  ·cases r1
   cases r2
   by_cases hac:a=c
   ·subst hac
    have hb:=qjf I (n + 1) h'
    rw [hb]
    exact EqAt.same _
   obtain ⟨us,v1,q1,_⟩:=I.list p1
   obtain ⟨ws,v2,q2,_⟩:=I.list p2
   have l1:=v1.length
   have l2:=v2.length
   refine EqAt.of_refs hac ?_
   rcases h with ⟨h,rfl⟩ | ⟨hl,e,he,rfl⟩
   ·exact RcAt.lists_lengths q1.isList q2.isList (by rw [List.size_toArray,List.size_toArray];simp;omega) (by omega)
   ·have q:=RcAt.lists (A:=A) (s:=s) q1.isList q2.isList (by rw [List.size_toArray,List.size_toArray];omega) (by omega) (e:=e) (fun j j1 j2=>?_)
    ·rw [List.size_toArray,<- l1] at q
     exact q
    ·have j1':j < us.length:=by simpa using j1
     have j2':j < ws.length:=by simpa using j2
     rw [List.getElem_toArray,List.getElem_toArray]
     exact qtw I n A.in1 (by show A.units + 1 + n < cLine;omega) (he j (by omega) (by omega)) (qdq v1 j (by omega) j1') (qdq v2 j (by omega) j2')
  ·cases r1
   cases r2
   by_cases hac:a=c
   ·subst hac
    have hb:=qjf I (n + 1) h'
    rw [hb]
    exact EqAt.same _
   obtain ⟨us,v1,q1,_⟩:=I.tuple p1
   obtain ⟨ws,v2,q2,_⟩:=I.tuple p2
   have l1:=v1.length
   have l2:=v2.length
   refine EqAt.of_refs hac ?_
   have q:=RcAt.tuples (A:=A) (s:=s) q1 q2 (by omega) (e:=e) (fun j j1 j2=>?_)
   ·rw [List.size_toArray,List.size_toArray,<- l1,<- l2] at q
    exact q
   ·have j1':j < us.length:=by simpa using j1
    have j2':j < ws.length:=by simpa using j2
    rw [List.getElem_toArray,List.getElem_toArray]
    exact qtw I n A.in1 (by show A.units + 1 + n < cLine;omega) (he j (by omega) (by omega)) (qdq v1 j (by omega) j1') (qdq v2 j (by omega) j2')
  ·cases r1
   cases r2
   obtain ⟨us,v1,q1,_⟩:=I.list p1
   obtain ⟨ws,v2,q2,_⟩:=I.tuple p2
   exact EqAt.list_tuple q1.isList q2 (by omega)
  ·cases r1
   cases r2
   obtain ⟨us,v1,q1,_⟩:=I.tuple p1
   obtain ⟨ws,v2,q2,_⟩:=I.list p2
   exact EqAt.tuple_list q1 q2.isList (by omega)
  ·cases r2
   rcases p with p | p
   ·obtain ⟨us,v1,q1,_⟩:=I.list p
    exact qty q1.isList (by omega) r1 f
   ·obtain ⟨us,v1,q1,_⟩:=I.tuple p
    exact qqy q1 (by omega) r1 f
  ·cases r1
   rcases p with p | p
   ·obtain ⟨us,v1,q1,_⟩:=I.list p
    exact qtx q1.isList (by omega) r2 f
   ·obtain ⟨us,v1,q1,_⟩:=I.tuple p
    exact qqx q1 (by omega) r2 f
theorem rc_at (I:Inv X pins σ H s) {n:Nat} {A:Around} {x y:V} {u v:Value} {b:Bool} (hu:A.units + n < cLine) (h:EqP X.K H n x y b) (r1:RelV x u) (r2:RelV y v):RcAt A s u v b:=by
 cases n with
 | zero=>obtain ⟨h1,h2,rfl⟩:=h;exact rcAt_V r1 r2 h1 h2
 | succ n =>
  rcases h with ⟨h1,h2,rfl⟩ | ⟨a,c,xs,ys,rfl,rfl,p1,p2,h⟩ | ⟨a,c,xs,ys,rfl,rfl,p1,p2,e,he,rfl⟩ | ⟨a,c,xs,ys,rfl,rfl,p1,p2,rfl⟩ | ⟨a,c,xs,ys,rfl,rfl,p1,p2,rfl⟩ | ⟨c,ys,f,rfl,p,rfl⟩ | ⟨c,ys,f,rfl,p,rfl⟩
  ·exact rcAt_V r1 r2 h1 h2
  ·cases r1
   cases r2
   obtain ⟨us,v1,q1,_⟩:=I.list p1
   obtain ⟨ws,v2,q2,_⟩:=I.list p2
   have l1:=v1.length
   have l2:=v2.length
   rcases h with ⟨h,rfl⟩ | ⟨hl,e,he,rfl⟩
   ·exact RcAt.lists_lengths q1.isList q2.isList (by rw [List.size_toArray,List.size_toArray];simp;omega) (by omega)
   ·have q:=RcAt.lists (A:=A) (s:=s) q1.isList q2.isList (by rw [List.size_toArray,List.size_toArray];omega) (by omega) (e:=e) (fun j j1 j2=>?_)
    ·rw [List.size_toArray,<- l1] at q
     exact q
    ·have j1':j < us.length:=by simpa using j1
     have j2':j < ws.length:=by simpa using j2
     rw [List.getElem_toArray,List.getElem_toArray]
     exact qtw I n A.in1 (by show A.units + 1 + n < cLine;omega) (he j (by omega) (by omega)) (qdq v1 j (by omega) j1') (qdq v2 j (by omega) j2')
  ·cases r1
   cases r2
   obtain ⟨us,v1,q1,_⟩:=I.tuple p1
   obtain ⟨ws,v2,q2,_⟩:=I.tuple p2
   have l1:=v1.length
   have l2:=v2.length
   have q:=RcAt.tuples (A:=A) (s:=s) q1 q2 (by omega) (e:=e) (fun j j1 j2=>?_)
   ·rw [List.size_toArray,List.size_toArray,<- l1,<- l2] at q
    exact q
   ·have j1':j < us.length:=by simpa using j1
    have j2':j < ws.length:=by simpa using j2
    rw [List.getElem_toArray,List.getElem_toArray]
    exact qtw I n A.in1 (by show A.units + 1 + n < cLine;omega) (he j (by omega) (by omega)) (qdq v1 j (by omega) j1') (qdq v2 j (by omega) j2')
  ·cases r1
   cases r2
   obtain ⟨us,v1,q1,_⟩:=I.list p1
   obtain ⟨ws,v2,q2,_⟩:=I.tuple p2
   exact RcAt.list_tuple q1.isList q2 (by omega)
  ·cases r1
   cases r2
   obtain ⟨us,v1,q1,_⟩:=I.tuple p1
   obtain ⟨ws,v2,q2,_⟩:=I.list p2
   exact RcAt.tuple_list q1 q2.isList (by omega)
  ·cases r2
   rcases p with p | p
   ·obtain ⟨us,v1,q1,_⟩:=I.list p
    exact qs4 q1.isList (by omega) r1 f
   ·obtain ⟨us,v1,q1,_⟩:=I.tuple p
    exact qqa q1 (by omega) r1 f
  ·cases r1
   rcases p with p | p
   ·obtain ⟨us,v1,q1,_⟩:=I.list p
    exact qs3 q1.isList (by omega) r2 f
   ·obtain ⟨us,v1,q1,_⟩:=I.tuple p
    exact qp9 q1 (by omega) r2 f
theorem rcNe_at (I:Inv X pins σ H s) {n:Nat} {A:Around} {x y:V} {u v:Value} {b:Bool} (hu:A.units + n < cLine) (h:EqP X.K H n x y b) (r1:RelV x u) (r2:RelV y v):RcNeAt A s u v (!b):=by
 cases n with
 | zero=>obtain ⟨h1,h2,rfl⟩:=h;exact qrq r1 r2 h1 h2
 | succ n =>
  rcases h with ⟨h1,h2,rfl⟩ | ⟨a,c,xs,ys,rfl,rfl,p1,p2,h⟩ | ⟨a,c,xs,ys,rfl,rfl,p1,p2,e,he,rfl⟩ | ⟨a,c,xs,ys,rfl,rfl,p1,p2,rfl⟩ | ⟨a,c,xs,ys,rfl,rfl,p1,p2,rfl⟩ | ⟨c,ys,f,rfl,p,rfl⟩ | ⟨c,ys,f,rfl,p,rfl⟩
  ·exact qrq r1 r2 h1 h2
  ·cases r1
   cases r2
   obtain ⟨us,v1,q1,_⟩:=I.list p1
   obtain ⟨ws,v2,q2,_⟩:=I.list p2
   have l1:=v1.length
   have l2:=v2.length
   rcases h with ⟨h,rfl⟩ | ⟨hl,e,he,rfl⟩
   ·exact RcNeAt.lists_lengths q1.isList q2.isList (by rw [List.size_toArray,List.size_toArray];simp;omega) (by omega)
   ·have q:=RcNeAt.lists (A:=A) (s:=s) q1.isList q2.isList (by rw [List.size_toArray,List.size_toArray];omega) (by omega) (e:=e) (fun j j1 j2=>?_)
    ·rw [List.size_toArray,<- l1] at q
     exact q
    ·have j1':j < us.length:=by simpa using j1
     have j2':j < ws.length:=by simpa using j2
     rw [List.getElem_toArray,List.getElem_toArray]
     exact qtw I n A.in1 (by show A.units + 1 + n < cLine;omega) (he j (by omega) (by omega)) (qdq v1 j (by omega) j1') (qdq v2 j (by omega) j2')
  ·cases r1
   cases r2
   obtain ⟨us,v1,q1,_⟩:=I.tuple p1
   obtain ⟨ws,v2,q2,_⟩:=I.tuple p2
   have l1:=v1.length
   have l2:=v2.length
   have q:=RcNeAt.tuples (A:=A) (s:=s) q1 q2 (by omega) (e:=e) (fun j j1 j2=>?_)
   ·rw [List.size_toArray,List.size_toArray,<- l1,<- l2] at q
    exact q
   ·have j1':j < us.length:=by simpa using j1
    have j2':j < ws.length:=by simpa using j2
    rw [List.getElem_toArray,List.getElem_toArray]
    exact qtw I n A.in1 (by show A.units + 1 + n < cLine;omega) (he j (by omega) (by omega)) (qdq v1 j (by omega) j1') (qdq v2 j (by omega) j2')
  ·cases r1
   cases r2
   obtain ⟨us,v1,q1,_⟩:=I.list p1
   obtain ⟨ws,v2,q2,_⟩:=I.tuple p2
   exact RcNeAt.list_tuple q1.isList q2 (by omega)
  ·cases r1
   cases r2
   obtain ⟨us,v1,q1,_⟩:=I.tuple p1
   obtain ⟨ws,v2,q2,_⟩:=I.list p2
   exact RcNeAt.tuple_list q1 q2.isList (by omega)
  ·cases r2
   rcases p with p | p
   ·obtain ⟨us,v1,q1,_⟩:=I.list p
    exact qom q1.isList (by omega) r1 f
   ·obtain ⟨us,v1,q1,_⟩:=I.tuple p
    exact qm7 q1 (by omega) r1 f
  ·cases r1
   rcases p with p | p
   ·obtain ⟨us,v1,q1,_⟩:=I.list p
    exact qol q1.isList (by omega) r2 f
   ·obtain ⟨us,v1,q1,_⟩:=I.tuple p
    exact qm6 q1 (by omega) r2 f
def rEqD (K:PySem.W.Frag) (n:Nat) (neg:Bool):R2:=fun x y H Q=>∃ b,EqP K H n x y b/\Q (.bl (if neg then !b else b)) H
theorem qik {K:PySem.W.Frag} {n:Nat} (hu:X.A.units + n < cLine) (hK:X.K=K):OpR X (compareOp .Eq) (rEqD K n false):=by
 subst hK
 intro pins s σ H x y v u Q I rx ry h
 obtain ⟨b,h,q⟩:=h
 exact rc_at I hu h rx ry X.prog X.w X.xe _ ⟨.bl b,H,I,rfl,q⟩
theorem qfe {K:PySem.W.Frag} {n:Nat} (hu:X.A.units + n < cLine) (hK:X.K=K):OpR X (compareOp .NotEq) (rEqD K n true):=by
 subst hK
 intro pins s σ H x y v u Q I rx ry h
 obtain ⟨b,h,q⟩:=h
 exact rcNe_at I hu h rx ry X.prog X.w X.xe _ ⟨.bl (!b),H,I,rfl,q⟩
theorem hu6 {A:Around} {k:Nat} (hr:Room k A):A.units + 6 < cLine:=by have:=hr.units;omega
end
end L2
namespace L2
open PySem PySem.Spec PyProof.Rows
section
variable {X:Cx} {K:PySem.W.Frag}
def rAddS:R2:=fun x y H Q=>∃ i j,x = .str i/\y = .str j/\i.length + j.length<=sizeLine/\Q (.str (i++j)) H
def rAddU (K:PySem.W.Frag):R2:=fun x y H Q=>(rI0 fun i j=> .int (i + j)) x y H Q ∨ rAddS x y H Q ∨ rCatL K x y H Q ∨ rCatT K x y H Q
theorem qbj (h:X.K=K):OpR X (binaryOp .Add) (rAddU K):=by subst h;exact op_add.or (op_add_str.or (op_catL.or op_catT))
theorem qao (h:X.K=K):IxR X (rIx K):=by subst h;exact ix_seq
def rLen (K:PySem.W.Frag):List V->Hp->VK->Prop:=fun xs H Q=>(∃ x n,xs=[x]/\LenV K x H n/\Q (.int n) H) ∨ ∃ a kvs,xs=[V.ref a]/\H a=some (.dK kvs)/\Q (.int kvs.length) H
theorem qb3 (h:X.K=K):CallR X (.builtin "len") (rLen K):=by
 subst h
 exact CallR.or (f:= .builtin "len") call_len qxp
theorem pt_truK {a:Expr} {ta:TE} (h:X.K=K) (ha:PE X a ta) (he:∀ whole,isTrue a X.env whole=(do let v <- whole;standAt a.pos;holding [v] (truthy v))):PT X a (fun σ H Q=>ta σ H fun x H'=>∃ k,TruV K x H' k/\Q k H'):=by
 subst h;exact pt_truth ha he
theorem ql5 (h:X.K=K):OpR X (compareOp .In) (rIn K false):=by subst h;exact qvz
theorem qnh (h:X.K=K):OpR X (compareOp .NotIn) (rIn K true):=by subst h;exact qon
def qvh (K:PySem.W.Frag):List V->Hp->VK->Prop:=fun xs H Q=>∃ p ys,xs=[.ref p]/\(SqL K H p ys ∨ SqT K H p ys)/\∀ l,H l=none->Q (.ref l) (upd H l (.lst ys))
theorem qdy (h:X.K=K):CallR X (.type "list") (qvh K):=by subst h;exact qpf
def rIsi (K:PySem.W.Frag):List V->Hp->VK->Prop:=fun xs H Q=>∃ x n T b,xs=[x,.ty n]/\qq9 K H x (.type T)/\tyB T n=some b/\Q (.bl b) H
theorem qb4 (h:X.K=K):CallR X (.builtin "isinstance") (rIsi K):=by subst h;exact qq6
def rAllB (K:PySem.W.Frag):List V->Hp->VK->Prop:=fun xs H Q=>∃ (a:Addr) (bs:List Bool),xs=[.ref a]/\SqL K H a (bs.map V.bl)/\Q (.bl (bs.all id)) H
theorem qfz (hc:X.calm=true) (h:X.K=K):CallR X (.builtin "all") (rAllB K):=by subst h;exact call_all hc
def rMin2:List V->Hp->VK->Prop:=fun xs H Q=>∃ i j,xs=[.int i,.int j]/\Q (.int (if j < i then j else i)) H
theorem qt3 (hc:X.calm=true):CallR X (.builtin "min") rMin2:=qxo hc
def rIsN:R2:=fun x y H Q=>y = .non/\Q (.bl (decide (x = .non))) H
def rNotN:R2:=fun x y H Q=>y = .non/\Q (.bl (!decide (x = .non))) H
theorem op_isNU:OpR X (compareOp .Is) rIsN:=op_isN
theorem op_notNU:OpR X (compareOp .IsNot) rNotN:=op_notN
theorem qks:bootBuiltins "tuple"=some (.type "tuple"):=by decide +kernel
theorem qpj:bootBuiltins "sorted"=some (.builtin "sorted"):=by decide +kernel
theorem qt5:bootBuiltins "dict"=some (.type "dict"):=by decide +kernel
theorem qk8:tyB "tuple" "tuple"=some true:=by decide +kernel
end
section
variable {X:Cx} {K:PySem.W.Frag} {o e:Expr} {es:List Expr} {to:TE} {t:TA} {name:Str} {apos cpos:Pos} {T id:String} {r:V->List V->Hp->VK->Prop}
theorem qgk (hK:X.K=K) (pa:PlainAttrs T) (slot:Slot T name id) (hty:typeOf (.builtin id)=pure (.type "method_descriptor")) (hm:MtR X id r) (ho:PE X o to) (ha:PA X (e::es) t)
  (hbase:attributeBase o name X.env (eval o X.env)=eval o X.env:=by rfl)
  (hfew:((backTo cpos (starEach (e::es) X.env)).all (fun x=>!x.1) && (backToKw cpos (keywordEach [] X.env)).all (fun x=>x.1.isSome)
   && decide ((e::es).length + ([]:List Keyword).length + (if ([]:List Keyword).isEmpty then 0 else 1) < 30))=true:=by rfl)
  (hline:(apos.endLine == cpos.line)=true:=by rfl) (hs:starEach (e::es) X.env=(false,eval e X.env)::starEach es X.env:=by rfl) (hplain:(backTo cpos (starEach es X.env)).any (·.1)=false:=by rfl) :
  PE X (.Call (.Attribute o name apos) (e::es) [] cpos) (tBM K T r to t):=by
 subst hK;exact pe_bm pa slot hty hm ho ha hbase hfew hline hs hplain
end
end L2
namespace L2
open PySem PySem.Spec PySem.Calls
section
variable {P:Program} {w:World} {κ:Type} [DecidableEq κ] {knd:PySem.KeyKind P w κ}
def qck (val:Nat->κ):Nat->List κ
 | 0=>[]
 | i + 1=>if val i ∈ qck val i then qck val i else qck val i++[val i]
theorem qro (val:Nat->κ):∀ i,(qck val i).length<=i
 | 0=>Nat.le_refl _
 | i + 1=>by
  have ih:=qro val i
  unfold qck
  split
  ·omega
  ·rw [List.length_append,List.length_singleton];omega
theorem qrn {h:Heap} {a:Addr} {S S':κ->Bool} {n n':Nat} (x:h.SetOf knd a S n) (e:∀ k,S k=S' k) (en:n=n'):h.SetOf knd a S' n':=by
 cases (funext e:S=S');cases en;exact x
theorem qhy {h h':Heap} {a:Addr} {S:κ->Bool} {n:Nat} (x:h.SetOf knd a S n) (e:∀ o,h.get? a=some o->h'.get? a=some o):h'.SetOf knd a S n:=by
 obtain ⟨o,es,ep,t,ho,r⟩:=x
 exact ⟨o,es,ep,t,e _ ho,r⟩
theorem set_walk {A:Around} {R:Result->Shared->Prop} {I:Addr} {fp wr:List Addr} {G:Array GenState->Array GenState->Prop} {n:Nat} {Pp:Nat->Value->Prop} {St:Nat->Shared->Prop}
  (W:WalksS P w A.in1 I fp wr G n Pp St) (a:Addr) (ha:a ∉ fp) (val:Nat->κ) (hv:∀ i v,Pp i v->knd.is (val i) v=true/\v.scannable=true) (hb:n + 1 < scanBound) :
  ∀ (m i:Nat) (s:Shared),n - i=m->i<=n->St i s->s.heap.SetOf knd a (fun x=>decide (x ∈ qck val i)) (qck val i).length ->
   (∀ s',Moved (a::wr) G s s'->s'.heap.SetOf knd a (fun x=>decide (x ∈ qck val n)) (qck val n).length->R (.ok (.ret .none)) s') ->
   codeAny (model P w) A (.builtin "set.update.loop" ⟨[.ref a,.ref I],[]⟩) R s:=by
 have haw:a ∉ wr:=fun z=>ha (W.sub _ z)
 have up:∀ b ∈ wr,b ∈ a::wr:=fun b z=>List.mem_cons_of_mem _ z
 intro m
 induction m with
 | zero =>
  intro i s hm hi st hS hR
  obtain rfl:i=n:=by omega
  refine codeAny_builtin PyProof.Rows.F.entry_set_update_loop ?_
  rw [Around.under_plainId PyProof.Rows.F.plain_set_update_loop _];show wpAny _ A.in1 (pyNext (.ref I) >>= _) _ _ s
  refine wpAny_bind (W.done s _ _ st fun s' mv=>?_);show wpAny _ A.in1 (ret Value.none) _ _ s'
  exact wpAny_pure (hR s' (mv.mono up) (qhy hS fun o e=>mv.heap a o haw e))
 | succ m ih =>
  intro i s hm hi st hS hR
  have hlt:i < n:=by omega
  refine codeAny_builtin PyProof.Rows.F.entry_set_update_loop ?_
  rw [Around.under_plainId PyProof.Rows.F.plain_set_update_loop _];show wpAny _ A.in1 (pyNext (.ref I) >>= _) _ _ s
  refine wpAny_bind (W.item i s _ _ hlt st fun v s' hP st' mv=>?_)
  obtain ⟨hk,hsc⟩:=hv i v hP
  have hS':s'.heap.SetOf knd a (fun x=>decide (x ∈ qck val i)) (qck val i).length:=qhy hS fun o e=>mv.heap a o haw e
  show wpAny _ A.in1 (holding [v] (setAdd a v) >>= _) _ _ s'
  refine wpAny_bind (wpAny_holding ?_);unfold setAdd
  refine wpAny_holding (wpAny_bind (knd.pyHash (k:=val i) hk ?_))
  have room:(qck val i).length + 1 < scanBound:=by have:=qro val i;omega
  refine wpAny_setAddHashed_of (knd:=knd) (s:={ s' with toks:=s'.toks + 1 }) hk hsc hS' room fun h' sb hS2=>?_
  have hSi:h'.SetOf knd a (fun x=>decide (x ∈ qck val (i + 1))) (qck val (i + 1)).length:=by
   refine qrn hS2 (fun x=>?_) ?_
   ·by_cases hc:val i ∈ qck val i
    ·rw [show qck val (i + 1)=qck val i from if_pos hc]
     by_cases hx:x=val i
     ·subst hx;simp [hc]
     ·simp [hx]
    ·rw [show qck val (i + 1)=qck val i++[val i] from if_neg hc]
     simp
   ·by_cases hc:val i ∈ qck val i
    ·rw [show qck val (i + 1)=qck val i from if_pos hc];simp [hc]
    ·rw [show qck val (i + 1)=qck val i++[val i] from if_neg hc];simp [hc]
  refine wpAny_pure ⟨plainId_quiet PyProof.Rows.F.plain_set_update_loop _,ih (i + 1) _ (by omega) hlt (W.frame _ s' _ _ st' (Nat.le_succ _) fun b z o e=>?_) hSi fun s2 mv2 hS3=>?_⟩
  ·rw [sb.2 b (fun q:b=a=>ha (by rw [<- q];exact z))];exact e
  ·refine hR s2 (Moved.trans W.gtrans ((mv.mono up).then_heap (Nat.le_succ _) fun b o z e=>?_) mv2) hS3
   rw [sb.2 b (fun q:b=a=>z (by rw [q];exact List.mem_cons_self))];exact e
theorem qpe {A:Around} {E:Value->Shared->Prop} {s:Shared} {l:Addr} {its:Array Value} {val:Nat->κ} {Q:Value->Shared->Prop} (hh:A.handled=none) (hl:s.heap.IsList l its)
  (hv:∀ (i:Nat) (v:Value),its[i]?=some v->knd.is (val i) v=true/\v.scannable=true) (hb:its.size + 1 < scanBound)
  (h:∀ (h':Heap) (tk:Nat),h'.SetOf knd s.heap.objs.size (fun x=>decide (x ∈ qck val its.size)) (qck val its.size).length ->
   (∀ b o,s.heap.get? b=some o->h'.get? b=some o)->Q (.ref s.heap.objs.size) { s with heap:=h',toks:=tk }) :
  wpAny (model P w) A (call (.type "set") [.ref l]) Q E s:=by
 obtain ⟨c,tl,hmro⟩:=PySem.F.called_set.mro
 have hmade:=PySem.F.called_set.made
 have hsub:=PySem.F.called_set.sub
 refine wpAny_call (codeAny_of_tree ?_)
 show wpAny _ _ (callAny (.type "set") _) _ _ _
 refine wpAny_pure ⟨Code.quiet_builtin _ (by decide +kernel),codeAny_builtin PySem.F.entry_type_call ?_⟩
 rw [Around.under_plain (weight_type_call_type "set" [.ref l] []) rfl]
 have q1:=PySem.F.called_set.notType
 have q2:=PySem.F.called_set.canCreate
 have q3:=PySem.F.typeCall_set_1 (.ref l)
 (repeat (any_goals (first | assumption | wp_step)))
 refine codeAny_mono (code_set_new_1 (.ref l) (E:=E) (Q₁:=fun ob s1=>∃ led:Bool,ob = .ref s.heap.objs.size/\s1={ s with heap:=s.heap.push { cls:= .type "set",dict:=none,data:= .set #[] 0 (.fresh 0 0 led) } }) fun led=>⟨led,rfl,rfl⟩) fun r s1 hr=>?_
 cases r with
 | error e=>exact hr
 | ok fl =>
  cases fl with
  | ret ob =>
   obtain ⟨led,rfl,rfl⟩:=hr
   have hS:(s.heap.push { cls:= .type "set",dict:=none,data:= .set #[] 0 (.fresh 0 0 led) }).get? s.heap.objs.size=some { cls:= .type "set",dict:=none,data:= .set #[] 0 (.fresh 0 0 led) }:=Heap.get?_push_size _ rfl
   have hT:Shared.TypeIs { s with heap:=s.heap.push { cls:= .type "set",dict:=none,data:= .set #[] 0 (.fresh 0 0 led) } } (.ref s.heap.objs.size) "set":=⟨_,hS,rfl⟩
   have hli:=PySem.F.called_set.init.lookup
   have hbi:=PySem.F.called_set.init.bind (.ref s.heap.objs.size)
   (repeat (any_goals (first | assumption | wp_step)))
   refine codeAny_mono (codeAny_call_builtin (R:=wants (fun r s2=>r = .none/\∃ h' tk,s2={ s with heap:=h',toks:=tk }/\h'.SetOf knd s.heap.objs.size (fun x=>decide (x ∈ qck val its.size)) (qck val its.size).length /\
     (∀ b o,s.heap.get? b=some o->h'.get? b=some o)) E) PySem.F.called_set.init.plain PySem.F.entry_set_init (check_set_init_1 hT ?_)) fun r2 s2 hr2=>?_
   ·obtain ⟨ol,hol,hcl,nl,hdl⟩:=hl
    obtain ⟨ocls,odict,odata,oslots⟩:=ol
    simp only at hcl hdl
    subst hcl;subst hdl
    have hol':(s.heap.push { cls:= .type "set",dict:=none,data:= .set #[] 0 (.fresh 0 0 led) }).get? l=some { cls:= .type "list",dict:=odict,data:= .seq its nl,slots:=oslots }:=Heap.get?_push_of_some _ hol
    have z1:=PySem.F.sub_list_set
    have z2:=PySem.F.sub_list_frozenset
    have z3:(Value.type "list" == Value.type "dict")=false:=by decide
    have hl1:(s.heap.push { cls:= .type "set",dict:=none,data:= .set #[] 0 (.fresh 0 0 led) }).IsList l its:=⟨_,hol',rfl,nl,rfl⟩
    unfold Builtin.«set.__init__» noKeywords Builtin.Frozenset.updateFrom
    generalize hPI:pyIter=PI
    wp_walk
    subst hPI
    refine wpAny_pyIter_list hl1 ?_
    refine wpAny_bind (wpAny_runValue ?_)
    have hlS:l < s.heap.objs.size:=Heap.lt_size hol
    have h3:A.in1.in1.in1.handled=none:=by simp [hh]
    have ne1:l ≠ (s.heap.push { cls:= .type "set",dict:=none,data:= .set #[] 0 (.fresh 0 0 led) }).objs.size:=by rw [Heap.size_push];exact Nat.ne_of_lt (Nat.lt_succ_of_lt hlS)
    have ne2:s.heap.objs.size ∉ [(s.heap.push { cls:= .type "set",dict:=none,data:= .set #[] 0 (.fresh 0 0 led) }).objs.size,l]:=by
     rw [Heap.size_push];simp only [List.mem_cons,List.not_mem_nil,or_false,not_or];exact ⟨Nat.ne_of_lt (Nat.lt_succ_self _),Nat.ne_of_gt hlS⟩
    refine set_walk (knd:=knd) ((Walks.list h3 _ l ne1 its).toS) s.heap.objs.size ne2 val hv hb (its.size - 0) 0 _ (by omega) (Nat.zero_le _) ⟨⟨_,Heap.get?_push_size _ rfl,rfl,rfl⟩,(hl1.push _)⟩ ?_ ?_
    ·have hg:((s.heap.push { cls:= .type "set",dict:=none,data:= .set #[] 0 (.fresh 0 0 led) }).push { cls:= .type "list_iterator",data:= .fields #[.ref l,.int 0 0] }).get? s.heap.objs.size=some { cls:= .type "set",dict:=none,data:= .set #[] 0 (.fresh 0 0 led) }:=Heap.get?_push_of_some _ hS
     exact qrn ((PyProof.Rows.setObjOf_fresh (knd:=knd) led).setOf hg (by unfold scanBound;omega)) (fun x=>by simp [qck]) rfl
    ·rintro ⟨h',g',d',tk',os'⟩ mv hS'
     have eg:g'=s.gens:=mv.gens
     have ed:d'=s.drawn:=mv.drawn
     have eo:os'=s.os:=mv.os
     subst eg ed eo
     show wpAny _ _ _ _ _ _
     refine wpAny_pure ?_
     show wpAny _ _ (ret Value.none) _ _ _
     refine wpAny_pure ⟨rfl,h',tk',rfl,hS',fun b o e=>?_⟩
     have hb0:=Heap.lt_size e
     refine mv.heap b o ?_ (Heap.get?_push_of_some _ (Heap.get?_push_of_some _ e))
     rw [Heap.size_push];simp only [List.mem_cons,List.not_mem_nil,or_false,not_or];exact ⟨Nat.ne_of_lt hb0,Nat.ne_of_lt (Nat.lt_succ_of_lt hb0)⟩
   ·cases r2 with
    | error e=>exact hr2
    | ok fl2 =>
     cases fl2 with
     | ret r =>
      obtain ⟨rfl,h',tk,rfl,hS',hk'⟩:=hr2
      (repeat (any_goals (first | assumption | wp_step)))
      exact h _ _ hS' hk'
     | _=>exact False.elim hr2
  | _=>exact False.elim hr
end
def SetO (n:Nat) (a:Addr):HO:= .ext fun h=>∃ (P:Program) (w:World) (S:Key->Bool),h.SetOf (qbq P w) a S n
section
variable {X:Cx}
theorem vals_str {ss:List Str} {us:List Value} (r:Vals (ss.map V.str) us):∀ (i:Nat) (v:Value),us[i]?=some v->∃ x t,ss[i]?=some x/\v = .str x t:=by
 have key:∀ (ss:List Str) (us:List Value),Vals (ss.map V.str) us->∀ (i:Nat) (v:Value),us[i]?=some v->∃ x t,ss[i]?=some x/\v = .str x t:=by
  intro ss
  induction ss with
  | nil=>intro us r i v e;cases r;simp at e
  | cons s ss ih =>
   intro us r i v e
   cases r with
   | cons p q =>
    cases i with
    | zero =>
     obtain ⟨t,rfl⟩:=p
     simp at e
     exact ⟨s,t,rfl,e.symm⟩
    | succ i=>exact ih _ q i v (by simpa using e)
 intro i v e
 exact key ss us r i v e
theorem qxl (hc:X.calm=true):CallR X (.type "set") (fun xs H Q=>∃ (a:Addr) (ss:List Str),xs=[.ref a]/\SqL X.K H a (ss.map V.str)/\ss.length<=1000 /\
  ∀ l,H l=none->Q (.ref l) (upd H l (SetO (qck (fun i=>(Sum.inr (ss.getD i ⟨#[]⟩):Key)) ss.length).length l))):=by
 intro pins s σ H xs us Q I r h
 obtain ⟨a,ss,rfl,hq,hl,q⟩:=h
 obtain ⟨u,rfl,ru⟩:=qjl r
 obtain rfl:u=Value.ref a:=ru
 obtain ⟨its,rv,p,hz⟩:=I.list hq
 have hn:its.length=ss.length:=by have e:=rv.length;rw [List.length_map] at e;exact e.symm
 refine qpe (knd:=qbq X.prog X.w) (its:=its.toArray) (val:=fun i=>(Sum.inr (ss.getD i ⟨#[]⟩):Key)) (I.ok.hd hc) p.isList (fun i v e=>?_) (by rw [List.size_toArray,hn];unfold scanBound;omega) fun h' tk hS k=>?_
 ·obtain ⟨x,t,hx,rfl⟩:=vals_str rv i v (by simpa using e)
  rw [List.getD_eq_getElem?_getD,hx]
  exact ⟨qg1 _ _ _ _,rfl⟩
 ·have e8:its.toArray.size=ss.length:=by rw [List.size_toArray];exact hn
  rw [e8] at hS
  refine ⟨.ref s.heap.objs.size,_,I.laid (t':=tk) k (Nat.le_refl _) (show ObjOk X.prog X.w _ h' _ (SetO _ _) from ⟨⟨_,_,_,hS⟩,?_,?_⟩),rfl,q _ (I.hok.fresh (Nat.le_refl _))⟩
  ·obtain ⟨o,_,_,_,ho,_⟩:=hS;exact ⟨o,ho⟩
  ·rintro h1 h2 ⟨P,w,S,x⟩ e;exact ⟨P,w,S,qhy x e⟩
theorem qq5:CallR X (.builtin "len") (fun xs H Q=>∃ (a:Addr) (n:Nat),xs=[.ref a]/\H a=some (SetO n a)/\Q (.int n) H):=by
 intro pins s σ H xs us Q I r h
 obtain ⟨a,n,rfl,hq,q⟩:=h
 obtain ⟨u,rfl,ru⟩:=qjl r
 obtain rfl:u=Value.ref a:=ru
 obtain ⟨⟨P,w,S,o,es,ep,t,ho,hex,hd,_,_,hb,hf,hn⟩,_⟩:=(show ObjOk X.prog X.w H s.heap a (SetO n a) from I.hok a _ hq)
 subst hn
 have h63:((es.size:Nat):Int) < 2 ^ 63:=by unfold scanBound at hb;omega
 exact call_len_set ho hex hd hf h63 ⟨.int es.size,H,I.tok _,⟨_,rfl⟩,q⟩
end
end L2
namespace L2
open PySem PySem.Spec PySem.Calls PyProof.Rows
section
variable {X:Cx}
theorem qto {ns:List Int} {its:List Value} (rv:Vals (ns.map V.int) its):∃ xs:Array (Int × Tok),its.toArray=intItems xs/\xs.size=ns.length/\∀ i,i < ns.length->numAt xs i=ns.getD i 0:=by
 have hi:=qfk rv
 obtain ⟨xs,ex⟩:=hi.allInts.items
 have hl:xs.size=ns.length:=by
  have e:its.toArray.size=xs.size:=by rw [ex];unfold intItems;rw [Array.size_map]
  have e2:=rv.length
  rw [List.length_map] at e2
  rw [List.size_toArray] at e
  omega
 refine ⟨xs,ex,hl,fun i h=>?_⟩
 have hx:i < xs.size:=by omega
 have e1:its.toArray[i]?=some (.int xs[i].1 xs[i].2):=by rw [ex];unfold intItems;rw [Array.getElem?_map,Array.getElem?_eq_getElem hx];rfl
 have e2:its[i]?=some (.int xs[i].1 xs[i].2):=by simpa using e1
 obtain ⟨t,e3⟩:=IntsAre.int_at hi i _ e2
 injection e3 with e3 _
 unfold numAt
 rw [Array.getElem?_eq_getElem hx]
 exact e3
def rMinL (K:PySem.W.Frag):List V->Hp->VK->Prop:=fun xs H Q=>∃ (a:Addr) (ns:List Int),xs=[.ref a]/\SqL K H a (ns.map V.int)/\ns ≠ []/\∀ m,m ∈ ns->(∀ x ∈ ns,m<=x)->Q (.int m) H
theorem best_at {ns:List Int} {f:Nat->Int} {k:Nat} (hf:∀ i,i < ns.length->f i=ns.getD i 0) (hk:k < ns.length):f k ∈ ns:=by
 rw [hf k hk,List.getD_eq_getElem?_getD,List.getElem?_eq_getElem hk]
 exact List.getElem_mem hk
theorem best_all {ns:List Int} {f:Nat->Int} {R:Int->Prop} (hf:∀ i,i < ns.length->f i=ns.getD i 0) (h:∀ j,j < ns.length->R (f j)):∀ x ∈ ns,R x:=by
 intro x hx
 obtain ⟨j,hj,rfl⟩:=List.getElem_of_mem hx
 have:=h j hj
 rw [hf j hj,List.getD_eq_getElem?_getD,List.getElem?_eq_getElem hj] at this
 exact this
theorem qxn {K:PySem.W.Frag} (hc:X.calm=true) (hK:X.K=K):CallR X (.builtin "min") (rMinL K):=by
 subst hK
 intro pins s σ H xs us Q I r h
 obtain ⟨a,ns,rfl,hq,hne,q⟩:=h
 obtain ⟨u,rfl,ru⟩:=qjl r
 obtain rfl:u=Value.ref a:=ru
 obtain ⟨its,rv,p,hz⟩:=I.list hq
 obtain ⟨ys,ey,el,en⟩:=qto rv
 have hl:s.heap.IsList a its.toArray:=p.isList
 rw [ey] at hl
 have hp:0 < ns.length:=List.length_pos_iff.mpr hne
 refine min_intList (I.ok.hd hc) hl (by omega) fun v h' tk hv k=>?_
 obtain ⟨t,rfl⟩:=intItems_at hv
 obtain ⟨h1,h2⟩:=argBest_lt (numAt ys) (ys.size - 1)
 exact ⟨.int _,H,I.kept (t':=tk) k,⟨t,rfl⟩,q _ (best_at en (by omega)) (best_all en fun j hj=>h2 j (by omega))⟩
def StrUp (ss:List Str):Prop:=ss.Pairwise fun x y=>¬ (y.cps.toList < x.cps.toList)
theorem qoe {ss:List Str} (h:sortedS ss=true):StrUp ss:=by
 cases ss with
 | nil=>exact List.Pairwise.nil
 | cons x r =>
  have key:∀ (l:List Str) (p:Str),risingS p l=true->(p::l).Pairwise fun x y=>¬ (y.cps.toList < x.cps.toList):=by
   intro l
   induction l with
   | nil=>intro p _;exact List.pairwise_singleton _ _
   | cons y l ih =>
    intro p hp
    have hp':(!ltCps y.cps.toList p.cps.toList && risingS y l)=true:=hp
    rw [Bool.and_eq_true] at hp'
    have i2:=ih y hp'.2
    have hyp:¬ (y.cps.toList < p.cps.toList):=by
     have e:=hp'.1
     rw [ltCps_eq] at e
     simpa using e
    refine List.pairwise_cons.mpr ⟨fun z hz=>?_,i2⟩
    rcases List.mem_cons.mp hz with rfl | hz
    ·exact hyp
    ·have hzy:=(List.pairwise_cons.mp i2).1 z hz
     intro hlt
     exact hyp (Std.lt_of_le_of_lt (Std.not_lt.mp hzy) hlt)
  exact key r x h
def rSortS (K:PySem.W.Frag):List V->Hp->VK->Prop:=fun xs H Q=>∃ (a:Addr) (ss:List Str),xs=[.ref a]/\(SqL K H a (ss.map V.str) ∨ ∃ kvs,Rd H a (.dK kvs)/\kvs.map (·.1)=ss.map Sum.inr)/\ss.length < 64 /\
 ∀ l ss',H l=none->ss'.Perm ss->StrUp ss'->Q (.ref l) (upd H l (.lst (ss'.map V.str)))
theorem qod:∀ {ss:List Str} {us:List Value},Vals (ss.map V.str) us->StrsAre us ss
 | [],_,.nil=> .nil
 | x::_,_,.cons ⟨t,e⟩ r=>by subst e;exact .cons x t (qod r)
theorem qjk:∀ {us:List Value} {ss:List Str},StrsAre us ss->Vals (ss.map V.str) us
 | _,_,.nil=> .nil
 | _,_,.cons x t r=> .cons ⟨t,rfl⟩ (qjk r)
theorem key_strs:∀ {kvs:List (Key × V)} {vs:List (Key × Value)} {ss:List Str},KV kvs vs->kvs.map (·.1)=ss.map Sum.inr->vs.map (·.1)=ss.map Sum.inr:=by
 intro kvs vs ss r e
 rw [<- e]
 clear e
 induction r with
 | nil=>rfl
 | cons p _ ih=>rw [List.map_cons,List.map_cons,ih,p.1]
theorem qtm {P:Program} {w:World} {vs:List (Key × Value)} {ss:List Str} {acc:Array Value} (e:vs.map (·.1)=ss.map Sum.inr) (h:ItemsOf (fun i v=>∃ k x,vs[i]?=some (k,x)/\(qbq P w).is k v=true) acc vs.length):StrsAre acc.toList ss:=by
 have hl:vs.length=ss.length:=by have:=congrArg List.length e;rwa [List.length_map,List.length_map] at this
 have h0:∀ v ∈ acc.toList,∃ x t,v = .str x t:=by
  intro v hv
  obtain ⟨i,hi,rfl⟩:=List.getElem_of_mem hv
  obtain ⟨k,x,hk,his⟩:=h.2 i acc.toList[i] (by simp at hi ⊢)
  have hk2:(vs.map (·.1))[i]?=some k:=by rw [List.getElem?_map,hk];rfl
  rw [e,List.getElem?_map] at hk2
  obtain ⟨z,_,rfl⟩:=Option.map_eq_some_iff.mp hk2
  cases hv2:acc.toList[i] with
  | str y t=>exact ⟨y,t,rfl⟩
  | _=>rw [hv2] at his;cases his
 have h1:=strsAre_map acc.toList h0
 have e2:acc.toList.map strOf=ss:=by
  apply List.ext_getElem?
  intro i
  rw [List.getElem?_map]
  by_cases hi:i < acc.size
  ·obtain ⟨k,x,hk,his⟩:=h.2 i acc[i] (Array.getElem?_eq_getElem hi)
   have hk2:(vs.map (·.1))[i]?=some k:=by rw [List.getElem?_map,hk];rfl
   rw [e,List.getElem?_map] at hk2
   obtain ⟨z,hz,rfl⟩:=Option.map_eq_some_iff.mp hk2
   obtain ⟨y,t,hy⟩:=h0 acc[i] (by simp)
   rw [hy] at his
   have:y=z:=by
    have q:qqp (Sum.inr z) (.str y t)=true:=his
    have q2:=qo4 y t
    have q3:=(qbq P w).inj (.str y t) (Sum.inr z) (Sum.inr y) his (qg1 P w y t)
    injection q3 with q3
    exact q3.symm
   rw [hz,Array.getElem?_toList,Array.getElem?_eq_getElem hi,hy,<- this]
   rfl
  ·have h1:=h.1
   rw [List.getElem?_eq_none (by simp;omega),List.getElem?_eq_none (by omega)]
   rfl
 rw [e2] at h1
 exact h1
theorem sort_rest {A:Around} {E:Value->Shared->Prop} {s:Shared} {vs:List Value} {ss:List Str} {Q:Value->Shared->Prop} {P:Program} {w:World} (hS:StrsAre vs ss) (h64:vs.length < 64)
  (h:∀ (h':Heap) (out:List Value) (ss':List Str) (e:Nat),(∀ b o,s.heap.get? b=some o->h'.get? b=some o)->h'.get? s.heap.objs.size=some (seqObj "list" out.toArray e)->StrsAre out ss'->ss'.Perm ss->sortedS ss'=true->Q (.ref s.heap.objs.size) { s with heap:=h' }) :
  wpAny (model P w) A (newList vs >>= fun l=>holding [l] (call (.builtin "list.sort") [l]) >>= fun _=>pure l) Q E s:=by
 refine wpAny_bind (wpAny_newList ?_)
 have ho:(s.heap.push (seqObj "list" vs.toArray 0)).get? s.heap.objs.size=some (seqObj "list" vs.toArray 0):=Heap.get?_push_size _ rfl
 refine wpAny_bind (wpAny_holding (wpAny_call_entry slot_list_sort (s:={ s with heap:=s.heap.push (seqObj "list" vs.toArray 0) }) ⟨_,ho,rfl⟩ entry_list_sort
  (list_sort_treeK strKind_oneLt (s:={ s with heap:=s.heap.push (seqObj "list" vs.toArray 0) }) ho hS.keysOf (fun v1 v2 rest e=>keyKind_strs (by rw [<- e];exact hS)) h64 fun st p1 p2=>⟨_,rfl,?_⟩) (args_list_sort _)))
 obtain ⟨ss',a1,a2,a3⟩:=sorted_out_str hS p1 p2
 obtain ⟨e,he⟩:=sortedHeap_at (out:=(arrOf st).map (·.2)) ho
 refine wpAny_pure (h _ _ ss' e (fun b o hb=>?_) (by rw [Array.toArray_toList];exact he) a1 a2 a3)
 have hlt:=Heap.lt_size hb
 rw [sortedHeap_old (Nat.ne_of_lt hlt) (by rw [Heap.size_push];exact Nat.lt_succ_of_lt hlt)]
 exact Heap.get?_push_of_some _ hb
theorem qu2 {A:Around} {E:Value->Shared->Prop} {s:Shared} {vs:List Value} {ss:List Str} {Q:Value->Shared->Prop} {P:Program} {w:World} (hS:StrsAre vs ss) (h64:vs.length < 64)
  (h:∀ (h':Heap) (out:List Value) (ss':List Str) (e:Nat),(∀ b o,s.heap.get? b=some o->h'.get? b=some o)->h'.get? s.heap.objs.size=some (seqObj "list" out.toArray e)->StrsAre out ss'->ss'.Perm ss->sortedS ss'=true->Q (.ref s.heap.objs.size) { s with heap:=h' }) :
  wpAny (model P w) A (newList vs >>= fun l=>holding [l] (call (.builtin "list.sort") [l] []) >>= fun _=>ret l) (fun fin s'=>∃ v,fin=PySem.Fin.done (.ret v)/\Q v s') E s:=by
 refine wpAny_bind (wpAny_newList ?_)
 have ho:(s.heap.push (seqObj "list" vs.toArray 0)).get? s.heap.objs.size=some (seqObj "list" vs.toArray 0):=Heap.get?_push_size _ rfl
 refine wpAny_bind (wpAny_holding (wpAny_call_entry slot_list_sort (s:={ s with heap:=s.heap.push (seqObj "list" vs.toArray 0) }) ⟨_,ho,rfl⟩ entry_list_sort
  (list_sort_treeK strKind_oneLt (s:={ s with heap:=s.heap.push (seqObj "list" vs.toArray 0) }) ho hS.keysOf (fun v1 v2 rest e=>keyKind_strs (by rw [<- e];exact hS)) h64 fun st p1 p2=>⟨_,rfl,?_⟩) (args_list_sort _)))
 obtain ⟨ss',a1,a2,a3⟩:=sorted_out_str hS p1 p2
 obtain ⟨e,he⟩:=sortedHeap_at (out:=(arrOf st).map (·.2)) ho
 refine wpAny_pure ⟨_,rfl,h _ _ ss' e (fun b o hb=>?_) (by rw [Array.toArray_toList];exact he) a1 a2 a3⟩
 have hlt:=Heap.lt_size hb
 rw [sortedHeap_old (Nat.ne_of_lt hlt) (by rw [Heap.size_push];exact Nat.lt_succ_of_lt hlt)]
 exact Heap.get?_push_of_some _ hb
theorem qt2 {K:PySem.W.Frag} (hc:X.calm=true) (hK:X.K=K):CallR X (.builtin "sorted") (rSortS K):=by
 subst hK
 intro pins s σ H xs us Q I r h
 obtain ⟨a,ss,rfl,hq,h64,q⟩:=h
 obtain ⟨u,rfl,ru⟩:=qjl r
 obtain rfl:u=Value.ref a:=ru
 rcases hq with hq | ⟨kvs,hq,hk⟩
 ·obtain ⟨its,rv,p,hz⟩:=I.list hq
  have hS:=qod rv
  have hl:its.length=ss.length:=by have e:=rv.length;rw [List.length_map] at e;exact e.symm
  refine sorted_strs p.isList hS (by omega) fun out ss' a1 a2 a3=>?_
  obtain ⟨e,he⟩:=sortedAll_at s.heap its out
  refine ⟨.ref _,_,I.laid (t':=s.toks) (o:= .lst (ss'.map V.str)) (fun b o hb=>sortedAll_old hb) (Nat.le_succ _) ?_,rfl,q _ ss' (I.hok.fresh (Nat.le_succ _)) a2 (qoe a3)⟩
  exact ⟨by rw [List.length_map,a2.length_eq];exact Nat.le_of_lt (qfl (by omega)),out.toList,e,qjk a1,by simpa [seqObj] using he⟩
 ·obtain ⟨z,hd,vs,rel,dd⟩:=qqz I.hok hq
  obtain ⟨ep,hat⟩:=dd.dictAt
  have ek:=key_strs rel hk
  have hvl:vs.length=ss.length:=by have:=congrArg List.length ek;rwa [List.length_map,List.length_map] at this
  refine Calls.call_function_entry (id := "sorted") kind_sorted plain_sorted entry_sorted (args_sorted1 _) ?_
  unfold Builtin.«sorted»;refine wpAny_bind (m:=checkCount "sorted" 1 1 _) (wpAny_pure ?_)
  refine wpAny_bind (PySem.W.kdu_collect (PySem.W.kdl_dict (knd:=qbq X.prog X.w) (kvs:=vs) (ep:=ep) hd) (by simpa using I.ok.hd hc) hat (Nat.le_of_lt (qfl (by omega))) fun h1 tk acc k1 hacc=>?_)
  have hS:=qtm ek hacc
  have hal:acc.toList.length=ss.length:=by have:=hacc.1;simp;omega
  refine qu2 (s:={ s with heap:=h1,toks:=tk }) hS (by omega) fun h' out ss' e k2 he a1 a2 a3=>?_
  have I1:Inv X pins σ H { s with heap:=h1,toks:=tk }:=I.kept (t':=tk) k1
  refine ⟨.ref _,_,I1.laid (t':=tk) (o:= .lst (ss'.map V.str)) k2 (Nat.le_refl _) ?_,rfl,q _ ss' (I1.hok.fresh (Nat.le_refl _)) a2 (qoe a3)⟩
  exact ⟨by rw [List.length_map,a2.length_eq];exact Nat.le_of_lt (qfl (by omega)),out,e,qjk a1,he⟩
end
end L2
namespace L2
open PySem PySem.Spec PySem.Calls
section
variable {P:Program} {w:World} {A:Around} {E:Value->Shared->Prop}
theorem qow:typeLookup (.type "list") "keys"=pure none:=am_miss_of_fast (by kernel_rfl)
theorem qox:typeLookup (.type "list") "__getattr__"=pure none:=am_miss_of_fast (by kernel_rfl)
theorem qtv {hp:Heap} {g:Array GenState} {d:Drawn} {tk:Nat} {os:_} {a:Addr} {its:Array Value} {n:Nat} {u:Tok} {Q:PySem.Fin->Shared->Prop} (ho:hp.get? a=some { cls:= .type "list",data:= .seq its n }) (hh:A.handled=none)
  (h:∀ h' tk' e,Heap.NewAttrErr hp h' e (.ref a) "keys"->E (.ref e) ⟨h',g,d,tk',os⟩) :
  wpAny (model P w) A (Builtin.«object.__getattribute__» ⟨[.ref a,.str "keys" u],[]⟩) Q E ⟨hp,g,d,tk,os⟩:=by
 have hT:(⟨hp,g,d,tk,os⟩:Shared).TypeIs (.ref a) "list":=⟨_,ho,rfl⟩
 have f0:=qow
 unfold Builtin.«object.__getattribute__»
 (repeat (any_goals (first | assumption | wp_step)))
 exact wpAny_raiseAttrError (s:=⟨hp,g,d,tk,os⟩) hh h (attrMsg_fits (by decide +kernel) (by decide +kernel))
theorem qpu {s:Shared} {a:Addr} {its:Array Value} {n:Nat} {Q:Option Value->Shared->Prop} (ho:s.heap.get? a=some { cls:= .type "list",data:= .seq its n }) (hh:A.handled=none)
  (h:∀ h' tk,(∀ b o,s.heap.get? b=some o->h'.get? b=some o)->Q none { s with heap:=h',toks:=tk }):wpAny (model P w) A (getAttr? (.ref a) "keys") Q E s:=by
 obtain ⟨hp,g,d,tk,os⟩:=s
 have hT:∀ t',(⟨hp,g,d,t',os⟩:Shared).TypeIs (.ref a) "list":=fun _=>⟨_,ho,rfl⟩
 have f1:=sub_AttributeError
 have f2:=PySem.F.slot_list_getattribute.lookup
 have f3:=PySem.F.slot_list_getattribute.bind (.ref a)
 have f5:=qox
 unfold getAttr? getAttrBy? getAttrBy
 (repeat (any_goals (first | assumption | exact hT _ | wp_step)))
 refine codeAny_call_builtin PySem.F.slot_list_getattribute.plain PySem.F.entry_list_ga (PySem.F.slot_list_getattribute.check _ _ _ _ _ _ _ _ (hT _) (PySem.F.args_list_getattribute_2 _ _) (qtv ho (by simpa using hh) fun h' tk' e hx=>?_))
 obtain ⟨t',u',he⟩:=hx.there
 have hk:=hx.keeps
 show wpAny _ _ (getattributeRaised _ _ _ _ _ _ _) _ _ _
 unfold getattributeRaised
 (repeat (any_goals (first | assumption | wp_step)))
 exact h _ _ hk
end
end L2
namespace L2
open PySem PySem.Spec PySem.Calls PyProof.Rows
section
variable {X:Cx}
theorem qrh:∀ {xs:List V} {us:List Value},Vals xs us->Vals xs.reverse us.reverse
 | [],_,.nil=> .nil
 | _::_,_,.cons p r=>by rw [List.reverse_cons,List.reverse_cons];exact Vals.append (qrh r) (.cons p .nil)
theorem qs5 {α:Type} (l:List α):(List.range l.length).filterMap (fun k=>l[l.length - 1 - k]?)=l.reverse:=by
 have e:∀ ks:List Nat,(∀ k ∈ ks,k < l.length)->ks.filterMap (fun k=>l[l.length - 1 - k]?)=ks.filterMap (fun k=>l.reverse[k]?):=by
  intro ks
  induction ks with
  | nil=>intro _;rfl
  | cons k ks ih =>
   intro h
   rw [List.filterMap_cons,List.filterMap_cons,ih fun j hj=>h j (List.mem_cons_of_mem _ hj),List.getElem?_reverse (h k List.mem_cons_self)]
 rw [e _ fun k hk=>List.mem_range.mp hk,<- List.length_reverse]
 generalize l.reverse=r
 induction r with
 | nil=>rfl
 | cons x r ih =>
  rw [List.length_cons,List.range_succ_eq_map,List.filterMap_cons,List.filterMap_map]
  simp only [List.getElem?_cons_zero]
  show x::(List.range r.length).filterMap (fun k=>(x::r)[k + 1]?)=_
  simp only [List.getElem?_cons_succ]
  rw [ih]
theorem pick_rev (its:List Value):slicePick its.toArray none none (some (-1))=its.reverse.toArray:=by
 unfold slicePick
 congr 1
 rw [<- qs5 its]
 have e:sliceRange (sliceBounds none none (some (-1)) its.toArray.size).1 (sliceBounds none none (some (-1)) its.toArray.size).2.1 (sliceBounds none none (some (-1)) its.toArray.size).2.2=(List.range its.length).map fun k=>its.length - 1 - k:=by
  show sliceRange ((its.toArray.size:Int) - 1) (-1) (-1)=_
  rw [List.size_toArray]
  unfold sliceRange
  have c:(if (-1:Int) > 0 then (if (its.length:Int) - 1 < -1 then (-1 - ((its.length:Int) - 1) + -1 - 1) / -1 else 0) else (if (its.length:Int) - 1 > -1 then ((its.length:Int) - 1 - -1 - -1 - 1) / (- -1) else 0))=(its.length:Int):=by
   rw [if_neg (by decide),show (- -1:Int)=1 from rfl,Int.ediv_one]
   split <;> omega
  simp only []
  rw [c,Int.toNat_natCast]
  refine List.map_congr_left fun k hk=>?_
  have:=List.mem_range.mp hk
  omega
 rw [e,List.filterMap_map]
 congr 1
 funext k
 show its.toArray[its.length - 1 - k]?=_
 simp
def tRev (K:PySem.W.Frag) (te:TE) (ts:TO):TE:=fun σ H Q=>te σ H fun x H1=>ts σ H1 fun o H2=>o=some (-1)/\∃ a xs,x = .ref a/\SqL K H2 a xs/\∀ l,H2 l=none->Q (.ref l) (upd H2 l (.lst xs.reverse))
theorem pe_revK {K:PySem.W.Frag} {e st:Expr} {te:TE} {ts:TO} {pos p2:Pos} (hK:X.K=K) (he:PE X e te) (hs:PO X (some st) ts):PE X (.Subscript e (.Slice none none (some st) p2) pos) (tRev K te ts):=by
 subst hK
 intro pins s σ H Q I h
 refine Subscript_ (thn (he pins s σ H _ I h) fun v s1 ⟨x,H1,I1,r1,q1⟩=>?_)
 refine wpAny_Slice ?_
 rw [evalPart_none]
 refine wpAny_pure (wpAny_pure (thn (hs pins s1 σ H1 _ I1 q1) fun vs s3 ⟨o,H3,I3,ps,q3⟩=>?_))
 obtain ⟨rfl,a,xs,rfl,hx,q⟩:=q3
 cases r1
 have I4:Inv X pins σ H3 { s3 with heap:=s3.heap.push { cls:= .type "slice",data:= .fields #[.none,.none,vs] } }:=I3.kept (t':=s3.toks) fun b ob q=>Heap.get?_push_of_some _ q
 obtain ⟨its,r,ht,hz⟩:=I4.list hx
 have hlen:=r.length
 refine tail_any (ops:=[.ref a,.ref s3.heap.objs.size]) ht.isList.typeIs slot_list_getitem.lookup ?_ (by with_unfolding_all rfl)
 refine wpAny_getItem_list_slice ht.isList (Heap.IsSliceOf.new ..) .none .none ps (by decide) ?_ (by rw [List.size_toArray];omega)
 rw [pick_rev]
 refine ⟨.ref _,_,I4.laid (t':=s3.toks) (o:= .lst xs.reverse) (fun b ob q=>Heap.get?_push_of_some _ q) (Nat.le_refl _) ?_,rfl,q _ (I4.hok.fresh (Nat.le_refl _))⟩
 exact ⟨by rw [List.length_reverse];exact hz,_,0,qrh r,Heap.get?_push_size _ rfl⟩
end
end L2
namespace L2
open PySem PySem.Spec PySem.Calls PyProof.Rows
theorem qxs:bootBuiltins "set"=some (.type "set"):=by decide +kernel
section
variable {P:Program} {w:World} {A:Around} {R:Result->Shared->Prop} {I:Addr} {fp wr:List Addr} {n:Nat} {Pp:Nat->Value->Prop} {St:Nat->Heap->Prop}
end
section
variable {P:Program} {w:World} {A:Around} {E:Value->Shared->Prop} {s:Shared} {l:Addr} {xs:Array (Int × Tok)}
end
end L2
namespace L2
open PySem PySem.Spec PySem.Calls PyProof.Rows
theorem qwa (e:Expr) (z:Str) (t:Tok):∀ r,letTemporaryGo e (.str z t) r=pure ():=fun r=>by cases e <;> rfl
section
variable {X:Cx}
theorem qvs {e:Expr} {te:TE} {lo hi:Option Expr} {tl th:TO} {pos p2:Pos} (he:PE X e te) (hl:PO X lo tl) (hu:PO X hi th):PE X (.Subscript e (.Slice lo hi none p2) pos) (tSlS te tl th):=by
 intro pins s σ H Q I h
 refine Subscript_ (thn (he pins s σ H _ I h) fun v s1 ⟨x,H1,I1,r1,q1⟩=>?_)
 refine wpAny_Slice (thn (hl pins s1 σ H1 _ I1 q1) fun vl s2 ⟨l,H2,I2,pl,q2⟩=>thn (hu pins s2 σ H2 _ I2 q2) fun vu s3 ⟨u,H3,I3,pu,q3⟩=>?_)
 rw [evalPart_none]
 refine wpAny_pure ?_
 obtain ⟨z,e1,hz,alt,q⟩:=q3
 subst e1
 obtain ⟨t,rfl⟩:=r1
 have kp:KeptH (fun h=>∀ k,Inv X pins σ H3 { s3 with heap:=h,toks:=k }):=fun h ob a k=>(a k).kept (t':=k) fun b o e=>Heap.get?_push_of_some _ e
 have I0:∀ k,Inv X pins σ H3 { s3 with heap:=s3.heap,toks:=k }:=fun k=>I3.tok k
 rcases alt with ⟨rfl,j,rfl⟩ | ⟨rfl,i,rfl⟩
 ·cases pl
  cases pu with
  | int j' uj=>exact tail_of_ItemOn (SBH.sliceItem_ns kp I0 (fun h' t' k a=>⟨.str _,H3,a k,⟨_,rfl⟩,q⟩) hz) (by with_unfolding_all rfl) (qwa _ _ _)
 ·cases pu
  cases pl with
  | int i' ui=>exact tail_of_ItemOn (SBH.sliceItem_sn kp I0 (fun h' t' k a=>⟨.str _,H3,a k,⟨_,rfl⟩,q⟩) hz) (by with_unfolding_all rfl) (qwa _ _ _)
end
end L2
namespace L2
open PySem PySem.Spec PySem.Calls PyProof.Rows
section
variable {X:Cx}
end
section
variable {P:Program} {w:World} {κ:Type} [DecidableEq κ] {knd:PySem.KeyKind P w κ}
theorem qpa:entryFor table "dict.update.loop"=some Builtin.«dict.update.loop»:=entryFor_of_tree (by kernel_rfl)
theorem qhe:plainId "dict.update.loop"=true:=by decide +kernel
theorem qw5 {A:Around} {R:Result->Shared->Prop} {I:Addr} {fp wr:List Addr} {Pp:Nat->Value->Prop} {St:Nat->Heap->Prop} {more:List (κ × Value)} {lo:Addr}
  (W:Walks P w A.in1 I fp wr more.length Pp St) (d:Addr) (hdf:d ∉ fp) (hlo:lo<=d) (hwr:∀ b ∈ wr,lo<=b) (hsz:more.length<=sizeLine) :
  ∀ (m i:Nat) (z:Int) (tk:Tok) (s:Shared),more.length - i=m->i<=more.length->St i s.heap->s.heap.DictOf knd d (merged [] (more.take i)) ->
   (∀ j v kv,Pp j v->more[j]?=some kv->∃ t k,t < lo/\v = .ref t/\knd.is kv.1 k=true/\IsTup s.heap t #[k,kv.2]) ->
   (∀ h' tk',(∀ b o,b < lo->s.heap.get? b=some o->h'.get? b=some o)->h'.DictOf knd d (merged [] more)->R (.ok (.ret .none)) { s with heap:=h',toks:=tk' }) ->
   codeAny (model P w) A (.builtin "dict.update.loop" ⟨[.ref d,.ref I,.int z tk,.none],[]⟩) R s:=by
 have hdw:d ∉ wr:=fun q=>hdf (W.sub _ q)
 intro m
 induction m with
 | zero =>
  intro i z tk s hm hi st hd hp hR
  have hin:i=more.length:=by omega
  subst hin
  refine codeAny_builtin qpa ?_
  rw [Around.under_plainId qhe _]
  show wpAny _ A.in1 (pyNext (.ref I) >>= _) _ _ s
  refine wpAny_bind (W.done s _ _ st fun h' tk' k=>?_)
  show wpAny _ A.in1 (Builtin.Dict.addKeywords d [] >>= _) _ _ _
  refine wpAny_bind (wpAny_pure ?_)
  refine wpAny_pure (hR h' tk' (fun b o hb e=>k b o (fun q=>absurd (hwr b q) (Nat.not_le.mpr hb)) e) ?_)
  rw [List.take_length] at hd
  obtain ⟨o,es,ep,ho,r⟩:=hd
  exact ⟨o,es,ep,k d o hdw ho,r⟩
 | succ m ih =>
  intro i z tk s hm hi st hd hp hR
  have hlt:i < more.length:=by omega
  refine codeAny_builtin qpa ?_
  rw [Around.under_plainId qhe _]
  show wpAny _ A.in1 (pyNext (.ref I) >>= _) _ _ s
  refine wpAny_bind (W.item i s _ _ hlt st fun v h' tk' hPv st' k=>?_)
  obtain ⟨t,kk,ht,rfl,hk,o,ho,hc,n,hdt⟩:=hp i v more[i] hPv (List.getElem?_eq_getElem hlt)
  have ho':h'.get? t=some o:=k t o (fun q=>absurd (hwr t q) (Nat.not_le.mpr ht)) ho
  have hd':h'.DictOf knd d (merged [] (more.take i)):=by
   obtain ⟨o,es,ep,ho,r⟩:=hd
   exact ⟨o,es,ep,k d o hdw ho,r⟩
  have hT:Shared.TypeIs { s with heap:=h',toks:=tk' } (.ref t) "tuple":=⟨o,ho',hc⟩
  show wpAny _ A.in1 (holding [.ref t] _ >>= _) _ _ _
  refine wpAny_bind (wpAny_holding (wpAny_bind (wpAny_tryCatch ?_)))
  unfold Builtin.Dict.pairItems
  refine wpAny_bind (wpAny_typeOf hT ?_)
  rw [if_pos (by decide)]
  refine wpAny_bind (wpAny_seqItems ho' hdt (wpAny_pure ?_))
  show wpAny _ A.in1 (holding [kk,more[i].2] (dictSet d kk more[i].2)) _ _ _
  refine wpAny_holding (wpAny_dictSet_pairs (knd:=knd) hk hd' (fun h2 hd2 sb=>?_) ?_)
  ·rw [<- merged_take_succ [] more i more[i] (List.getElem?_eq_getElem hlt)] at hd2
   have keep2:∀ b o,b < lo->s.heap.get? b=some o->h2.get? b=some o:=fun b o hb e=>by
    rw [sb.2 b (Nat.ne_of_lt (Nat.lt_of_lt_of_le hb hlo))]
    exact k b o (fun q=>absurd (hwr b q) (Nat.not_le.mpr hb)) e
   refine wpAny_pure ⟨plainId_quiet qhe _,ih (i + 1) _ _ _ (by omega) hlt (W.frame _ _ _ st' fun b hb o e=>?_) hd2 (fun j v kv hv hj=>?_) fun h3 tk3 k3 hd3=>?_⟩
   ·rw [sb.2 b (fun q=>hdf (by rw [<- q];exact hb))];exact e
   ·obtain ⟨t,kk,ht,rfl,hk,o,ho,r⟩:=hp j v kv hv hj
    exact ⟨t,kk,ht,rfl,hk,o,keep2 t o ht ho,r⟩
   ·exact hR h3 tk3 (fun b o hb e=>k3 b o hb (keep2 b o hb e)) hd3
  ·have:=merged_length_le [] (more.take i)
   rw [List.length_take,List.length_nil] at this
   omega
theorem qll {A:Around} {E:Value->Shared->Prop} {s:Shared} {l:Addr} {its:Array Value} {n:Nat} {more:List (κ × Value)} {Q:Value->Shared->Prop} (hh:A.handled=none) (ho:s.heap.get? l=some { cls:= .type "list",data:= .seq its n }) (hlen:its.size=more.length) (hsz:more.length<=sizeLine)
  (hp:∀ (j:Nat) (v:Value) (kv:κ × Value),its[j]?=some v->more[j]?=some kv->∃ t k,v = .ref t/\knd.is kv.1 k=true/\IsTup s.heap t #[k,kv.2])
  (h:∀ h' tk',(∀ b o,s.heap.get? b=some o->h'.get? b=some o)->h'.DictOf knd s.heap.objs.size (merged [] more)->Q (.ref s.heap.objs.size) { s with heap:=h',toks:=tk' }) :
  wpAny (model P w) A (call (.type "dict") [.ref l]) Q E s:=by
 refine callType_codes (Q₁:=fun ob s1=>ob = .ref s.heap.objs.size/\s1={ s with heap:=s.heap.push { cls:= .type "dict",data:= .dict #[] } }) PySem.F.kt_called_dict (PySem.F.kt_typeCall_dict_1 _) PySem.F.entry_dict_init (kt_code_dict_new _ ⟨rfl,rfl⟩) ?_
 rintro ob s1 ⟨rfl,rfl⟩
 have hnew:(s.heap.push { cls:= .type "dict",data:= .dict #[] }).DictOf knd s.heap.objs.size []:=Heap.DictOf.new s.heap
 have ho':(s.heap.push { cls:= .type "dict",data:= .dict #[] }).get? l=some { cls:= .type "list",data:= .seq its n }:=Heap.get?_push_of_some _ ho
 have hTl:Shared.TypeIs { s with heap:=s.heap.push { cls:= .type "dict",data:= .dict #[] } } (.ref l) "list":=⟨_,ho',rfl⟩
 have hlt:l < s.heap.objs.size:=Heap.lt_size ho
 refine ⟨hnew.typeIs,PySem.F.args_dict_init_2 _ _,?_⟩
 unfold Builtin.«dict.__init__»
 refine wpAny_bind ?_
 unfold Builtin.Dict.selfAndRest
 refine wpAny_bind (wpAny_notOrdered_dict hnew.typeIs ?_)
 show wpAny _ _ (pure (s.heap.objs.size,[Value.ref l])) _ _ _
 refine wpAny_pure ?_
 show wpAny _ _ (Builtin.Dict.updateFrom "dict.__init__" s.heap.objs.size (.ref l) [] .none) _ _ _
 unfold Builtin.Dict.updateFrom
 refine wpAny_bind (wpAny_typeOf hTl ?_)
 rw [if_pos (by decide)]
 refine wpAny_bind (qpu ho' (by simpa using hh) fun h1 tk1 k1=>?_)
 rw [if_pos (show (none:Option Value).isNone=true from rfl)]
 refine wpAny_bind (wpAny_rule ?_)
 have ho1:=k1 _ _ ho'
 have hl1:h1.IsList l its:=⟨_,ho1,rfl,n,rfl⟩
 refine wpAny_bind (wpAny_pyIter_list (s:={ s with heap:=h1,toks:=tk1 }) hl1 ?_)
 have hd1:h1.DictOf knd s.heap.objs.size []:=by
  obtain ⟨o,es,ep,hq,r⟩:=hnew
  exact ⟨o,es,ep,k1 _ _ hq,r⟩
 have hdlt:s.heap.objs.size < h1.objs.size:=by obtain ⟨o,es,ep,hq,r⟩:=hd1;exact Heap.lt_size hq
 have hll:l < h1.objs.size:=Heap.lt_size ho1
 refine wpAny_pure ⟨plainId_quiet qhe _,?_⟩
 have W:=Walks.list (prog:=P) (w:=w) (A:=A.in1.in1) (by simpa using hh) h1.objs.size l (Nat.ne_of_lt hll) its
 rw [hlen] at W
 refine qw5 (knd:=knd) (lo:=s.heap.objs.size) W s.heap.objs.size ?_ (Nat.le_refl _) (fun b hb=>?_) hsz more.length 0 _ _ { s with heap:=h1.push { cls:= .type "list_iterator",data:= .fields #[.ref l,.int 0 0] },toks:=tk1 } (by omega) (Nat.zero_le _) ⟨⟨_,Heap.get?_push_size _ rfl,rfl,rfl⟩,hl1.push _⟩ ?_ (fun j v kv hv hj=>?_) fun h' tk' kp hd=>?_
 ·simp only [List.mem_cons,List.not_mem_nil,or_false,not_or];exact ⟨Nat.ne_of_lt hdlt,Nat.ne_of_gt hlt⟩
 ·rw [List.mem_singleton.mp hb];exact Nat.le_of_lt hdlt
 ·obtain ⟨o,es,ep,hq,r⟩:=hd1
  exact ⟨o,es,ep,Heap.get?_push_of_some _ hq,r⟩
 ·obtain ⟨t,k,rfl,hk,o,hto,r⟩:=hp j v kv hv hj
  exact ⟨t,k,Heap.lt_size hto,rfl,hk,o,Heap.get?_push_of_some _ (k1 _ _ (Heap.get?_push_of_some _ hto)),r⟩
 ·exact ⟨rfl,h h' tk' (fun b o e=>kp b o (Heap.lt_size e) (Heap.get?_push_of_some _ (k1 _ _ (Heap.get?_push_of_some _ e)))) hd⟩
end
section
variable {X:Cx}
theorem pairs_of {pins:List (Addr × Obj)} {σ:St} {H:Hp} {s:Shared} (I:Inv X pins σ H s) {ts:List Addr} {kvs:List (Key × V)} (r:Paired (fun t (kv:Key × V)=>H t=some (.tup [kV kv.1,kv.2])) ts kvs) :
  ∃ more:List (Key × Value),KV kvs more/\∀ (j:Nat) (t:Addr) (m:Key × Value),ts[j]?=some t->more[j]?=some m->∃ k,(qbq X.prog X.w).is m.1 k=true/\IsTup s.heap t #[k,m.2]:=by
 induction r with
 | nil=>exact ⟨[],.nil,fun j t m h=>by simp at h⟩
 | @cons t kv ts kvs p _ ih =>
  obtain ⟨more,k1,k2⟩:=ih
  obtain ⟨_,its,rv,ht⟩:=(show ObjOk X.prog X.w H s.heap t (.tup [kV kv.1,kv.2]) from I.hok t _ p)
  cases rv with
  | cons p1 r1 =>
   cases r1 with
   | cons p2 r2 =>
    cases r2
    rename_i u1 u2
    refine ⟨(kv.1,u2)::more,.cons ⟨rfl,p2⟩ k1,fun j t' m h1 h2=>?_⟩
    cases j with
    | zero =>
     simp at h1 h2
     subst h1 h2
     exact ⟨u1,qtl p1,ht⟩
    | succ j=>exact k2 j t' m (by simpa using h1) (by simpa using h2)
theorem qn9:∀ {ts:List Addr} {us:List Value},Vals (ts.map V.ref) us->us=ts.map Value.ref
 | [],_,.nil=>rfl
 | t::ts,_,.cons p r=>by
  obtain rfl:=(show _=Value.ref t from p)
  rw [qn9 r];rfl
theorem qx0:∀ {kvs:List (Key × V)} {vs:List (Key × Value)},KV kvs vs->vs.map (·.1)=kvs.map (·.1)
 | [],_,.nil=>rfl
 | _::_,_,.cons p r=>by rw [List.map_cons,List.map_cons,qx0 r,p.1]
end
end L2
namespace L2
open PySem PySem.Spec PyProof.Rows
structure qg6 (X:Cx) (N':List Str) (cap:List (Option Nat)) (sc:Scope):Prop where
 kind:sc.kind = .function
 names:∀ y ∈ sc.names,y.2 = .local->sc.names.lookup y.1=some .local
 celln:∀ y ∈ sc.names,y.2 = .cell->sc.names.lookup y.1=some .cell
 free:∀ y ∈ sc.names,y.2 = .free->X.env.kindOf y.1=some .cell ∨ X.env.kindOf y.1=some .free
 freen:∀ y ∈ sc.names,y.2 = .free->sc.names.lookup y.1=some .free
 len:cap.length=N'.length
 cap:∀ (j i:Nat),cap[j]?=some (some i)->∃ x,N'[j]?=some x/\X.N[i]?=some x/\sc.names.lookup x=some .free
def qqj (names:List (Str × NameKind)) (kd:Str->Option NameKind) (y:Str × NameKind):Bool :=
 match y.2 with
 | .cell=>names.lookup y.1 == some .cell
 | .local=>names.lookup y.1 == some .local
 | .free=>qwc (kd y.1) && names.lookup y.1 == some .free
 | _=>true
theorem qxi {X:Cx} {N':List Str} {cap:List (Option Nat)} {sc:Scope} (h1:sc.kind = .function) (h2:(sc.names.all fun y=>qqj sc.names X.env.kindOf y)=true) (h3:qfy X.N sc N' cap=true):qg6 X N' cap sc:=by
 have h2':=List.all_eq_true.mp h2
 have key:∀ y ∈ sc.names,qqj sc.names X.env.kindOf y=true:=h2'
 refine ⟨h1,fun y hy e=>?_,fun y hy e=>?_,fun y hy e=>?_,fun y hy e=>?_,qge h3,qho h3⟩ <;> (have q:=key y hy;unfold qqj at q;rw [e] at q)
 ·simpa using q
 ·simpa using q
 ·exact qo1 ((Bool.and_eq_true _ _).mp q).1
 ·simpa using ((Bool.and_eq_true _ _).mp q).2

def qbt (X:Cx) (N':List Str) (sc:Scope) (cl:List (Str × Addr)) (C:Addr) (s:Shared) (H:Hp) (fp:List Addr) (pn:List (Addr × Obj)):Cx where
 prog:=X.prog
 w:=X.w
 K:=X.K
 mg:=X.mg
 base:=X.base
 A:=X.A
 N:=N'
 s₀:=s
 H₀:=H
 env:=compEnvC sc cl C X.env
 outer:=X.stack
 stack:=X.stack
 ex:=fp
 fn:=fun x=>sc.names.lookup x == some .cell
 calm:=X.calm
 pn:=pn
 xe:=fun _ _=>False

structure ClOk (X:Cx) (sc:Scope) (cl:List (Str × Addr)) (C:Addr) (h:Heap):Prop where
 inn:∀ x c,cl.lookup x=some c->(sc.names.lookup x ≠ some .cell/\X.env.cells.lookup x=some c) ∨ (C < c/\h.IsCell c none)
 own:∀ x c,cl.lookup x=some c->sc.names.lookup x=some .cell->C < c
 inj:∀ x y c,cl.lookup x=some c->cl.lookup y=some c->C < c->x=y
 fre:∀ y ∈ sc.names,y.2 = .free->∃ c,cl.lookup y.1=some c/\X.env.cells.lookup y.1=some c
 cel:∀ y ∈ sc.names,y.2 = .cell->∃ c,cl.lookup y.1=some c

theorem qcc:∀ (names:List (Str × NameKind)) (n:Nat) (acc:List (Str × Addr)) (x:Str) (c:Addr),(cellsFrom n names acc).lookup x=some c ->
  (n<=c/\(x,NameKind.cell) ∈ names) ∨ ((x,NameKind.cell) ∉ names/\acc.lookup x=some c)
 | [],n,acc,x,c,h=> .inr ⟨by simp,h⟩
 | (y,k)::r,n,acc,x,c,h=>by
  unfold cellsFrom at h
  split at h
  ·rename_i hk
   have hk':k = .cell:=by simpa using hk
   subst hk'
   rcases qcc r (n + 1) _ x c h with ⟨q,m⟩ | ⟨q,m⟩
   ·exact .inl ⟨Nat.le_of_succ_le q,List.mem_cons_of_mem _ m⟩
   ·rw [List.lookup_cons] at m
    cases e:x == y with
    | true =>
     rw [e] at m
     have e':x=y:=by simpa using e
     subst e'
     exact .inl ⟨Nat.le_of_eq (Option.some.inj m),List.mem_cons_self⟩
    | false =>
     rw [e] at m
     refine .inr ⟨fun z=>?_,m⟩
     rcases List.mem_cons.mp z with z | z
     ·exact absurd (congrArg Prod.fst z) (by simpa using e)
     ·exact q z
  ·rename_i hk
   rcases qcc r n acc x c h with ⟨q,m⟩ | ⟨q,m⟩
   ·exact .inl ⟨q,List.mem_cons_of_mem _ m⟩
   ·refine .inr ⟨fun z=>?_,m⟩
    rcases List.mem_cons.mp z with z | z
    ·exact hk (by cases z;rfl)
    ·exact q z
theorem qdg:∀ (names:List (Str × NameKind)) (n:Nat) (acc:List (Str × Addr)) (x:Str),((x,NameKind.cell) ∈ names ∨ ∃ c,acc.lookup x=some c)->∃ c,(cellsFrom n names acc).lookup x=some c
 | [],n,acc,x,h=>by
  rcases h with h | h
  ·simp at h
  ·exact h
 | (y,k)::r,n,acc,x,h=>by
  unfold cellsFrom
  split
  ·rename_i hk
   refine qdg r (n + 1) _ x ?_
   rw [List.lookup_cons]
   cases e:x == y with
   | true=>exact .inr ⟨n,rfl⟩
   | false =>
    rcases h with h | h
    ·rcases List.mem_cons.mp h with z | z
     ·exact absurd (congrArg Prod.fst z) (by simpa using e)
     ·exact .inl z
    ·exact .inr h
  ·rename_i hk
   refine qdg r n acc x ?_
   rcases h with h | h
   ·rcases List.mem_cons.mp h with z | z
    ·exact absurd (by cases z;rfl) hk
    ·exact .inl z
   ·exact .inr h
theorem qcj:∀ (names:List (Str × NameKind)) (n:Nat) (acc:List (Str × Addr)),cellsFrom n names acc=cellsFrom n names []++acc
 | [],n,acc=>rfl
 | (y,k)::r,n,acc=>by
  unfold cellsFrom
  split
  ·rw [qcj r (n + 1) ((y,n)::acc),qcj r (n + 1) [(y,n)],List.append_assoc];rfl
  ·exact qcj r n acc

theorem clOk {X:Cx} {N':List Str} {cap:List (Option Nat)} {sc:Scope} {cl:List (Str × Addr)} {h:Heap} {C:Addr} (S:qg6 X N' cap sc) (hc1:∀ x c,cl.lookup x=some c->X.env.cells.lookup x=some c)
  (hc2:∀ y ∈ sc.names,y.2 = .free->∃ c,cl.lookup y.1=some c) (hz:h.objs.size=C + 1) (hlt:∀ x c,X.env.cells.lookup x=some c->c < C):ClOk X sc (cellsFrom (C + 1) sc.names cl) C (pushCells h sc.names):=by
 have ok:=cellsFrom_ok sc.names h (C + 1) [] ⟨fun _ _ hm=>(nomatch hm),List.Pairwise.nil⟩ (by rw [hz];exact Nat.le_refl _)
 rw [hz] at ok
 have look:∀ x c,(cellsFrom (C + 1) sc.names cl).lookup x=some c->C < c->(x,c) ∈ cellsFrom (C + 1) sc.names []:=fun x c e hc=>by
  have m:=PySem.mem_of_lookup e
  rw [qcj] at m
  rcases List.mem_append.mp m with m | m
  ·exact m
  ·rcases qcc _ _ _ _ _ e with ⟨_,hm⟩ | ⟨_,e'⟩
   ·obtain ⟨c',e'⟩:=qdg sc.names (C + 1) [] x (.inl hm)
    rw [qcj,List.lookup_append,e'] at e
    have e2:c'=c:=by simpa using e
    exact e2 ▸ PySem.mem_of_lookup e'
   ·exact absurd (hlt _ _ (hc1 _ _ e')) (Nat.not_lt.mpr (Nat.le_of_lt hc))
 refine ⟨fun x c e=>?_,fun x c e hx=>?_,fun x y c e1 e2 hc=>name_of_addr ok.apart (look x c e1 hc) (look y c e2 hc),fun y hy e=>?_,fun y hy e=>qdg _ _ _ _ (.inl (by rw [<- e];exact hy))⟩
 ·rcases qcc _ _ _ _ _ e with ⟨q,_⟩ | ⟨q,e'⟩
  ·exact .inr ⟨q,(ok.empty x c (look x c e q)).1⟩
  ·refine .inl ⟨fun z=>q (PySem.mem_of_lookup z),hc1 x c e'⟩
 ·rcases qcc _ _ _ _ _ e with ⟨q,_⟩ | ⟨q,_⟩
  ·exact q
  ·exact absurd (PySem.mem_of_lookup hx) q
 ·obtain ⟨c,hc⟩:=hc2 y hy e
  obtain ⟨c',e'⟩:=qdg sc.names (C + 1) cl y.1 (.inr ⟨c,hc⟩)
  refine ⟨c',e',?_⟩
  rcases qcc _ _ _ _ _ e' with ⟨_,hm⟩ | ⟨_,e2⟩
  ·have a:=S.freen y hy e
   have b:=S.celln (y.1,.cell) hm rfl
   rw [a] at b;cases b
  ·exact hc1 _ _ e2

theorem qmm {M:Model} {A:Around} {E:Value->Shared->Prop} {s:Shared} {scope:Scope} {globals:Addr} {cl:List (Str × Addr)} {qual:Str} {func:Option Addr} {code:Value} {outer:Env} {builtins:Addr} {Q:Env->Shared->Prop}
  (hQ:Q (newEnv scope s.heap.objs.size globals (cellsFrom (s.heap.objs.size + 1) scope.names cl) qual func code (some outer) builtins) { s with heap:=pushCells (s.heap.push { cls:= .type "dict",data:= .dict #[] }) scope.names }) :
  wpAny M A (newFunctionEnv scope globals cl [] qual func code (some outer) builtins) Q E s:=by
 simp only [newFunctionEnv,Option.isSome_some,if_true]
 refine wpAny_bind (wpAny_alloc ?_)
 refine wpAny_bind (wpAny_layCells _ (fun name kind cells=>by cases hkc:kind == NameKind.cell <;> simp [hkc]) _ _ _ _ ?_)
 rw [show ({ s with heap:=s.heap.push { cls:= .type "dict",data:= .dict #[] } }:Shared).heap.objs.size=s.heap.objs.size + 1 from Heap.size_push ..]
 simp only [List.forIn_nil]
 exact wpAny_bind (wpAny_pure (wpAny_pure hQ))

section
variable {X:Cx} {pins:List (Addr × Obj)} {σ:St} {H:Hp} {s:Shared} {h1:Heap} {N':List Str} {cap:List (Option Nat)} {sc:Scope} {cl:List (Str × Addr)} {fp:List Addr} {C D:Addr}
theorem qt0 (I:Inv X pins σ H s) (S:qg6 X N' cap sc) (L:ClOk X sc cl C h1)
  (hf:∀ b ∈ fp,qlm X pins H b) (ho:∀ b ∈ fp,b < s.heap.objs.size) (hC:s.heap.objs.size<=C):(qbt X N' sc cl C s H fp (X.pn++pins)).Ok where
 mod:=I.ok.mod
 kind:=S.kind
 glob:=I.ok.glob
 blt:=I.ok.blt
 above:=hC
 inj:=fun x y c e1 e2=>by
  have lt:∀ z,X.env.cells.lookup z=some c->c < C:=fun z e=>by obtain ⟨v,q⟩:=I.cell z c e;exact Nat.lt_of_lt_of_le q.lt hC
  rcases L.inn x c e1 with ⟨_,a1⟩ | ⟨a1,_⟩
  ·rcases L.inn y c e2 with ⟨_,a2⟩ | ⟨a2,_⟩
   ·exact I.ok.inj x y c a1 a2
   ·exact absurd (Nat.lt_trans (lt x a1) a2) (Nat.lt_irrefl _)
  ·exact L.inj x y c e1 e2 a1
 has:=fun x hx=>by
  have key:∀ k,(relabel sc X.env).names.lookup x=some k->(k = .cell ∨ k = .free)->∃ c,cl.lookup x=some c:=fun k e hk=>by
   obtain ⟨k',e',q⟩:=qgx e
   have hm:=PySem.mem_of_lookup e'
   have hfree:k' = .free ∨ k' = .cell:=by
    rcases q with q | q
    ·rcases hk with z | z
     ·exact .inr (q.trans z)
     ·exact .inl (q.trans z)
    ·exact .inl q.1
   rcases hfree with z | z
   ·obtain ⟨c,q,_⟩:=L.fre (x,k') hm z
    exact ⟨c,q⟩
   ·exact L.cel (x,k') hm z
  rcases hx with e | e
  ·exact key _ e (.inl rfl)
  ·exact key _ e (.inr rfl)
 cab:=fun x c hx e=>by
  have hx':sc.names.lookup x=some .cell:=by simpa [qbt] using hx
  exact Nat.le_trans hC (Nat.le_of_lt (L.own x c e hx'))
 hd:=I.ok.hd
 frames:=I.ok.frames
 stk:= .inl rfl
 exf:=fun b hb=>⟨Nat.ne_of_lt (Nat.lt_of_lt_of_le (ho b hb) hC),fun x c e=>by
  rcases L.inn x c e with ⟨_,a⟩ | ⟨a,_⟩
  ·exact (hf b hb).2.2.2.2.1 x c a
  ·exact Ne.symm (Nat.ne_of_lt (Nat.lt_trans (Nat.lt_of_lt_of_le (ho b hb) hC) a))⟩
 bs:=I.bs
 bsz:=Nat.le_trans I.ok.bsz I.sz
 noex:=fun b o e hb=>by
  rcases (hf b hb).2.2.2.1 with z | z
  ·exact I.ok.noex b o e z
  ·exact absurd (Nat.lt_of_lt_of_le (Heap.lt_size e) (Nat.le_trans I.ok.bsz z)) (Nat.lt_irrefl _)
 exfs:=fun b hb hz=>by
  rcases List.mem_cons.mp (I.stkSub b hz) with e | e
  ·exact (hf b hb).2.1 e
  ·exact (hf b hb).2.2.1 e
 funs:=I.stack
 frf:=I.stkFree

theorem qwn {m0:Str->Option Value} {o:Obj} (I:Inv X pins σ H s) (S:qg6 X N' cap sc) (L:ClOk X sc cl C h1)
  (hf:∀ b ∈ fp,qlm X pins H b) (ho:∀ b ∈ fp,b < s.heap.objs.size) (hD:s.heap.objs.size<=D) (hC:D < C) (hDo:h1.get? D=some o) (hoc:∀ v,o.data ≠ .cell v)
  (hns:h1.Ns C m0) (hk:∀ b o,s.heap.get? b=some o->h1.get? b=some o) (t:Nat) :
  Inv (qbt X N' sc cl C s H fp (X.pn++pins)) [(D,o)] (qei cap σ) H { s with heap:=h1,toks:=t }:=by
 have hCs:s.heap.objs.size<=C:=Nat.le_trans hD (Nat.le_of_lt hC)
 have lt_s:∀ b o,s.heap.get? b=some o->b ≠ C:=fun b o e=>Nat.ne_of_lt (Nat.lt_of_lt_of_le (Heap.lt_size e) hCs)
 refine ⟨qt0 I S L hf ho hCs,rfl,I.bare,Un.kept hk,⟨m0,hns,fun j x v e1 e2 e3=>?_⟩,fun x c e=>?_,I.hok.fresh hCs,fun x c e=>by
  rcases L.inn x c e with ⟨_,a⟩ | ⟨a,_⟩
  ·exact I.freeC x c a
  ·exact I.hok.fresh (Nat.le_trans hCs (Nat.le_of_lt a)),fun p hp=>?_,I.hok.kept hk,?_⟩
 ·obtain ⟨i,hi,hσ⟩:∃ i,cap[j]?=some (some i)/\σ[i]?=some (some v):=by
   unfold qei at e2
   rw [List.getElem?_map] at e2
   cases hc:cap[j]? with
   | none=>rw [hc] at e2;cases e2
   | some o' =>
    rw [hc] at e2
    have e2':(o'.bind fun i=>(σ[i]?).join)=some v:=Option.some.inj e2
    cases o' with
    | none=>cases e2'
    | some i =>
     refine ⟨i,rfl,?_⟩
     have e3':(σ[i]?).join=some v:=e2'
     cases hs:σ[i]? with
     | none=>rw [hs] at e3';cases e3'
     | some q=>rw [hs] at e3';exact congrArg some e3'
  obtain ⟨x',n1,n2,n3⟩:=S.cap j i hi
  have e1':N'[j]?=some x:=e1
  rw [n1] at e1'
  obtain rfl:x'=x:=Option.some.inj e1'
  have hkd:=S.free (x',.free) (PySem.mem_of_lookup n3) rfl
  obtain ⟨m,_,hl⟩:=I.loc
  obtain ⟨u,r,l⟩:=hl i x' v n2 hσ (by
   rcases hkd with z | z
   ·exact .inr (.inl z)
   ·exact .inr (.inr z))
  refine ⟨u,r,?_⟩
  rcases l with ⟨l1,_⟩ | ⟨_,c,ec,hcell⟩
  ·rcases hkd with z | z
   ·exact absurd (l1.symm.trans z) (by simp)
   ·exact absurd (l1.symm.trans z) (by simp)
  ·obtain ⟨c',ec',q⟩:=L.fre (x',.free) (PySem.mem_of_lookup n3) rfl
   rw [ec] at q
   obtain rfl:c=c':=Option.some.inj q
   refine .inr ⟨qfo n3,c,ec',?_⟩
   obtain ⟨oc,hoc',hd⟩:=hcell
   exact ⟨oc,hk _ _ hoc',hd⟩
 ·rcases L.inn x c e with ⟨_,a⟩ | ⟨_,a⟩
  ·obtain ⟨v,oc,hoc',hd⟩:=I.cell x c a
   exact ⟨v,oc,hk _ _ hoc',hd⟩
  ·exact ⟨none,a⟩
 ·rcases List.mem_append.mp hp with hp | hp
  ·obtain ⟨e,n,ne,nf,d⟩:=I.pin p hp
   refine ⟨hk _ _ e,n,lt_s _ _ e,fun hz=>?_,d⟩
   rcases List.mem_cons.mp (I.stkSub _ hz) with e' | e'
   ·exact ne e'
   ·exact nf e'
  ·have e:p=(D,o):=by simpa using hp
   subst e
   refine ⟨hDo,I.hok.fresh hD,Nat.ne_of_lt hC,fun hz=>?_,hoc⟩
   rcases List.mem_cons.mp (I.stkSub _ hz) with e' | e'
   ·exact absurd (Nat.lt_of_lt_of_le I.lt hD) (by rw [show X.env.locals=D from e'.symm];exact Nat.lt_irrefl _)
   ·exact I.nofs hD e'
 ·unfold qei
  rw [List.length_map]
  exact S.len
end
section
variable {X:Cx} {pins:List (Addr × Obj)} {σ:St} {s₂:Shared} {N':List Str} {cap:List (Option Nat)} {sc:Scope} {cl:List (Str × Addr)} {fp:List Addr}
theorem qkr {tg iter elt:Expr} {ifs:List Expr} {pos:Pos} {g:TG} {tt:TT} {te:TE} {Q:VK} {H2:Hp} {it:Addr} {tn:Nat->Heap->Prop} {J:It} {E:Value->Shared->Prop} {RR:Value->Addr->Result->Shared->Prop}
    (S:qg6 X N' cap sc) (hc:X.calm=true) (hc1:∀ x c,cl.lookup x=some c->X.env.cells.lookup x=some c) (hc2:∀ y ∈ sc.names,y.2 = .free->∃ c,cl.lookup y.1=some c)
    (hg:∀ cl C pn,PG (qbt X N' sc cl C s₂ H2 fp pn) tg g) (ht:∀ cl C pn,PTs (qbt X N' sc cl C s₂ H2 fp pn) ifs tt) (he:∀ cl C pn,PE (qbt X N' sc cl C s₂ H2 fp pn) elt te)
    (I2:Inv X pins σ H2 s₂) (T:Turn X.prog X.w X.K tg J fp it tn) (st2:tn 0 s₂.heap) (f2:∀ b ∈ fp,qlm X pins H2 b)
    (W:Nat->Nat->List V->Hp->Prop) (w0:∃ m,W 0 m [] H2) (turn:∀ i m ys H,W i m ys H->ys.length<=sizeLine /\
      ((J.stop i H/\∀ D,H D=none->Q (.ref D) (upd H D (.lst ys))) ∨
       (J.go i H/\∀ x H',J.yld i H x H'->g x (qei cap σ) H' fun σ2 H2=>Wk (qei cap σ) σ2/\tt σ2 H2 fun b H3 =>
          if b=true then te σ2 H3 fun v H4=>∃ m',m' < m/\W (i + 1) m' (ys++[v]) H4 else ∃ m',m' < m/\W (i + 1) m' ys H3)))
    (hRR:∀ D C H' s' m,Inv X pins σ H' s'->s'.heap.Ns C m->qlm X pins H' C->Q (.ref D) H'->RR (.ref D) C (.ok .next) s') :
    wpAny (model X.prog X.w) X.A (newList []) (fun acc s₃=>wpAny (model X.prog X.w) X.A (newFunctionEnv sc X.env.globals cl [] X.env.qual none .none (some X.env)) (fun cenv s₄ =>
      codeAny (model X.prog X.w) X.A (.compStart (.ListComp elt [⟨tg,iter,ifs,0⟩] sc pos) 0 (.ref it) acc { cenv with scope:=relabel sc X.env }) (RR acc cenv.locals) s₄) E s₃) E s₂:=by
  refine wpAny_newObj_type (qmm ?_)
  dsimp only
  generalize hG:s₂.heap.push { cls:= .type "list",dict:=none,data:= .seq ([]:List Value).toArray }=G
  have hC:G.objs.size=s₂.heap.objs.size + 1:=by rw [<- hG,Heap.size_push]
  have hDC:s₂.heap.objs.size < G.objs.size:=by rw [hC];exact Nat.lt_succ_self _
  have hZ:(G.push { cls:= .type "dict",data:= .dict #[] }).objs.size=G.objs.size + 1:=Heap.size_push ..
  have L:=clOk (h:=G.push { cls:= .type "dict",data:= .dict #[] }) (C:=G.objs.size) S hc1 hc2 hZ fun x c e=>by
    obtain ⟨v,q⟩:=I2.cell x c e
    exact Nat.lt_trans q.lt hDC
  have hns₁:(pushCells (G.push { cls:= .type "dict",data:= .dict #[] }) sc.names).Ns G.objs.size (fun _=>none):=(Heap.Ns.new G (.type "dict")).keeps (pushCells_keeps _ _)
  have old:∀ b o,s₂.heap.get? b=some o->(pushCells (G.push { cls:= .type "dict",data:= .dict #[] }) sc.names).get? b=some o:=fun b o e =>
    pushCells_keeps _ _ b o (Heap.get?_push_of_some _ (hG ▸ Heap.get?_push_of_some _ e))
  have hacc:(pushCells (G.push { cls:= .type "dict",data:= .dict #[] }) sc.names).get? s₂.heap.objs.size=some (LCg.lst []):=pushCells_keeps _ _ _ _ (Heap.get?_push_of_some _ (hG ▸ Heap.get?_push_size _ rfl))
  generalize hcl:cellsFrom (G.objs.size + 1) sc.names cl=cl' at L ⊢
  generalize pushCells (G.push { cls:= .type "dict",data:= .dict #[] }) sc.names=h₁ at L hns₁ old hacc ⊢
  have fl:∀ b ∈ fp,b < s₂.heap.objs.size:=fun b hb=>by obtain ⟨o,e,_⟩:=T.obj _ _ st2 b hb;exact Heap.lt_size e
  have seqd:∀ (us:List Value) v,(LCg.lst us).data ≠ .cell v:=fun us v z=>by cases z
  have cellt:∀ x c,cl'.lookup x=some c->c ≠ s₂.heap.objs.size:=fun x c e=>by
    rcases L.inn x c e with ⟨_,a⟩ | ⟨a,_⟩
    · obtain ⟨v,oc,ho,_⟩:=I2.cell x c a
      exact Nat.ne_of_lt (Heap.lt_size ho)
    · exact Ne.symm (Nat.ne_of_lt (Nat.lt_trans hDC a))
  have pint:∀ p ∈ X.pn++pins,p.1 < s₂.heap.objs.size:=fun p hp=>Heap.lt_size (I2.pin p hp).1
  have I0:Inv (qbt X N' sc cl' G.objs.size s₂ H2 fp (X.pn++pins)) [(s₂.heap.objs.size,LCg.lst [])] (qei cap σ) H2 { s₂ with heap:=h₁,toks:=s₂.toks } :=
    qwn I2 S L f2 fl (Nat.le_refl _) hDC hacc (seqd []) hns₁ old _
  have stat:∀ {H':Hp} {us:List Value},(∀ b ∈ fp,H' b=none)->∀ b ∈ fp,qlm (qbt X N' sc cl' G.objs.size s₂ H2 fp (X.pn++pins)) [(s₂.heap.objs.size,LCg.lst us)] H' b:=fun {H' us} hn b hb=>by
    obtain ⟨f0,f1,f2',f3,f4,f5⟩:=f2 b hb
    refine ⟨hn b hb,Nat.ne_of_lt (Nat.lt_trans (fl b hb) hDC),fun hz=>?_,.inl hb,fun x c e=>by
      rcases L.inn x c e with ⟨_,a⟩ | ⟨a,_⟩
      · exact f4 x c a
      · exact Ne.symm (Nat.ne_of_lt (Nat.lt_trans (Nat.lt_trans (fl b hb) hDC) a)),fun p hp=>?_⟩
    · rcases List.mem_cons.mp (I2.stkSub b hz) with e | e
      · exact f1 e
      · exact f2' e
    · rcases List.mem_append.mp hp with hp | hp
      · exact f5 p hp
      · have e:p=(s₂.heap.objs.size,LCg.lst us):=by simpa using hp
        rw [e]
        exact Ne.symm (Nat.ne_of_lt (fl b hb))
  have loop:∀ s₃:Shared,s₃={ s₂ with heap:=h₁,toks:=s₂.toks } ->
      codeAny (model X.prog X.w) X.A (.compLoop (.ListComp elt [⟨tg,iter,ifs,0⟩] sc pos) 0 (.ref it) (.ref s₂.heap.objs.size) (compEnvC sc cl' G.objs.size X.env)) (RR (.ref s₂.heap.objs.size) G.objs.size) s₃:=by
    rintro s₃ rfl
    obtain ⟨m0,w0⟩:=w0
    refine qd6
      (fun n s'=>∃ i ys us H',Inv (qbt X N' sc cl' G.objs.size s₂ H2 fp (X.pn++pins)) [(s₂.heap.objs.size,LCg.lst us)] (qei cap σ) H' s'/\Vals ys us/\tn i s'.heap/\(∀ b ∈ fp,H' b=none)/\W i n ys H') ?_ m0
      ⟨0,[],[],H2,I0,.nil,T.keep _ _ _ st2 fun b _ o e=>old b o e,fun b hb=>(f2 b hb).1,w0⟩
    rintro n s3 ⟨i,ys,us,H3,I3,rv,st3,fr3,w3⟩
    obtain ⟨hz,alt⟩:=turn i n ys H3 w3
    rcases alt with ⟨stop,fin⟩ | ⟨go,step⟩
    · refine thn (T.done (qbt X N' sc cl' G.objs.size s₂ H2 fp (X.pn++pins)) rfl rfl rfl hc i _ s3 _ H3 _ I3 (stat fr3) st3 stop) fun r s4 ⟨hr,I4⟩=>?_
      subst hr
      obtain ⟨gD,nD,_,_,_⟩:=I4.pin (s₂.heap.objs.size,LCg.lst us) (List.mem_append_right _ (List.mem_singleton.mpr rfl))
      have nD':H3 s₂.heap.objs.size=none:=nD
      have gD':s4.heap.get? s₂.heap.objs.size=some (LCg.lst us):=gD
      have b4:Un (frs X.stack) fp H2 H3 s₂.heap s4.heap:=I4.base
      have n2:H2 s₂.heap.objs.size=none:=I2.hok.fresh (Nat.le_refl _)
      have un:Un (frs X.stack) fp H2 (upd H3 s₂.heap.objs.size (.lst ys)) s₂.heap s4.heap :=
        ⟨b4.keep,b4.slot,fun b o e n hx=>by rw [qam (Nat.ne_of_lt (Heap.lt_size e))];exact b4.free b o e n hx,b4.there,
          fun b xs e=>by rw [qam (qai e n2)];exact b4.tups b xs e,fun b o u e=>by rw [qam (qai e n2)];exact b4.frzs b o u e,
          fun b ps e=>by obtain ⟨mo,q⟩:=b4.tbls b ps e;exact ⟨mo,by rw [qam (qai e n2)];exact q⟩⟩
      have hok:HOk X.prog X.w (upd H3 s₂.heap.objs.size (.lst ys)) s4.heap:=fun b u e=>by
        by_cases hb:b=s₂.heap.objs.size
        · subst hb
          rw [qan] at e
          cases e
          exact ⟨hz,us,us.length,rv,gD'⟩
        · rw [qam hb] at e
          exact (I4.hok b u e).stay (fun c v _ q=>q) (fun c q=>by rw [qam (qai q nD')];exact q) fun c xs q=>by rw [qam (qai q nD')];exact q
      have IF:Inv X pins σ (upd H3 s₂.heap.objs.size (.lst ys)) s4:=I2.call' (ch:=fp) I4.os un hok I4.bare fun b hb=>by
        obtain ⟨f0,f1,f2',f3,f4,f5⟩:=f2 b hb
        exact ⟨f3,f1,f4,f5⟩
      obtain ⟨mF,hnF,_⟩:=I4.loc
      refine hRR _ _ _ _ mF IF hnF (I2.fpOk (Nat.le_of_lt hDC) ?_) (fin _ nD')
      rw [qam (Ne.symm (Nat.ne_of_lt hDC))]
      exact I4.free
    · refine thn (T.item (qbt X N' sc cl' G.objs.size s₂ H2 fp (X.pn++pins)) rfl rfl rfl hc i _ s3 _ H3 _ I3 (stat fr3) st3 go) fun r s4 ⟨u,hr,h4⟩=>?_
      subst hr
      refine thn h4 fun _ s5 ⟨x,H5,I5,r5,y5,st5,fr5⟩=>?_
      have I5':=I5.pinned (stat fr5) (T.obj _ _ st5)
      refine thn (hg cl' G.objs.size (X.pn++pins) _ s5 _ H5 x u _ I5' r5 (step x H5 y5)) fun _ s6 ⟨σ6,H6,I6,wk,q6⟩=>?_
      refine thn (ht cl' G.objs.size (X.pn++pins) _ s6 σ6 H6 _ I6 q6) fun ok s7 ⟨H7,I7,q7⟩=>?_
      have back:∀ {σ8:St} {H8:Hp} {s8:Shared} {us8:List Value},Inv (qbt X N' sc cl' G.objs.size s₂ H2 fp (X.pn++pins)) ([(s₂.heap.objs.size,LCg.lst us8)]++ql2 fp s5.heap) σ8 H8 s8 ->
          tn (i + 1) s8.heap/\∀ b ∈ fp,H8 b=none:=fun {σ8 H8 s8 us8} I8=>by
        refine ⟨T.keep _ _ _ st5 fun b hb o e=>(I8.pin (b,o) (List.mem_append_right _ (List.mem_append_right _ (qd2 hb e)))).1,fun b hb=>?_⟩
        obtain ⟨o,e,d⟩:=T.obj _ _ st5 b hb
        exact (I8.pin (b,o) (List.mem_append_right _ (List.mem_append_right _ (qd2 hb e)))).2.1
      cases ok with
      | false =>
        obtain ⟨m',hm,w7⟩:=q7
        obtain ⟨t7,f7⟩:=back I7
        exact ⟨m',hm,i + 1,ys,us,H7,I7.unpinned.weak wk.len wk.at',rv,t7,f7,w7⟩
      | true =>
        refine thn (he cl' G.objs.size (X.pn++pins) _ s7 σ6 H7 _ I7 q7) fun uv s8 ⟨v,H8,I8,r8,m',hm,w8⟩=>?_
        obtain ⟨t8,f8⟩:=back I8
        obtain ⟨gD,nD,lD,fD,_⟩:=I8.pin (s₂.heap.objs.size,LCg.lst us) (List.mem_append_right _ (List.mem_append_left _ (List.mem_singleton.mpr rfl)))
        have gD':s8.heap.get? s₂.heap.objs.size=some { cls:= .type "list",data:= .seq us.toArray us.length }:=gD
        refine append_at (hsz:=by rw [List.size_toArray,<- rv.length];exact hz) gD' fun h9 hs9 hD9=>?_
        have I8a:Inv (qbt X N' sc cl' G.objs.size s₂ H2 fp (X.pn++pins)) [] σ6 H8 s8:=I8.pins_of fun p hp=>nomatch hp
        have I9:Inv (qbt X N' sc cl' G.objs.size s₂ H2 fp (X.pn++pins)) [] σ6 H8 { s8 with heap:=h9,toks:=s8.toks } :=
          I8a.turned (it:=s₂.heap.objs.size) (fun b o hb e=>hs9.extBut b o hb e) nD lD (.inr (Nat.le_refl _)) (fun x c e=>cellt x c e) fun p hp=>by
            rw [List.append_nil] at hp
            exact Nat.ne_of_lt (pint p hp)
        have I10:Inv (qbt X N' sc cl' G.objs.size s₂ H2 fp (X.pn++pins)) [(s₂.heap.objs.size,LCg.lst (us++[uv]))] σ6 H8 { s8 with heap:=h9,toks:=s8.toks }:=I9.pins_of fun p hp=>by
          have e:p=(s₂.heap.objs.size,LCg.lst (us++[uv])):=by simpa using hp
          subst e
          exact ⟨hD9.trans (congrArg some (LCg.lst_snoc us uv)),nD,lD,fD,seqd _⟩
        refine ⟨m',hm,i + 1,ys++[v],us++[uv],H8,I10.weak wk.len wk.at',rv.append (.cons r8 .nil),T.keep _ _ _ t8 fun b hb o e=>hs9.extBut b o (Nat.ne_of_lt (fl b hb)) e,f8,w8⟩
  have st1:tn 0 h₁:=T.keep _ _ _ st2 fun b _ o e=>old b o e
  exact codeAny_compStart_list (loop _ rfl) (T.self _ 0 _ _ _ st1 (loop _ rfl))

theorem pe_compC {tg iter elt:Expr} {ifs:List Expr} {pos:Pos} {wi:TI} {g:TG} {tt:TT} {te:TE} (S:qg6 X N' cap sc) (hc:X.calm=true) (hi:PI X tg iter wi)
  (hg:∀ cl C s H fp pn,PG (qbt X N' sc cl C s H fp pn) tg g) (ht:∀ cl C s H fp pn,PTs (qbt X N' sc cl C s H fp pn) ifs tt) (he:∀ cl C s H fp pn,PE (qbt X N' sc cl C s H fp pn) elt te)
  (hs:∀ x,foldedSetIterable iter X.env x=pure x:=by intro _;rfl):PE X (.ListComp elt [⟨tg,iter,ifs,0⟩] sc pos) (qp4 wi g tt te cap):=by
 intro pins s σ H Q I h
 rw [eval_ListComp]
 obtain ⟨cl,hcl,hc1,hc2⟩:=qdf (scope:=sc) (env:=X.env) fun y hy e=>I.ok.has y.1 (S.free y hy e)
 refine wpAny_comprehension_free (use:=none) rfl hs hcl S.kind S.names (thn (hi pins s σ H _ I h) fun v s1 h1=>thn h1 fun itv s2 h2=>?_)
 obtain ⟨it,fp,tn,J,H2,e,I2,T,st2,f2,W,w0,turn⟩:=h2
 subst e
 refine qkr (RR:=fun acc C=>compPost (model X.prog X.w) X.A X.xe none (EP X pins σ Q) acc C) S hc hc1 hc2 (fun cl C pn=>hg cl C s2 H2 fp pn) (fun cl C pn=>ht cl C s2 H2 fp pn) (fun cl C pn=>he cl C s2 H2 fp pn) I2 T st2 f2 W w0 turn ?_
 intro D C H' s' m I' hn F q
 obtain ⟨f0,f1,f2',f3,f4,f5⟩:=F
 exact ⟨m,hn,fun h' hs'=>⟨.ref D,H',I'.turned (t':=s'.toks) (fun b o hb e=>hs'.extBut b o hb e) f0 f1 f3 f4 f5,rfl,q⟩⟩

theorem ps_setCC {i:Nat} {x:Str} {tg iter elt:Expr} {ifs:List Expr} {pos spos pos':Pos} {wi:TI} {g:TG} {tt:TT} {te:TE} (S:qg6 X N' cap sc) (hc:X.calm=true) (hN:X.N.Nodup) (hx:X.N[i]?=some x) (hk:X.env.scope.names.lookup x=some .local) (hi:PI X tg iter wi)
  (hg:∀ cl C s H fp pn,PG (qbt X N' sc cl C s H fp pn) tg g) (ht:∀ cl C s H fp pn,PTs (qbt X N' sc cl C s H fp pn) ifs tt) (he:∀ cl C s H fp pn,PE (qbt X N' sc cl C s H fp pn) elt te)
  (hsw:swapsWith (.ListComp elt [⟨tg,iter,ifs,0⟩] sc pos) (some (.Name x pos')) spos.line X.env=pure true:=by rfl)
  (hs:∀ x,foldedSetIterable iter X.env x=pure x:=by intro _;rfl):PS X (.Assign [.Name x pos'] (.ListComp elt [⟨tg,iter,ifs,0⟩] sc pos) spos) (qrj (qp4 wi g tt te cap) (qez i)):=by
 intro pins s σ H D I h
 rw [exec_Assign_Name_used _ _ _ _ hsw]
 refine wpAny_bind (wpAny_standAt (wpAny_bind ?_))
 show wpAny _ X.A (do let _ <- comprehension (.ListComp elt [⟨tg,iter,ifs,0⟩] sc pos) sc X.env _ (newList []) false (eval iter X.env) (some (assign (.Name x pos') X.env))) _ _ s
 obtain ⟨cl,hcl,hc1,hc2⟩:=qdf (scope:=sc) (env:=X.env) fun y hy e=>I.ok.has y.1 (S.free y hy e)
 refine wpAny_bind (thn (wpAny_comprehension_free (use:=some (assign (.Name x pos') X.env)) (Q:=fun _ s'=>SP X pins D .next s') rfl hs hcl S.kind S.names
  (thn (hi pins s σ H _ I h) fun v s1 h1=>thn h1 fun itv s2 h2=>?_)) fun _ s' hq=>wpAny_pure (wpAny_pure hq))
 obtain ⟨it,fp,tn,J,H2,e,I2,T,st2,f2,W,w0,turn⟩:=h2
 subst e
 refine qkr (Q:=fun v H1=>qez i v σ H1 D.nx) (RR:=fun acc C=>compPost (model X.prog X.w) X.A X.xe (some (assign (.Name x pos') X.env)) (fun _ s'=>SP X pins D .next s') acc C) S hc hc1 hc2 (fun cl C pn=>hg cl C s2 H2 fp pn) (fun cl C pn=>ht cl C s2 H2 fp pn) (fun cl C pn=>he cl C s2 H2 fp pn) I2 T st2 f2 W w0 turn ?_
 intro E C H' s' m I' hn F q
 obtain ⟨f0,f1,f2',f3,f4,f5⟩:=F
 show wpAny _ X.A (assign (.Name x pos') X.env (.ref E)) _ _ _
 refine wpAny_assign_Name (qjn I' hN hx (.inl hk) (v:= .ref E) rfl (fun s'' I'' ch=>?_) (.inr hk))
 obtain ⟨a,sb,ha⟩:=ch
 have nC:C ≠ a:=by
  rcases ha with z | z
  ·rw [z];exact f1
  ·exact Ne.symm (f4 x a z)
 exact ⟨m,hn.sameBut sb nC,fun h' hs'=>⟨_,H',I''.turned (t':=s''.toks) (fun b o hb e=>hs'.extBut b o hb e) f0 f1 f3 f4 f5,q⟩⟩
end
end L2
namespace L2
open PySem PySem.Spec PySem.Calls PyProof.Rows
section
variable {X:Cx} {tg:Expr}
def rDictF:List V->Hp->VK->Prop:=fun xs H Q=>∃ (a:Addr) (ts:List Addr) (kvs:List (Key × V)),xs=[.ref a]/\H a=some (.lst (ts.map V.ref))/\Paired (fun t (kv:Key × V)=>H t=some (.tup [kV kv.1,kv.2])) ts kvs/\(kvs.map (·.1)).Nodup/\kvs.length<=1000 /\
  ∀ l o,H l=none->Q (.ref l) (upd H l (.frz o (.dK kvs)))
theorem qt4 {K:PySem.W.Frag} (hc:X.calm=true) (_:X.K=K):CallR X (.type "dict") rDictF:=by
 intro pins s σ H xs us Q I r h
 obtain ⟨a,ts,kvs,rfl,hq,hp,hn,h1000,q⟩:=h
 obtain ⟨u,rfl,ru⟩:=qjl r
 obtain rfl:u=Value.ref a:=ru
 obtain ⟨hz,its,n,rv,ho⟩:=(show ObjOk X.prog X.w H s.heap a (.lst (ts.map V.ref)) from I.hok a _ hq)
 have ei:=qn9 rv
 obtain ⟨more,k1,k2⟩:=pairs_of I hp
 have lk:more.length=kvs.length:=k1.length.symm
 have lt:=hp.length
 have hsl:more.length<=sizeLine:=Nat.le_of_lt (qfl (by omega))
 refine qll (knd:=qbq X.prog X.w) (more:=more) (I.ok.hd hc) ho (by rw [List.size_toArray,ei,List.length_map];omega) hsl (fun j v m hv hm=>?_) fun h' tk k hd=>?_
 ·have hv':its[j]?=some v:=by simpa using hv
  rw [ei,List.getElem?_map] at hv'
  obtain ⟨t,ht,rfl⟩:=Option.map_eq_some_iff.mp hv'
  obtain ⟨kk,x1,x2⟩:=k2 j t m ht hm
  exact ⟨t,kk,rfl,x1,x2⟩
 ·rw [merged_nil_of_nodup more (by rw [qx0 k1];exact hn)] at hd
  obtain ⟨o,es,ep,ho',_⟩:=id hd
  refine ⟨.ref s.heap.objs.size,_,I.laid (t':=tk) (o:= .frz o (.dK kvs)) k (Nat.le_refl _) ⟨ho',dk_new (by omega) (beq_eq_false_iff_ne.mpr (Ne.symm (Nat.ne_of_lt I.big))) k1 hd⟩,rfl,q _ _ (I.hok.fresh (Nat.le_refl _))⟩
end
end L2
namespace L2
open PySem PySem.Spec PySem.Calls PyProof.Rows
section
variable {X:Cx}
end
end L2
namespace Mi
open PySem L2
inductive PV where
 | at (v:V) | tup (xs:List PV) | lst (xs:List PV) | dk (ks:List Key) (xs:List PV) | fk (ks:List Key) (xs:List PV) | ob (C:Addr) (ns:List Str) (xs:List PV) | op (φ:Hp->V->Prop)
mutual
def Rep (H:Hp):PV->V->Prop
 | .at u,v=>v=u
 | .tup xs,v=>∃ a vs,v = .ref a/\H a=some (.tup vs)/\Reps H xs vs
 | .lst xs,v=>∃ a vs,v = .ref a/\H a=some (.lst vs)/\Reps H xs vs
 | .dk ks xs,v=>∃ a kvs,v = .ref a/\H a=some (.dK kvs)/\kvs.map (·.1)=ks/\Reps H xs (kvs.map (·.2))
 | .fk ks xs,v=>∃ a o kvs,v = .ref a/\H a=some (.frz o (.dK kvs))/\kvs.map (·.1)=ks/\Reps H xs (kvs.map (·.2))
 | .ob C ns xs,v=>∃ a dx fs,v = .ref a/\H a=some (.ins C dx fs)/\fs.map (·.1)=ns/\Reps H xs (fs.map (·.2))
 | .op φ,v=>∃ H',Same H' H/\φ H' v
def Reps (H:Hp):List PV->List V->Prop
 | [],vs=>vs=[]
 | x::xs,vs=>∃ v r,vs=v::r/\Rep H x v/\Reps H xs r
end
mutual
theorem Rep.mono {H H':Hp} (g:Same H H'):∀ {x:PV} {v:V},Rep H x v->Rep H' x v
 | .at u,v,h=>by unfold Rep at h ⊢;exact h
 | .tup xs,v,h=>by unfold Rep at h ⊢;obtain ⟨a,vs,e,p,r⟩:=h;exact ⟨a,vs,e,g _ _ p,Reps.mono g r⟩
 | .lst xs,v,h=>by unfold Rep at h ⊢;obtain ⟨a,vs,e,p,r⟩:=h;exact ⟨a,vs,e,g _ _ p,Reps.mono g r⟩
 | .dk ks xs,v,h=>by unfold Rep at h ⊢;obtain ⟨a,vs,e,p,q,r⟩:=h;exact ⟨a,vs,e,g _ _ p,q,Reps.mono g r⟩
 | .fk ks xs,v,h=>by unfold Rep at h ⊢;obtain ⟨a,o,vs,e,p,q,r⟩:=h;exact ⟨a,o,vs,e,g _ _ p,q,Reps.mono g r⟩
 | .ob C ns xs,v,h=>by unfold Rep at h ⊢;obtain ⟨a,dx,vs,e,p,q,r⟩:=h;exact ⟨a,dx,vs,e,g _ _ p,q,Reps.mono g r⟩
 | .op φ,v,h=>by unfold Rep at h ⊢;obtain ⟨H1,s,p⟩:=h;exact ⟨H1,s.trans g,p⟩
theorem Reps.mono {H H':Hp} (g:Same H H'):∀ {xs:List PV} {vs:List V},Reps H xs vs->Reps H' xs vs
 | [],vs,h=>by unfold Reps at h ⊢;exact h
 | x::xs,vs,h=>by unfold Reps at h ⊢;obtain ⟨v,r,e,p,q⟩:=h;exact ⟨v,r,e,Rep.mono g p,Reps.mono g q⟩
end
theorem rep_at {H:Hp} {u v:V}:Rep H (.at u) v ↔ v=u:=by unfold Rep;exact Iff.rfl
theorem rep_tup {H:Hp} {xs:List PV} {v:V}:Rep H (.tup xs) v ↔ ∃ a vs,v = .ref a/\H a=some (.tup vs)/\Reps H xs vs:=by unfold Rep;exact Iff.rfl
theorem rep_lst {H:Hp} {xs:List PV} {v:V}:Rep H (.lst xs) v ↔ ∃ a vs,v = .ref a/\H a=some (.lst vs)/\Reps H xs vs:=by unfold Rep;exact Iff.rfl
theorem rep_dk {H:Hp} {ks:List Key} {xs:List PV} {v:V}:Rep H (.dk ks xs) v ↔ ∃ a kvs,v = .ref a/\H a=some (.dK kvs)/\kvs.map (·.1)=ks/\Reps H xs (kvs.map (·.2)):=by unfold Rep;exact Iff.rfl
theorem rep_fk {H:Hp} {ks:List Key} {xs:List PV} {v:V}:Rep H (.fk ks xs) v ↔ ∃ a o kvs,v = .ref a/\H a=some (.frz o (.dK kvs))/\kvs.map (·.1)=ks/\Reps H xs (kvs.map (·.2)):=by unfold Rep;exact Iff.rfl
theorem rep_ob {H:Hp} {C:Addr} {ns:List Str} {xs:List PV} {v:V}:Rep H (.ob C ns xs) v ↔ ∃ a dx fs,v = .ref a/\H a=some (.ins C dx fs)/\fs.map (·.1)=ns/\Reps H xs (fs.map (·.2)):=by unfold Rep;exact Iff.rfl
theorem rep_op {H:Hp} {φ:Hp->V->Prop} {v:V}:Rep H (.op φ) v ↔ ∃ H',Same H' H/\φ H' v:=by unfold Rep;exact Iff.rfl
theorem reps_nil {H:Hp} {vs:List V}:Reps H [] vs ↔ vs=[]:=by unfold Reps;exact Iff.rfl
theorem reps_cons {H:Hp} {x:PV} {xs:List PV} {vs:List V}:Reps H (x::xs) vs ↔ ∃ v r,vs=v::r/\Rep H x v/\Reps H xs r:=by
 constructor
 ·intro h;unfold Reps at h;exact h
 ·intro h;unfold Reps;exact h
theorem Reps.nil {H:Hp}:Reps H [] []:=reps_nil.mpr rfl
theorem Reps.cons {H:Hp} {x:PV} {v:V} {xs:List PV} {vs:List V} (p:Rep H x v) (q:Reps H xs vs):Reps H (x::xs) (v::vs):=reps_cons.mpr ⟨v,vs,rfl,p,q⟩
theorem Reps.length {H:Hp}:∀ {xs:List PV} {vs:List V},Reps H xs vs->vs.length=xs.length
 | [],vs,h=>by rw [reps_nil.mp h];rfl
 | x::xs,vs,h=>by obtain ⟨v,r,rfl,_,q⟩:=reps_cons.mp h;rw [List.length_cons,List.length_cons,Reps.length q]
theorem Reps.append {H:Hp}:∀ {xs ys:List PV} {vs ws:List V},Reps H xs vs->Reps H ys ws->Reps H (xs++ys) (vs++ws)
 | [],ys,vs,ws,h,k=>by rw [reps_nil.mp h];exact k
 | x::xs,ys,vs,ws,h,k=>by obtain ⟨v,r,rfl,p,q⟩:=reps_cons.mp h;exact .cons p (Reps.append q k)
theorem Reps.one {H:Hp} {x:PV} {v:V} (p:Rep H x v):Reps H [x] [v]:= .cons p .nil
theorem Reps.get {H:Hp}:∀ {xs:List PV} {vs:List V} {i:Nat} {x:PV},Reps H xs vs->xs[i]?=some x->∃ v,vs[i]?=some v/\Rep H x v
 | [],_,i,x,_,e=>by simp at e
 | y::xs,vs,0,x,h,e=>by
  obtain ⟨v,r,rfl,p,q⟩:=reps_cons.mp h
  simp at e;subst e
  exact ⟨v,rfl,p⟩
 | y::xs,vs,i + 1,x,h,e=>by
  obtain ⟨v,r,rfl,p,q⟩:=reps_cons.mp h
  obtain ⟨w,e1,e2⟩:=Reps.get (i:=i) (x:=x) q (by simpa using e)
  exact ⟨w,by simpa using e1,e2⟩
theorem Reps.take {H:Hp}:∀ (n:Nat) {xs:List PV} {vs:List V},Reps H xs vs->Reps H (xs.take n) (vs.take n)
 | 0,_,_,_=>by rw [List.take_zero,List.take_zero];exact .nil
 | n + 1,[],vs,h=>by rw [reps_nil.mp h];exact .nil
 | n + 1,x::xs,vs,h=>by
  obtain ⟨v,r,rfl,p,q⟩:=reps_cons.mp h
  exact .cons p (Reps.take n q)
theorem Reps.drop {H:Hp}:∀ (n:Nat) {xs:List PV} {vs:List V},Reps H xs vs->Reps H (xs.drop n) (vs.drop n)
 | 0,_,_,h=>h
 | n + 1,[],vs,h=>by rw [reps_nil.mp h];exact .nil
 | n + 1,x::xs,vs,h=>by
  obtain ⟨v,r,rfl,p,q⟩:=reps_cons.mp h
  exact Reps.drop n q
theorem Reps.reverse {H:Hp}:∀ {xs:List PV} {vs:List V},Reps H xs vs->Reps H xs.reverse vs.reverse
 | [],vs,h=>by rw [reps_nil.mp h];exact .nil
 | x::xs,vs,h=>by
  obtain ⟨v,r,rfl,p,q⟩:=reps_cons.mp h
  rw [List.reverse_cons,List.reverse_cons]
  exact (Reps.reverse q).append (.one p)
theorem Reps.ats {H:Hp}:∀ {us vs:List V},Reps H (us.map .at) vs->vs=us
 | [],vs,h=>reps_nil.mp h
 | u::us,vs,h=>by
  obtain ⟨v,r,rfl,p,q⟩:=reps_cons.mp h
  rw [rep_at.mp p,Reps.ats q]
theorem Reps.ofAts {H:Hp}:∀ (us:List V),Reps H (us.map .at) us
 | []=> .nil
 | u::us=> .cons (rep_at.mpr rfl) (Reps.ofAts us)

structure Ext (Hs H Hs' H':Hp):Prop where
 s1:Same Hs Hs'
 s2:Same H H'
 s3:Same Hs' H'
 s4:∀ b,H b ≠ none->Hs b=none->Hs' b=none
theorem qrm {H H':Hp} (g:Same H H') {b:Addr} (h:H b ≠ none):H' b ≠ none:=fun z=>h (g.free z)
theorem Ext.refl {Hs H:Hp} (s:Same Hs H):Ext Hs H Hs H:=⟨.refl _,.refl _,s,fun _ _ z=>z⟩
theorem Ext.trans {A B A1 B1 A2 B2:Hp} (x:Ext A B A1 B1) (y:Ext A1 B1 A2 B2):Ext A B A2 B2:=⟨x.s1.trans y.s1,x.s2.trans y.s2,y.s3,fun b h z=>y.s4 b (qrm x.s2 h) (x.s4 b h z)⟩
theorem Ext.new {Hs H:Hp} (s:Same Hs H) {p:Addr} {o:HO} (h:H p=none):Ext Hs H (upd Hs p o) (upd H p o):=by
 have hs:Hs p=none:=s.free h
 refine ⟨fun b u e=>?_,fun b u e=>?_,fun b u e=>?_,fun b e z=>?_⟩
 ·rw [qam (qai e hs)];exact e
 ·rw [qam (qai e h)];exact e
 ·by_cases hb:b=p
  ·subst hb;rw [qan] at e ⊢;exact e
  ·rw [qam hb] at e ⊢;exact s _ _ e
 ·have hb:b ≠ p:=fun q=>e (by rw [q];exact h)
  rw [qam hb];exact z
theorem Ext.newO {Hs H:Hp} (s:Same Hs H) {p:Addr} {o:HO} (h:H p=none):Ext Hs H Hs (upd H p o) :=
 ⟨.refl _,fun b u e=>by rw [qam (qai e h)];exact e,fun b u e=>by rw [qam (qai (s _ _ e) h)];exact s _ _ e,fun _ _ z=>z⟩
def Top (Hs H:Hp) (a:Addr):PV->Prop
 | .lst xs=>∃ vs,H a=some (.lst vs)/\Reps Hs xs vs
 | .dk ks xs=>∃ kvs,H a=some (.dK kvs)/\kvs.map (·.1)=ks/\Reps Hs xs (kvs.map (·.2))
 | .ob C ns xs=>∃ dx fs,H a=some (.ins C dx fs)/\fs.map (·.1)=ns/\Reps Hs xs (fs.map (·.2))
 | _=>False
theorem Top.there {Hs H:Hp} {a:Addr}:∀ {x:PV},Top Hs H a x->H a ≠ none
 | .lst _,h,z=>by obtain ⟨vs,e,_⟩:=h;rw [e] at z;cases z
 | .dk _ _,h,z=>by obtain ⟨vs,e,_⟩:=h;rw [e] at z;cases z
 | .ob _ _ _,h,z=>by obtain ⟨dx,vs,e,_⟩:=h;rw [e] at z;cases z
theorem Top.mono {Hs H Hs' H':Hp} {a:Addr} (g:Same Hs Hs') (e:∀ o,H a=some o->H' a=some o):∀ {x:PV},Top Hs H a x->Top Hs' H' a x
 | .lst _,h=>by obtain ⟨vs,q,r⟩:=h;exact ⟨vs,e _ q,r.mono g⟩
 | .dk _ _,h=>by obtain ⟨vs,q,k,r⟩:=h;exact ⟨vs,e _ q,k,r.mono g⟩
 | .ob _ _ _,h=>by obtain ⟨dx,vs,q,k,r⟩:=h;exact ⟨dx,vs,e _ q,k,r.mono g⟩
theorem Top.rep {Hs H:Hp} {a:Addr}:∀ {x:PV},Top Hs H a x->Hs a=none->∃ o,H a=some o/\Rep (upd Hs a o) x (.ref a)
 | .lst _,h,n=>by
  obtain ⟨vs,q,r⟩:=h
  exact ⟨_,q,rep_lst.mpr ⟨a,vs,rfl,qan,r.mono fun b u e=>by rw [qam (qai e n)];exact e⟩⟩
 | .dk _ _,h,n=>by
  obtain ⟨vs,q,k,r⟩:=h
  exact ⟨_,q,rep_dk.mpr ⟨a,vs,rfl,qan,k,r.mono fun b u e=>by rw [qam (qai e n)];exact e⟩⟩
 | .ob _ _ _,h,n=>by
  obtain ⟨dx,vs,q,k,r⟩:=h
  exact ⟨_,q,rep_ob.mpr ⟨a,dx,vs,rfl,qan,k,r.mono fun b u e=>by rw [qam (qai e n)];exact e⟩⟩
theorem Ext.share {Hs H Hs' H':Hp} {a:Addr} {o:HO} (x:Ext Hs H Hs' H') (h:H a=none) (n:Hs' a=none) (e:H' a=some o):Ext Hs H (upd Hs' a o) H':=by
 refine ⟨fun b u q=>?_,x.s2,fun b u q=>?_,fun b q z=>?_⟩
 ·rw [qam (qai (x.s1 _ _ q) n)];exact x.s1 _ _ q
 ·by_cases hb:b=a
  ·subst hb;rw [qan] at q;cases q;exact e
  ·rw [qam hb] at q;exact x.s3 _ _ q
 ·have hb:b ≠ a:=fun r=>q (by rw [r];exact h)
  rw [qam hb];exact x.s4 b q z
def RepB (Hs H:Hp) (x:PV) (v:V):Prop:=Rep Hs x v ∨ ∃ a,v = .ref a/\Hs a=none/\Top Hs H a x
theorem RepB.ext {Hs H Hs' H':Hp} {x:PV} {v:V} (e:Ext Hs H Hs' H') (h:RepB Hs H x v):RepB Hs' H' x v:=by
 rcases h with h | ⟨a,rfl,n,t⟩
 ·exact .inl (h.mono e.s1)
 ·exact .inr ⟨a,rfl,e.s4 a t.there n,t.mono e.s1 fun o q=>e.s2 _ _ q⟩

inductive MSlot where
 | no | sh (x:PV) | ow (x:PV) | bo (x:PV)
abbrev ME:=List MSlot
def Own (H0 Hs H:Hp) (a:Addr) (x:PV):Prop:=H0 a=none/\Hs a=none/\Top Hs H a x
structure RS (Hs0 H0 Hs H:Hp) (σ:St) (ε:ME):Prop where
 ext:Ext Hs0 H0 Hs H
 sh:∀ (i:Nat) (x:PV),ε[i]?=some (.sh x)->∃ v,σ[i]?=some (some v)/\Rep Hs x v
 ow:∀ (i:Nat) (x:PV),ε[i]?=some (.ow x)->∃ a,σ[i]?=some (some (.ref a))/\Own H0 Hs H a x
 nd:∀ (i j:Nat) (x y:PV) (a:Addr),ε[i]?=some (.ow x)->ε[j]?=some (.ow y)->σ[i]?=some (some (.ref a))->σ[j]?=some (some (.ref a))->i=j
 len:σ.length=ε.length
 bo:∀ (i:Nat) (x:PV),ε[i]?=some (.bo x)->∃ v,σ[i]?=some (some v)/\(Rep Hs x v ∨ ∃ a,v = .ref a/\H0 a ≠ none/\Hs a=none/\Top Hs H a x)
section
variable {Hs0 H0 Hs H Hs' H':Hp} {σ:St} {ε:ME}
theorem RS.go (r:RS Hs0 H0 Hs H σ ε) (e:Ext Hs H Hs' H'):RS Hs0 H0 Hs' H' σ ε where
 ext:=r.ext.trans e
 sh:=fun i x q=>by obtain ⟨v,a,b⟩:=r.sh i x q;exact ⟨v,a,b.mono e.s1⟩
 ow:=fun i x q=>by
  obtain ⟨a,b,n0,n,t⟩:=r.ow i x q
  exact ⟨a,b,n0,e.s4 a t.there n,t.mono e.s1 fun o z=>e.s2 _ _ z⟩
 nd:=r.nd
 len:=r.len
 bo:=fun i x q=>by
  obtain ⟨v,b,h | ⟨a,rfl,n0,n,t⟩⟩:=r.bo i x q
  ·exact ⟨v,b,.inl (h.mono e.s1)⟩
  ·exact ⟨_,b,.inr ⟨a,rfl,n0,e.s4 a t.there n,t.mono e.s1 fun o z=>e.s2 _ _ z⟩⟩
theorem RS.sub (r:RS Hs0 H0 Hs H σ ε):Same Hs H:=r.ext.s3
theorem RS.rebase (r:RS Hs0 H0 Hs H σ ε):RS Hs H0 Hs H σ ε:=⟨⟨.refl _,r.ext.s2,r.ext.s3,fun _ _ z=>z⟩,r.sh,r.ow,r.nd,r.len,r.bo⟩
theorem Ext.unbase {Hb:Hp} (r:Ext Hs0 H0 Hb H) (e:Ext Hb H0 Hs' H'):Ext Hs0 H0 Hs' H':=⟨r.s1.trans e.s1,e.s2,e.s3,fun b h z=>e.s4 b h (r.s4 b h z)⟩
theorem RS.unbase {Hb:Hp} {σ':St} {ε':ME} (r:Ext Hs0 H0 Hb H) (e:RS Hb H0 Hs' H' σ' ε'):RS Hs0 H0 Hs' H' σ' ε':=⟨r.unbase e.ext,e.sh,e.ow,e.nd,e.len,e.bo⟩
theorem RS.put (r:RS Hs0 H0 Hs H σ ε) {i:Nat} {x:PV} {v:V} (h:Rep Hs x v):RS Hs0 H0 Hs H (σ.set i (some v)) (ε.set i (.sh x)) where
 ext:=r.ext
 sh:=fun j y q=>by
  rw [List.getElem?_set] at q ⊢
  split at q
  ·rename_i hij
   split at q
   ·rename_i hl
    injection q with q;injection q with q;subst q
    rw [if_pos hij,if_pos (by rw [r.len,hij];rw [hij] at hl;exact hl)]
    exact ⟨v,rfl,h⟩
   ·cases q
  ·rename_i hij
   rw [if_neg hij]
   exact r.sh j y q
 ow:=fun j y q=>by
  rw [List.getElem?_set] at q ⊢
  split at q
  ·split at q <;> cases q
  ·rename_i hij
   rw [if_neg hij]
   exact r.ow j y q
 nd:=fun j k x y a h1 h2 h3 h4=>by
  rw [List.getElem?_set] at h1 h2 h3 h4
  split at h1
  ·split at h1 <;> cases h1
  ·rename_i hj
   rw [if_neg hj] at h3
   split at h2
   ·split at h2 <;> cases h2
   ·rename_i hk
    rw [if_neg hk] at h4
    exact r.nd j k x y a h1 h2 h3 h4
 len:=by rw [List.length_set,List.length_set,r.len]
 bo:=fun j y q=>by
  rw [List.getElem?_set] at q ⊢
  split at q
  ·split at q <;> cases q
  ·rename_i hij
   rw [if_neg hij]
   exact r.bo j y q
theorem RS.putO (r:RS Hs0 H0 Hs H σ ε) {i:Nat} {x:PV} {a:Addr} (h:Own H0 Hs H a x) (ne:∀ (j:Nat) (y:PV),ε[j]?=some (.ow y)->σ[j]? ≠ some (some (.ref a))):RS Hs0 H0 Hs H (σ.set i (some (.ref a))) (ε.set i (.ow x)) where
 ext:=r.ext
 sh:=fun j y q=>by
  rw [List.getElem?_set] at q ⊢
  split at q
  ·split at q <;> cases q
  ·rename_i hij
   rw [if_neg hij]
   exact r.sh j y q
 ow:=fun j y q=>by
  rw [List.getElem?_set] at q ⊢
  split at q
  ·rename_i hij
   split at q
   ·rename_i hl
    injection q with q;injection q with q;subst q
    rw [if_pos hij,if_pos (by rw [r.len,hij];rw [hij] at hl;exact hl)]
    exact ⟨a,rfl,h⟩
   ·cases q
  ·rename_i hij
   rw [if_neg hij]
   exact r.ow j y q
 nd:=fun j k x' y b h1 h2 h3 h4=>by
  rw [List.getElem?_set] at h1 h2 h3 h4
  split at h1
  ·rename_i hj
   rw [if_pos hj] at h3
   split at h1
   ·rename_i hl
    rw [if_pos (by rw [r.len];exact hl)] at h3
    injection h3 with h3;injection h3 with h3;injection h3 with h3;subst h3
    split at h2
    ·rename_i hk;exact hj.symm.trans hk
    ·rename_i hk
     rw [if_neg hk] at h4
     exact absurd h4 (ne k y h2)
   ·cases h1
  ·rename_i hj
   rw [if_neg hj] at h3
   split at h2
   ·rename_i hk
    rw [if_pos hk] at h4
    split at h2
    ·rename_i hl
     rw [if_pos (by rw [r.len];exact hl)] at h4
     injection h4 with h4;injection h4 with h4;injection h4 with h4;subst h4
     exact absurd h3 (ne j x' h1)
    ·cases h2
   ·rename_i hk
    rw [if_neg hk] at h4
    exact r.nd j k x' y b h1 h2 h3 h4
 len:=by rw [List.length_set,List.length_set,r.len]
 bo:=fun j y q=>by
  rw [List.getElem?_set] at q ⊢
  split at q
  ·split at q <;> cases q
  ·rename_i hij
   rw [if_neg hij]
   exact r.bo j y q
theorem RS.change (r:RS Hs0 H0 Hs H σ ε) {i:Nat} {x y:PV} {a:Addr} {o:HO} (hi:ε[i]?=some (.ow x)) (ha:σ[i]?=some (some (.ref a))) (t:Top Hs (upd H a o) a y):RS Hs0 H0 Hs (upd H a o) σ (ε.set i (.ow y)):=by
 obtain ⟨b,hb,n0,n,tx⟩:=r.ow i x hi
 rw [ha] at hb
 injection hb with hb;injection hb with hb;injection hb with hb
 subst hb
 refine ⟨⟨r.ext.s1,fun b u e=>?_,fun b u e=>?_,r.ext.s4⟩,fun j z q=>?_,fun j z q=>?_,fun j k z z' c h1 h2 h3 h4=>?_,by rw [List.length_set,r.len],fun j z q=>?_⟩
 ·rw [qam (qai e n0)];exact r.ext.s2 _ _ e
 ·rw [qam (qai e n)];exact r.ext.s3 _ _ e
 ·rw [List.getElem?_set] at q
  split at q
  ·split at q <;> cases q
  ·exact r.sh j z q
 ·rw [List.getElem?_set] at q
  split at q
  ·rename_i hij
   split at q
   ·injection q with q;injection q with q;subst q
    exact ⟨a,hij ▸ ha,n0,n,t⟩
   ·cases q
  ·rename_i hij
   obtain ⟨c,hc,m0,m,tc⟩:=r.ow j z q
   have hne:c ≠ a:=fun e=>hij (r.nd i j x z a hi q ha (e ▸ hc))
   exact ⟨c,hc,m0,m,tc.mono (.refl _) fun o' e=>by rw [qam hne];exact e⟩
 ·have down:∀ {m:Nat} {w:PV},(ε.set i (.ow y))[m]?=some (.ow w)->∃ w',ε[m]?=some (.ow w'):=by
   intro m w q
   rw [List.getElem?_set] at q
   split at q
   ·rename_i him;exact ⟨x,him ▸ hi⟩
   ·exact ⟨w,q⟩
  obtain ⟨w1,q1⟩:=down h1
  obtain ⟨w2,q2⟩:=down h2
  exact r.nd j k w1 w2 c q1 q2 h3 h4
 ·rw [List.getElem?_set] at q
  split at q
  ·split at q <;> cases q
  ·obtain ⟨v,hv,h | ⟨c,rfl,m0,m,tc⟩⟩:=r.bo j z q
   ·exact ⟨v,hv,.inl h⟩
   ·have hne:c ≠ a:=fun e=>m0 (e ▸ n0)
    exact ⟨_,hv,.inr ⟨c,rfl,m0,m,tc.mono (.refl _) fun o' e=>by rw [qam hne];exact e⟩⟩
def fz (i:Nat) (ε:ME):ME:=match ε[i]? with
 | some (.ow x)=>ε.set i (.sh x)
 | _=>ε
end
theorem ql7 {ε:ME} {j:Nat} {s:MSlot} (h:∀ (i:Nat) (x:PV),ε[i]? ≠ some (.bo x)) (hs:∀ x,s ≠ .bo x):∀ (i:Nat) (x:PV),(ε.set j s)[i]? ≠ some (.bo x):=fun i x q=>by
 rw [List.getElem?_set] at q
 split at q
 ·split at q
  ·injection q with q;exact hs x q
  ·cases q
 ·exact h i x q
abbrev M:=ME->Option PV
abbrev MB:=ME->Option Bool
abbrev MA:=ME->Option (List PV)
class SemE (te:TE) (f:M):Prop where
 h:∀ {ε y},f ε=some y->∀ {Hs0 H0 Hs H σ},RS Hs0 H0 Hs H σ ε->∀ {Q:VK},(∀ v Hs' H',Ext Hs H Hs' H'->Rep Hs' y v->Q v H')->te σ H Q
class qic (te:TE) (f:M):Prop where
 h:∀ {ε y},f ε=some y->∀ {Hs0 H0 Hs H σ},RS Hs0 H0 Hs H σ ε->∀ {Q:VK},(∀ v Hs' H',Ext Hs H Hs' H'->RepB Hs' H' y v->Q v H')->te σ H Q
class qn2 (te:TE) (f:M):Prop where
 h:∀ {ε y},f ε=some y->∀ {Hs0 H0 Hs H σ},RS Hs0 H0 Hs H σ ε->∀ {Q:VK},(∀ a Hs' H',Ext Hs H Hs' H'->H a=none->Hs' a=none->Top Hs' H' a y->Q (.ref a) H')->te σ H Q
class qmj (tt:TT) (f:MB):Prop where
 h:∀ {ε y},f ε=some y->∀ {Hs0 H0 Hs H σ},RS Hs0 H0 Hs H σ ε->∀ {Q:Bool->Hp->Prop},(∀ Hs' H',Ext Hs H Hs' H'->Q y H')->tt σ H Q
class qpv (ta:TA) (f:MA):Prop where
 h:∀ {ε ys},f ε=some ys->∀ {Hs0 H0 Hs H σ},RS Hs0 H0 Hs H σ ε->∀ {Q:List V->Hp->Prop},(∀ vs Hs' H',Ext Hs H Hs' H'->Reps Hs' ys vs->Q vs H')->ta σ H Q
def qua (Hs H:Hp):List PV->List V->Prop
 | [],vs=>vs=[]
 | x::xs,vs=>∃ v r,vs=v::r/\RepB Hs H x v/\qua Hs H xs r
class qxz (ta:TA) (f:MA):Prop where
 h:∀ {ε ys},f ε=some ys->∀ {Hs0 H0 Hs H σ},RS Hs0 H0 Hs H σ ε->∀ {Q:List V->Hp->Prop},(∀ vs Hs' H',Ext Hs H Hs' H'->qua Hs' H' ys vs->Q vs H')->ta σ H Q
class qso (r:R2) (g:PV->PV->Option PV):Prop where
 h:∀ {x y z},g x y=some z->∀ {Hs H:Hp} {v w:V},Same Hs H->RepB Hs H x v->RepB Hs H y w->∀ {Q:VK},(∀ u Hs' H',Ext Hs H Hs' H'->Rep Hs' z u->Q u H')->r v w H Q
instance (priority:=50) semE_O {te:TE} {f:M} [s:qn2 te f]:SemE te f where
 h:=fun e _ _ _ _ _ r _ q=>s.h e r fun a Hs' H' x h n t=>by
  obtain ⟨o,ho,hr⟩:=t.rep n
  exact q _ _ _ (x.share h n ho) hr
instance (priority:=50) semB_E {te:TE} {f:M} [s:SemE te f]:qic te f where
 h:=fun e _ _ _ _ _ r _ q=>s.h e r fun v Hs' H' x h=>q v Hs' H' x (.inl h)

def qat (i:Nat):M:=fun ε=>match ε[i]? with
 | some (.sh x)=>some x
 | _=>none
def qap (i:Nat):M:=fun ε=>match ε[i]? with
 | some (.sh x)=>some x
 | some (.ow x)=>some x
 | some (.bo x)=>some x
 | _=>none
def dC (v:V):M:=fun _=>some (.at v)
instance {i:Nat}:SemE (qiu i) (qat i) where
 h:=fun {ε y} e {_ _ _ _ _} r {_} q=>by
  unfold qat at e
  split at e
  ·rename_i x hx
   cases e
   obtain ⟨v,h1,h2⟩:=r.sh i _ hx
   exact ⟨v,h1,q v _ _ (.refl r.sub) h2⟩
  ·cases e
instance {i:Nat}:qic (qiu i) (qap i) where
 h:=fun {ε y} e {_ _ _ _ _} r {_} q=>by
  unfold qap at e
  split at e
  ·rename_i x hx
   cases e
   obtain ⟨v,h1,h2⟩:=r.sh i _ hx
   exact ⟨v,h1,q v _ _ (.refl r.sub) (.inl h2)⟩
  ·rename_i x hx
   cases e
   obtain ⟨a,h1,_,n,t⟩:=r.ow i _ hx
   exact ⟨_,h1,q _ _ _ (.refl r.sub) (.inr ⟨a,rfl,n,t⟩)⟩
  ·rename_i x hx
   cases e
   obtain ⟨v,h1,h2 | ⟨a,rfl,_,n,t⟩⟩:=r.bo i _ hx
   ·exact ⟨v,h1,q v _ _ (.refl r.sub) (.inl h2)⟩
   ·exact ⟨_,h1,q _ _ _ (.refl r.sub) (.inr ⟨a,rfl,n,t⟩)⟩
  ·cases e
instance {v:V}:SemE (tC v) (dC v) where
 h:=fun e _ _ _ _ _ r _ q=>by cases e;exact q v _ _ (.refl r.sub) (rep_at.mpr rfl)
def qay (g:PV->PV->Option PV) (a b:M):M:=fun ε=>(a ε).bind fun x=>(b ε).bind fun y=>g x y
theorem bind_some {α β:Type} {o:Option α} {f:α->Option β} {y:β} (h:o.bind f=some y):∃ x,o=some x/\f x=some y:=by
 cases o with
 | none=>cases h
 | some x=>exact ⟨x,rfl,h⟩
instance {r:R2} {g:PV->PV->Option PV} {ta tb:TE} {a b:M} [sr:qso r g] [sa:qic ta a] [sb:qic tb b]:SemE (tOp r ta tb) (qay g a b) where
 h:=fun e _ _ _ _ _ rs _ q=>by
  obtain ⟨x,ex,e⟩:=bind_some e
  obtain ⟨y,ey,e⟩:=bind_some e
  exact sa.h ex rs fun v Hs1 H1 x1 r1=>sb.h ey (rs.go x1) fun w Hs2 H2 x2 r2=>sr.h e x2.s3 (r1.ext x2) r2 fun u Hs3 H3 x3 r3=>q u _ _ (x1.trans (x2.trans x3)) r3
def qav:MA:=fun _=>some []
def qad (a:M) (r:MA):MA:=fun ε=>(a ε).bind fun x=>(r ε).bind fun xs=>some (x::xs)
instance:qpv qiv qav where
 h:=fun e _ _ _ _ _ r _ q=>by cases e;exact q [] _ _ (.refl r.sub) .nil
instance {te:TE} {ta:TA} {a:M} {f:MA} [sa:SemE te a] [sr:qpv ta f]:qpv (qc6 te ta) (qad a f) where
 h:=fun e _ _ _ _ _ rs _ q=>by
  obtain ⟨x,ex,e⟩:=bind_some e
  obtain ⟨xs,ey,e⟩:=bind_some e
  cases e
  exact sa.h ex rs fun v Hs1 H1 x1 r1=>sr.h ey (rs.go x1) fun vs Hs2 H2 x2 r2=>q _ _ _ (x1.trans x2) (.cons (r1.mono x2.s1) r2)
instance:qxz qiv qav where
 h:=fun e _ _ _ _ _ r _ q=>by cases e;exact q [] _ _ (.refl r.sub) rfl
instance {te:TE} {ta:TA} {a:M} {f:MA} [sa:qic te a] [sr:qxz ta f]:qxz (qc6 te ta) (qad a f) where
 h:=fun e _ _ _ _ _ rs _ q=>by
  obtain ⟨x,ex,e⟩:=bind_some e
  obtain ⟨xs,ey,e⟩:=bind_some e
  cases e
  exact sa.h ex rs fun v Hs1 H1 x1 r1=>sr.h ey (rs.go x1) fun vs Hs2 H2 x2 r2=>q _ _ _ (x1.trans x2) ⟨_,_,rfl,r1.ext x2,r2⟩
def lim:Nat:=1000000
theorem qec {n:Nat} (h:n<=lim):n<=sizeLine:=Nat.le_trans h (by rw [sizeLine_eq];decide)
theorem qoy {n:Nat} (h:n<=lim):n < sizeLine:=Nat.lt_of_le_of_lt h (by rw [sizeLine_eq];decide)
def qpb (a:MA):M:=fun ε=>(a ε).bind fun xs=>if xs.length<=lim then some (.tup xs) else none
def qff (a:MA):M:=fun ε=>(a ε).bind fun xs=>if xs.length<=lim then some (.lst xs) else none
instance {ta:TA} {f:MA} [sa:qpv ta f]:SemE (tTup ta) (qpb f) where
 h:=fun e _ _ _ _ _ rs _ q=>by
  obtain ⟨xs,ex,e⟩:=bind_some e
  split at e
  ·rename_i hl
   cases e
   exact sa.h ex rs fun vs Hs1 H1 x1 r1=>⟨qec (r1.length ▸ hl),fun p hp=>q _ _ _ (x1.trans (.new x1.s3 hp)) (rep_tup.mpr ⟨p,vs,rfl,qan,r1.mono (Ext.new x1.s3 hp).s1⟩)⟩
  ·cases e
instance {ta:TA} {f:MA} [sa:qpv ta f]:qn2 (tLst ta) (qff f) where
 h:=fun e _ _ _ _ _ rs _ q=>by
  obtain ⟨xs,ex,e⟩:=bind_some e
  split at e
  ·rename_i hl
   cases e
   exact sa.h ex rs fun vs Hs1 H1 x1 r1=>⟨qec (r1.length ▸ hl),fun p hp=>q _ _ _ (x1.trans (.newO x1.s3 hp)) (x1.s2.free hp) (x1.s3.free hp) ⟨vs,qan,r1⟩⟩
  ·cases e
end Mi
namespace Mi
open PySem L2
theorem qa0 {Hs H:Hp} {u v:V} (h:RepB Hs H (.at u) v):v=u:=by
 rcases h with h | ⟨a,_,_,t⟩
 ·exact rep_at.mp h
 ·exact t.elim
theorem qbd {Hs H:Hp} {xs:List PV} {v:V} (s:Same Hs H) (h:RepB Hs H (.lst xs) v):∃ a vs,v = .ref a/\H a=some (.lst vs)/\Reps Hs xs vs:=by
 rcases h with h | ⟨a,rfl,_,vs,e,r⟩
 ·obtain ⟨a,vs,rfl,e,r⟩:=rep_lst.mp h
  exact ⟨a,vs,rfl,s _ _ e,r⟩
 ·exact ⟨a,vs,rfl,e,r⟩
theorem qby {Hs H:Hp} {xs:List PV} {v:V} (s:Same Hs H) (h:RepB Hs H (.tup xs) v):∃ a vs,v = .ref a/\H a=some (.tup vs)/\Reps Hs xs vs:=by
 rcases h with h | ⟨a,rfl,_,t⟩
 ·obtain ⟨a,vs,rfl,e,r⟩:=rep_tup.mp h
  exact ⟨a,vs,rfl,s _ _ e,r⟩
 ·exact t.elim
theorem qju {Hs H:Hp} {ks:List Key} {xs:List PV} {v:V} (s:Same Hs H) (h:RepB Hs H (.fk ks xs) v):∃ a o kvs,v = .ref a/\H a=some (.frz o (.dK kvs))/\kvs.map (·.1)=ks/\Reps Hs xs (kvs.map (·.2)):=by
 rcases h with h | ⟨a,rfl,n,t⟩
 ·obtain ⟨a,o,kvs,rfl,e,k,r⟩:=rep_fk.mp h
  exact ⟨a,o,kvs,rfl,s _ _ e,k,r⟩
 ·exact t.elim
theorem qfn {Hs H:Hp} {ks:List Key} {xs:List PV} {v:V} (s:Same Hs H) (h:RepB Hs H (.dk ks xs) v):∃ a kvs,v = .ref a/\H a=some (.dK kvs)/\kvs.map (·.1)=ks/\Reps Hs xs (kvs.map (·.2)):=by
 rcases h with h | ⟨a,rfl,_,kvs,e,k,r⟩
 ·obtain ⟨a,kvs,rfl,e,k,r⟩:=rep_dk.mp h
  exact ⟨a,kvs,rfl,s _ _ e,k,r⟩
 ·exact ⟨a,kvs,rfl,e,k,r⟩
theorem qvf {Hs H:Hp} {C:Addr} {ns:List Str} {xs:List PV} {v:V} (s:Same Hs H) (h:RepB Hs H (.ob C ns xs) v):∃ a dx fs,v = .ref a/\H a=some (.ins C dx fs)/\fs.map (·.1)=ns/\Reps Hs xs (fs.map (·.2)):=by
 rcases h with h | ⟨a,rfl,_,dx,fs,e,k,r⟩
 ·obtain ⟨a,dx,fs,rfl,e,k,r⟩:=rep_ob.mp h
  exact ⟨a,dx,fs,rfl,s _ _ e,k,r⟩
 ·exact ⟨a,dx,fs,rfl,e,k,r⟩
def pI (g:Int->Int->Option V):PV->PV->Option PV
 | .at (.int i),.at (.int j)=>(g i j).map .at
 | _,_=>none
theorem qvx {g:Int->Int->Option V} {x y z:PV} (h:pI g x y=some z):∃ i j u,x = .at (.int i)/\y = .at (.int j)/\g i j=some u/\z = .at u:=by
 unfold pI at h
 split at h
 ·rename_i i j
  obtain ⟨u,e,rfl⟩:=Option.map_eq_some_iff.mp h
  exact ⟨i,j,u,rfl,rfl,e,rfl⟩
 ·cases h
instance {g:Int->Int->V}:qso (rI0 g) (pI fun i j=>some (g i j)) where
 h:=fun e _ _ _ _ s a b _ q=>by
  obtain ⟨i,j,u,rfl,rfl,e,rfl⟩:=qvx e
  cases e
  exact ⟨i,j,qa0 a,qa0 b,q _ _ _ (.refl s) (rep_at.mpr rfl)⟩
instance {C:Int->Int->Prop} [d:∀ i j,Decidable (C i j)] {g:Int->Int->V}:qso (rI C g) (pI fun i j=>if C i j then some (g i j) else none) where
 h:=fun e _ _ _ _ s a b _ q=>by
  obtain ⟨i,j,u,rfl,rfl,e',rfl⟩:=qvx e
  split at e'
  ·rename_i hc
   cases e'
   exact ⟨i,j,qa0 a,qa0 b,hc,q _ _ _ (.refl s) (rep_at.mpr rfl)⟩
  ·cases e'
def pIx:PV->PV->Option PV
 | .lst xs,.at (.int i)=>atI xs i
 | .tup xs,.at (.int i)=>atI xs i
 | .at (.str z),.at (.int i)=>if z.length<=lim then (L2.atI z.cps.toList i).map fun c=> .at (.str ⟨#[c]⟩) else none
 | _,_=>none
theorem Reps.atI {H:Hp} {xs:List PV} {vs:List V} {i:Int} {x:PV} (r:Reps H xs vs) (h:atI xs i=some x):∃ v,L2.atI vs i=some v/\Rep H x v:=by
 unfold L2.atI at h ⊢
 rw [r.length]
 obtain ⟨j,ej,e⟩:=bind_some h
 rw [ej]
 exact r.get e
instance {K:PySem.W.Frag}:qso (rIx K) pIx where
 h:=fun {x y z} e {Hs H v w} s a b {Q} q=>by
  unfold pIx at e
  split at e
  ·obtain ⟨p,vs,rfl,e1,r1⟩:=qbd s a
   obtain ⟨u,hu,r⟩:=r1.atI e
   exact .inl ⟨p,vs,_,u,rfl,qa0 b,SqL.of e1,hu,q _ _ _ (.refl s) r⟩
  ·obtain ⟨p,vs,rfl,e1,r1⟩:=qby s a
   obtain ⟨u,hu,r⟩:=r1.atI e
   exact .inr (.inl ⟨p,vs,_,u,rfl,qa0 b,SqT.of e1,hu,q _ _ _ (.refl s) r⟩)
  ·split at e
   ·rename_i hz
    obtain ⟨c,hc,rfl⟩:=Option.map_eq_some_iff.mp e
    exact .inr (.inr ⟨_,_,c,qa0 a,qa0 b,qec hz,hc,q _ _ _ (.refl s) (rep_at.mpr rfl)⟩)
   ·cases e
  ·cases e
def ats:List PV->Option (List V)
 | []=>some []
 | .at u::xs=>(ats xs).map (u::·)
 | _::_=>none
theorem qq7:∀ {xs:List PV} {us:List V},ats xs=some us->xs=us.map .at
 | [],_,h=>by cases h;rfl
 | .at u::xs,us,h=>by
  unfold ats at h
  obtain ⟨r,e,rfl⟩:=Option.map_eq_some_iff.mp h
  rw [List.map_cons,qq7 e]
 | .tup _::_,_,h=>by cases h
 | .lst _::_,_,h=>by cases h
 | .dk _ _::_,_,h=>by cases h
 | .fk _ _::_,_,h=>by cases h
 | .ob _ _ _::_,_,h=>by cases h
 | .op _::_,_,h=>by cases h
def pIn (neg:Bool):PV->PV->Option PV
 | .at u,.lst xs=>(ats xs).bind fun us=>if qbn u=true/\us.all qbn=true then some (.at (.bl (if neg then !inV u us else inV u us))) else none
 | .at u,.tup xs=>(ats xs).bind fun us=>if qbn u=true/\us.all qbn=true then some (.at (.bl (if neg then !inV u us else inV u us))) else none
 | _,_=>none
instance {K:PySem.W.Frag} {neg:Bool}:qso (rIn K neg) (pIn neg) where
 h:=fun {x y z} e {Hs H v w} s a b {Q} q=>by
  unfold pIn at e
  split at e
  ·obtain ⟨us,e1,e⟩:=bind_some e
   split at e
   ·rename_i hf
    cases e
    obtain ⟨p,vs,rfl,e2,r2⟩:=qbd s b
    rw [qq7 e1] at r2
    cases r2.ats
    cases qa0 a
    exact ⟨p,_,rfl,.inl (SqL.of e2),hf.1,hf.2,q _ _ _ (.refl s) (rep_at.mpr rfl)⟩
   ·cases e
  ·obtain ⟨us,e1,e⟩:=bind_some e
   split at e
   ·rename_i hf
    cases e
    obtain ⟨p,vs,rfl,e2,r2⟩:=qby s b
    rw [qq7 e1] at r2
    cases r2.ats
    cases qa0 a
    exact ⟨p,_,rfl,.inr (SqT.of e2),hf.1,hf.2,q _ _ _ (.refl s) (rep_at.mpr rfl)⟩
   ·cases e
  ·cases e
class SemU (r:V->Hp->VK->Prop) (g:PV->Option PV):Prop where
 h:∀ {x z},g x=some z->∀ {Hs H:Hp} {v:V},Same Hs H->RepB Hs H x v->∀ {Q:VK},(∀ u Hs' H',Ext Hs H Hs' H'->Rep Hs' z u->Q u H')->r v H Q
def dUn (g:PV->Option PV) (a:M):M:=fun ε=>(a ε).bind g
instance {r:V->Hp->VK->Prop} {g:PV->Option PV} {ta:TE} {a:M} [sr:SemU r g] [sa:qic ta a]:SemE (tUn r ta) (dUn g a) where
 h:=fun e _ _ _ _ _ rs _ q=>by
  obtain ⟨x,ex,e⟩:=bind_some e
  exact sa.h ex rs fun v Hs1 H1 x1 r1=>sr.h e x1.s3 r1 fun u Hs3 H3 x3 r3=>q u _ _ (x1.trans x3) r3
def pU (g:Int->V):PV->Option PV
 | .at (.int i)=>some (.at (g i))
 | _=>none
instance {g:Int->V}:SemU (rU g) (pU g) where
 h:=fun {x z} e {_ _ _} s a {_} q=>by
  unfold pU at e
  split at e
  ·cases e;exact ⟨_,qa0 a,q _ _ _ (.refl s) (rep_at.mpr rfl)⟩
  ·cases e
def pB:PV->Option Bool
 | .at (.bl b)=>some b
 | _=>none
theorem qh7 {x:PV} {b:Bool} (h:pB x=some b):x = .at (.bl b):=by
 unfold pB at h
 split at h
 ·cases h;rfl
 ·cases h
def dT (a:M):MB:=fun ε=>(a ε).bind pB
instance {te:TE} {a:M} [sa:qic te a]:qmj (tTest te) (dT a) where
 h:=fun e _ _ _ _ _ rs _ q=>by
  obtain ⟨x,ex,e⟩:=bind_some e
  cases qh7 e
  exact sa.h ex rs fun v Hs1 H1 x1 r1=>⟨_,qa0 r1,q _ _ x1⟩
instance {te:TE} {a:M} [sa:qic te a]:qmj (tB te) (dT a) where
 h:=fun e _ _ _ _ _ rs _ q=>by
  obtain ⟨x,ex,e⟩:=bind_some e
  cases qh7 e
  exact sa.h ex rs fun v Hs1 H1 x1 r1=>⟨_,qa0 r1,q _ _ x1⟩
def tTru (K:PySem.W.Frag) (ta:TE):TT:=fun σ H Q=>ta σ H fun x H'=>∃ k,TruV K x H' k/\Q k H'
def pTru:PV->Option Bool
 | .at .non=>some false
 | .at (.bl b)=>some b
 | .at (.int i)=>some (i != 0)
 | .at (.str y)=>if y.length<=lim then some ((y.length:Int) != 0) else none
 | .lst xs=>some (!xs.isEmpty)
 | .tup xs=>some (!xs.isEmpty)
 | .dk ks _=>some (!ks.isEmpty)
 | _=>none
def qk3 (a:M):MB:=fun ε=>(a ε).bind pTru
theorem Reps.isEmpty {H:Hp} {xs:List PV} {vs:List V} (r:Reps H xs vs):vs.isEmpty=xs.isEmpty:=by
 have:=r.length
 cases xs <;> cases vs <;> first | rfl | (simp at this)
instance {K:PySem.W.Frag} {te:TE} {a:M} [sa:qic te a]:qmj (tTru K te) (qk3 a) where
 h:=fun e _ _ _ _ _ rs _ q=>by
  obtain ⟨x,ex,e⟩:=bind_some e
  refine sa.h ex rs fun v Hs1 H1 x1 r1=>?_
  unfold pTru at e
  split at e
  ·cases e;cases qa0 r1;exact ⟨_,rfl,q _ _ x1⟩
  ·cases e;cases qa0 r1;exact ⟨_,rfl,q _ _ x1⟩
  ·cases e;cases qa0 r1;exact ⟨_,rfl,q _ _ x1⟩
  ·split at e
   ·rename_i hl
    cases e;cases qa0 r1;exact ⟨_,⟨qec hl,rfl⟩,q _ _ x1⟩
   ·cases e
  ·cases e
   obtain ⟨p,vs,rfl,e1,r2⟩:=qbd x1.s3 r1
   exact ⟨_,.inl ⟨vs,SqL.of e1,by rw [r2.isEmpty]⟩,q _ _ x1⟩
  ·cases e
   obtain ⟨p,vs,rfl,e1,r2⟩:=qby x1.s3 r1
   exact ⟨_,.inr (.inl ⟨vs,SqT.of e1,by rw [r2.isEmpty]⟩),q _ _ x1⟩
  ·cases e
   obtain ⟨p,kvs,rfl,e1,k,r2⟩:=qfn x1.s3 r1
   refine ⟨_,.inr (.inr ⟨kvs,e1,?_⟩),q _ _ x1⟩
   rw [<- k]
   cases kvs <;> rfl
  ·cases e
def dAnd (a b:MB):MB:=fun ε=>(a ε).bind fun c=>if c=true then b ε else some false
def dOr (a b:MB):MB:=fun ε=>(a ε).bind fun c=>if c=true then some true else b ε
def qjg (a:MB):MB:=fun ε=>(a ε).bind fun c=>some (!c)
instance {t u:TT} {a b:MB} [sa:qmj t a] [sb:qmj u b]:qmj (tAnd t u) (dAnd a b) where
 h:=fun e _ _ _ _ _ rs _ q=>by
  obtain ⟨c,ex,e⟩:=bind_some e
  refine sa.h ex rs fun Hs1 H1 x1=>?_
  cases c with
  | true=>exact qr2 (sb.h e (rs.go x1) fun Hs2 H2 x2=>q _ _ (x1.trans x2))
  | false=>cases e;exact qr3 (q _ _ x1)
instance {t u:TT} {a b:MB} [sa:qmj t a] [sb:qmj u b]:qmj (tOr t u) (dOr a b) where
 h:=fun e _ _ _ _ _ rs _ q=>by
  obtain ⟨c,ex,e⟩:=bind_some e
  refine sa.h ex rs fun Hs1 H1 x1=>?_
  cases c with
  | true=>cases e;exact qr2 (q _ _ x1)
  | false=>exact qr3 (sb.h e (rs.go x1) fun Hs2 H2 x2=>q _ _ (x1.trans x2))
instance {t:TT} {a:MB} [sa:qmj t a]:qmj (tNot t) (qjg a) where
 h:=fun e _ _ _ _ _ rs _ q=>by
  obtain ⟨c,ex,e⟩:=bind_some e
  cases e
  exact sa.h ex rs fun Hs1 H1 x1=>q _ _ x1
def qia (a b:M):M:=fun ε=>(a ε).bind fun x=>(pB x).bind fun c=>if c=true then b ε else some (.at (.bl false))
def qw9 (a:M):M:=fun ε=>(a ε).bind fun x=>(pB x).bind fun c=>some (.at (.bl (!c)))
instance {t u:TE} {a b:M} [sa:SemE t a] [sb:SemE u b]:SemE (tAndV t u) (qia a b) where
 h:=fun e _ _ _ _ _ rs _ q=>by
  obtain ⟨x,ex,e⟩:=bind_some e
  obtain ⟨c,ec,e⟩:=bind_some e
  cases qh7 ec
  refine sa.h ex rs fun v Hs1 H1 x1 r1=>⟨c,rep_at.mp r1,?_⟩
  cases c with
  | true=>exact qr2 (sb.h e (rs.go x1) fun w Hs2 H2 x2 r2=>q _ _ _ (x1.trans x2) r2)
  | false=>cases e;exact qr3 (q _ _ _ x1 (rep_at.mpr rfl))
instance {t:TE} {a:M} [sa:qic t a]:SemE (tNotV t) (qw9 a) where
 h:=fun e _ _ _ _ _ rs _ q=>by
  obtain ⟨x,ex,e⟩:=bind_some e
  obtain ⟨c,ec,e⟩:=bind_some e
  cases qh7 ec
  cases e
  exact sa.h ex rs fun v Hs1 H1 x1 r1=>⟨c,qa0 r1,q _ _ _ x1 (rep_at.mpr rfl)⟩
def dIf (c:MB) (a b:M):M:=fun ε=>(c ε).bind fun k=>if k=true then a ε else b ε
instance {t:TT} {ta tb:TE} {c:MB} {a b:M} [sc:qmj t c] [sa:SemE ta a] [sb:SemE tb b]:SemE (tIf t ta tb) (dIf c a b) where
 h:=fun e _ _ _ _ _ rs _ q=>by
  obtain ⟨k,ex,e⟩:=bind_some e
  refine sc.h ex rs fun Hs1 H1 x1=>?_
  cases k with
  | true=>exact qr2 (sa.h e (rs.go x1) fun w Hs2 H2 x2 r2=>q _ _ _ (x1.trans x2) r2)
  | false=>exact qr3 (sb.h e (rs.go x1) fun w Hs2 H2 x2 r2=>q _ _ _ (x1.trans x2) r2)
def qkq (g g':PV->PV->Option PV) (a b c:M):M:=fun ε=>(a ε).bind fun x=>(b ε).bind fun y=>(g x y).bind fun z=>(pB z).bind fun k=>if k=true then (c ε).bind fun w=>g' y w else some (.at (.bl false))
instance {r r':R2} {g g':PV->PV->Option PV} {ta tb tc:TE} {a b c:M} [sr:qso r g] [sr':qso r' g'] [sa:qic ta a] [sb:qic tb b] [sc:qic tc c]:SemE (qux r r' ta tb tc) (qkq g g' a b c) where
 h:=fun e _ _ _ _ _ rs _ q=>by
  obtain ⟨x,ex,e1⟩:=bind_some e
  obtain ⟨y,ey,e2⟩:=bind_some e1
  obtain ⟨z,ez,e3⟩:=bind_some e2
  obtain ⟨k,ek,e4⟩:=bind_some e3
  have ez':=qh7 ek
  subst ez'
  refine sa.h ex rs fun v Hs1 H1 x1 r1=>sb.h ey (rs.go x1) fun w Hs2 H2 x2 r2=>sr.h ez x2.s3 (r1.ext x2) r2 fun u Hs3 H3 x3 r3=>⟨k,rep_at.mp r3,?_⟩
  cases k with
  | true =>
   obtain ⟨w',ew,e5⟩:=bind_some e4
   exact qr2 (sc.h ew (((rs.go x1).go x2).go x3) fun u' Hs4 H4 x4 r4=>sr'.h e5 x4.s3 ((r2.ext x3).ext x4) r4 fun u'' Hs5 H5 x5 r5=>q _ _ _ (x1.trans (x2.trans (x3.trans (x4.trans x5)))) r5)
  | false=>cases e4;exact qr3 (q _ _ _ (x1.trans (x2.trans x3)) (rep_at.mpr rfl))
end Mi
namespace Mi
open PySem L2
def spP (m:List PV->Option PV):Sp:=fun vs H Q _=>∃ Hs xs y,Same Hs H/\Reps Hs xs vs/\m xs=some y/\∀ v Hs' H',Ext Hs H Hs' H'->Rep Hs' y v->Q v H'
def spO (m:List PV->Option PV):Sp:=fun vs H Q _=>∃ Hs xs y,Same Hs H/\Reps Hs xs vs/\m xs=some y/\∀ a Hs' H',Ext Hs H Hs' H'->H a=none->Hs' a=none->Top Hs' H' a y->Q (.ref a) H'
def qaq (m:List PV->Option PV) (as:MA):M:=fun ε=>(as ε).bind m
instance {m:List PV->Option PV} {ta:TA} {as:MA} {E:XK} [sa:qpv ta as]:SemE (qgg (spP m) [] E ta) (qaq m as) where
 h:=fun e _ _ _ _ _ rs _ q=>by
  obtain ⟨xs,ex,e1⟩:=bind_some e
  refine sa.h ex rs fun vs Hs1 H1 x1 r1=>⟨Hs1,xs,_,x1.s3,by rw [List.append_nil];exact r1,e1,fun v Hs' H' x r=>q v _ _ (x1.trans x) r⟩
instance {m:List PV->Option PV} {ta:TA} {as:MA} {E:XK} [sa:qpv ta as]:qn2 (qgg (spO m) [] E ta) (qaq m as) where
 h:=fun e _ _ _ _ _ rs _ q=>by
  obtain ⟨xs,ex,e1⟩:=bind_some e
  refine sa.h ex rs fun vs Hs1 H1 x1 r1=>⟨Hs1,xs,_,x1.s3,by rw [List.append_nil];exact r1,e1,fun a Hs' H' x n n' r=>q a _ _ (x1.trans x) (x1.s2.free n) n' r⟩
def qxe (m:List PV->Option PV) (ds:List V) (as:MA):M:=fun ε=>(as ε).bind fun xs=>m (xs++ds.map .at)
def qgi (C:Addr) (nm:Str) (m:List PV->Option PV) (a:M) (as:MA):M:=fun ε=>(a ε).bind fun x=>match x with
 | .ob C' ns fs=>if C'=C/\nm ∉ ns then (as ε).bind fun xs=>m (x::xs) else none
 | _=>none
theorem qg2 {fs:List (Str × V)} {f:Str} (h:f ∉ fs.map (·.1)):fs.lookup f=none:=by
 induction fs with
 | nil=>rfl
 | cons p r ih =>
  rw [List.map_cons] at h
  rw [List.lookup_cons]
  have h1:(f == p.1)=false:=by
   rw [beq_eq_false_iff_ne]
   exact fun e=>h (e ▸ List.mem_cons_self)
  rw [h1]
  exact ih fun z=>h (List.mem_cons_of_mem _ z)
theorem qmc {C:Addr} {nm:Str} {m:List PV->Option PV} {a:M} {as:MA} {ε:ME} {y:PV} (h:qgi C nm m a as ε=some y) :
  ∃ ns fs xs,a ε=some (.ob C ns fs)/\nm ∉ ns/\as ε=some xs/\m (.ob C ns fs::xs)=some y:=by
 unfold qgi at h
 obtain ⟨x,ex,h1⟩:=bind_some h
 split at h1
 ·rename_i C' ns fs
  split at h1
  ·rename_i hc
   obtain ⟨xs,e2,h2⟩:=bind_some h1
   obtain ⟨rfl,hn⟩:=hc
   exact ⟨ns,fs,xs,ex,hn,e2,h2⟩
  ·cases h1
 ·cases h1
instance {C:Addr} {nm:Str} {m:List PV->Option PV} {te:TE} {ta:TA} {a:M} {as:MA} {E:XK} [so:SemE te a] [sa:qpv ta as]:SemE (qp3 C nm (spP m) [] E te ta) (qgi C nm m a as) where
 h:=fun e _ _ _ _ _ rs _ q=>by
  obtain ⟨ns,fs,xs,ea,hn,e1,e2⟩:=qmc e
  refine so.h ea rs fun v Hs1 H1 x1 r1=>?_
  obtain ⟨p,dx,gs,rfl,hp,hk,hr⟩:=rep_ob.mp r1
  refine ⟨p,dx,gs,rfl,x1.s3 _ _ hp,qg2 (by rw [hk];exact hn),sa.h e1 (rs.go x1) fun vs Hs2 H2 x2 r2=>?_⟩
  exact ⟨Hs2,_,_,x2.s3,by rw [List.append_nil];exact .cons (r1.mono x2.s1) r2,e2,fun v Hs' H' x r=>q v _ _ (x1.trans (x2.trans x)) r⟩
instance {C:Addr} {nm:Str} {m:List PV->Option PV} {te:TE} {ta:TA} {a:M} {as:MA} {E:XK} [so:SemE te a] [sa:qpv ta as]:qn2 (qp3 C nm (spO m) [] E te ta) (qgi C nm m a as) where
 h:=fun e _ _ _ _ _ rs _ q=>by
  obtain ⟨ns,fs,xs,ea,hn,e1,e2⟩:=qmc e
  refine so.h ea rs fun v Hs1 H1 x1 r1=>?_
  obtain ⟨p,dx,gs,rfl,hp,hk,hr⟩:=rep_ob.mp r1
  refine ⟨p,dx,gs,rfl,x1.s3 _ _ hp,qg2 (by rw [hk];exact hn),sa.h e1 (rs.go x1) fun vs Hs2 H2 x2 r2=>?_⟩
  exact ⟨Hs2,_,_,x2.s3,by rw [List.append_nil];exact .cons (r1.mono x2.s1) r2,e2,fun v Hs' H' x n n' r=>q v _ _ (x1.trans (x2.trans x)) (x1.s2.free (x2.s2.free n)) n' r⟩
class SemC (r:List V->Hp->VK->Prop) (g:List PV->Option PV):Prop where
 h:∀ {xs z},g xs=some z->∀ {Hs H:Hp} {vs:List V},Same Hs H->qua Hs H xs vs->∀ {Q:VK},(∀ u Hs' H',Ext Hs H Hs' H'->Rep Hs' z u->Q u H')->r vs H Q
class SemCO (r:List V->Hp->VK->Prop) (g:List PV->Option PV):Prop where
 h:∀ {xs z},g xs=some z->∀ {Hs H:Hp} {vs:List V},Same Hs H->qua Hs H xs vs->∀ {Q:VK},(∀ a Hs' H',Ext Hs H Hs' H'->H a=none->Hs' a=none->Top Hs' H' a z->Q (.ref a) H')->r vs H Q
instance {r:List V->Hp->VK->Prop} {g:List PV->Option PV} {ta:TA} {as:MA} [sr:SemC r g] [sa:qxz ta as]:SemE (tCB r ta) (qaq g as) where
 h:=fun e _ _ _ _ _ rs _ q=>by
  obtain ⟨xs,ex,e1⟩:=bind_some e
  exact sa.h ex rs fun vs Hs1 H1 x1 r1=>sr.h e1 x1.s3 r1 fun v Hs' H' x r=>q v _ _ (x1.trans x) r
instance {r:List V->Hp->VK->Prop} {g:List PV->Option PV} {ta:TA} {as:MA} [sr:SemCO r g] [sa:qxz ta as]:qn2 (tCB r ta) (qaq g as) where
 h:=fun e _ _ _ _ _ rs _ q=>by
  obtain ⟨xs,ex,e1⟩:=bind_some e
  exact sa.h ex rs fun vs Hs1 H1 x1 r1=>sr.h e1 x1.s3 r1 fun v Hs' H' x n n' r=>q v _ _ (x1.trans x) (x1.s2.free n) n' r
theorem qep {Hs H:Hp} {x:PV} {vs:List V} (h:qua Hs H [x] vs):∃ v,vs=[v]/\RepB Hs H x v:=by
 obtain ⟨v,r,rfl,a,b⟩:=h
 cases (show r=[] from b)
 exact ⟨v,rfl,a⟩
theorem repsB2 {Hs H:Hp} {x y:PV} {vs:List V} (h:qua Hs H [x,y] vs):∃ v w,vs=[v,w]/\RepB Hs H x v/\RepB Hs H y w:=by
 obtain ⟨v,r,rfl,a,b⟩:=h
 obtain ⟨w,rfl,c⟩:=qep b
 exact ⟨v,w,rfl,a,c⟩
inductive Out where
 | nx (ε:ME) | rt (y:PV) | bk (ε:ME) | ct (ε:ME)
abbrev MS:=ME->Option Out
def OutK (fr:Bool) (Hs0 H0:Hp) (D:qrc):Out->Prop
 | .nx ε=>∀ Hs H σ,RS Hs0 H0 Hs H σ ε->D.nx σ H
 | .bk ε=>∀ Hs H σ,RS Hs0 H0 Hs H σ ε->D.bk σ H
 | .ct ε=>∀ Hs H σ,RS Hs0 H0 Hs H σ ε->D.ct σ H
 | .rt y=>match fr with
  | true=>∀ a Hs H,Ext Hs0 H0 Hs H->H0 a=none->Hs a=none->Top Hs H a y->D.rt (.ref a) H
  | false=>∀ v Hs H,Ext Hs0 H0 Hs H->Rep Hs y v->D.rt v H
class SemS (fr:Bool) (ts:TS) (f:MS):Prop where
 h:∀ {ε o},f ε=some o->∀ {Hs0 H0 Hs H σ},RS Hs0 H0 Hs H σ ε->∀ {D:qrc},OutK fr Hs0 H0 D o->ts D σ H
variable {fr:Bool}
def qd8:MS:=fun ε=>some (.nx ε)
instance:SemS fr tNext qd8 where
 h:=fun e _ _ _ _ _ rs _ q=>by cases e;exact q _ _ _ rs
def dSeq (a b:MS):MS:=fun ε=>(a ε).bind fun o=>match o with
 | .nx ε'=>b ε'
 | o=>some o
instance {t u:TS} {a b:MS} [sa:SemS fr t a] [sb:SemS fr u b]:SemS fr (tSeq t u) (dSeq a b) where
 h:=fun e _ _ _ _ _ rs D q=>by
  obtain ⟨o,eo,e1⟩:=bind_some e
  refine sa.h eo rs ?_
  cases o with
  | nx ε'=>exact fun Hs H σ r=>sb.h e1 r q
  | rt y=>cases e1;exact q
  | bk ε'=>cases e1;exact q
  | ct ε'=>cases e1;exact q
def qnt (a:M):MS:=fun ε=>(a ε).bind fun _=>some (.nx ε)
instance (priority:=100) {te:TE} {a:M} [sa:qic te a]:SemS fr (qiw te) (qnt a) where
 h:=fun e _ _ _ _ _ rs _ q=>by
  obtain ⟨x,ex,e1⟩:=bind_some e
  cases e1
  exact sa.h ex rs fun v Hs1 H1 x1 r1=>q _ _ _ (rs.go x1)
def qeh (a:M):MS:=fun ε=>(a ε).bind fun x=>some (.rt x)
instance {te:TE} {a:M} [sa:SemE te a]:SemS false (tRet te) (qeh a) where
 h:=fun e _ _ _ _ _ rs _ q=>by
  obtain ⟨x,ex,e1⟩:=bind_some e
  cases e1
  exact sa.h ex rs fun v Hs1 H1 x1 r1=>q _ _ _ (rs.ext.trans x1) r1
instance {te:TE} {a:M} [sa:qn2 te a]:SemS true (tRet te) (qeh a) where
 h:=fun e _ _ _ _ _ rs _ q=>by
  obtain ⟨x,ex,e1⟩:=bind_some e
  cases e1
  exact sa.h ex rs fun v Hs1 H1 x1 n n' r1=>q _ _ _ (rs.ext.trans x1) (rs.ext.s2.free n) n' r1
def oVar (i:Nat):M:=fun ε=>match ε[i]? with
 | some (.ow x)=>some x
 | _=>none
instance {i:Nat}:SemS true (tRet (qiu i)) (qeh (oVar i)) where
 h:=fun e _ _ _ _ _ rs _ q=>by
  obtain ⟨x,ex,e1⟩:=bind_some e
  cases e1
  unfold oVar at ex
  split at ex
  ·rename_i y hy
   cases ex
   obtain ⟨a,ha,n0,n,t⟩:=rs.ow i _ hy
   exact ⟨_,ha,q _ _ _ rs.ext n0 n t⟩
  ·cases ex
def qh9 (c:MB) (a b:MS):MS:=fun ε=>(c ε).bind fun k=>if k=true then a ε else b ε
instance {t:TT} {ta tb:TS} {c:MB} {a b:MS} [sc:qmj t c] [sa:SemS fr ta a] [sb:SemS fr tb b]:SemS fr (tIfS t ta tb) (qh9 c a b) where
 h:=fun e _ _ _ _ _ rs _ q=>by
  obtain ⟨k,ex,e1⟩:=bind_some e
  refine sc.h ex rs fun Hs1 H1 x1=>?_
  cases k with
  | true=>exact qr2 (sa.h e1 (rs.go x1) q)
  | false=>exact qr3 (sb.h e1 (rs.go x1) q)
def qe0:MS:=fun _=>none
instance:SemS fr tNever qe0 where
 h:=fun e=>by cases e
abbrev MG:=PV->ME->Option ME
def But (ts:List Nat) (σ σ':St):Prop:=σ'.length=σ.length/\∀ j,j ∉ ts->σ'[j]?=σ[j]?
theorem But.refl (σ:St):But [] σ σ:=⟨rfl,fun _ _=>rfl⟩
theorem But.trans {a b:List Nat} {σ σ1 σ2:St} (x:But a σ σ1) (y:But b σ1 σ2):But (a++b) σ σ2 :=
 ⟨y.1.trans x.1,fun j hj=>(y.2 j fun z=>hj (List.mem_append.mpr (.inr z))).trans (x.2 j fun z=>hj (List.mem_append.mpr (.inl z)))⟩
theorem But.wk {ts:List Nat} {σ σ':St} (b:But ts σ σ') (h:∀ i ∈ ts,σ[i]?=some none):Wk σ σ':=by
 refine ⟨b.1.symm,fun i v e=>?_⟩
 rw [b.2 i fun z=>by rw [h i z] at e;cases e]
 exact e
class SemG (tg:TG) (ts:outParam (List Nat)) (g:MG):Prop where
 h:∀ {x ε ε'},g x ε=some ε'->∀ {Hs0 H0 Hs H σ v},RS Hs0 H0 Hs H σ ε->Rep Hs x v->∀ {Q:St->Hp->Prop},(∀ σ',RS Hs0 H0 Hs H σ' ε'->But ts σ σ'->Q σ' H)->tg v σ H Q
class qt8 (tg:TGs) (ts:outParam (List Nat)) (g:List PV->ME->Option ME):Prop where
 h:∀ {xs ε ε'},g xs ε=some ε'->∀ {Hs0 H0 Hs H σ vs},RS Hs0 H0 Hs H σ ε->Reps Hs xs vs->∀ {Q:St->Hp->Prop},(∀ σ',RS Hs0 H0 Hs H σ' ε'->But ts σ σ'->Q σ' H)->tg vs σ H Q
def qa4 (i:Nat):MG:=fun x ε=>some (ε.set i (.sh x))
instance {i:Nat}:SemG (qez i) [i] (qa4 i) where
 h:=fun e _ _ _ _ _ _ rs r _ q=>by
  cases e
  exact q _ (rs.put r) ⟨List.length_set,fun j hj=>List.getElem?_set_ne fun z=>hj (by rw [<- z];exact List.mem_singleton.mpr rfl)⟩
def mNil:List PV->ME->Option ME:=fun xs ε=>match xs with
 | []=>some ε
 | _=>none
def qfb (g:MG) (r:List PV->ME->Option ME):List PV->ME->Option ME:=fun xs ε=>match xs with
 | x::xs=>(g x ε).bind (r xs)
 | _=>none
instance:qt8 gNil [] mNil where
 h:=fun {xs ε ε'} e {_ _ _ _ _ _} rs r {_} q=>by
  unfold mNil at e
  split at e
  ·cases e;exact ⟨reps_nil.mp r,q _ rs (.refl _)⟩
  ·cases e
instance qu3 {t:TG} {u:TGs} {a b:List Nat} {g:MG} {r:List PV->ME->Option ME} [sg:SemG t a g] [sr:qt8 u b r]:qt8 (gCons t u) (a++b) (qfb g r) where
 h:=fun {xs ε ε'} e {_ _ _ _ _ _} rs rr {_} q=>by
  unfold qfb at e
  split at e
  ·obtain ⟨ε1,e1,e2⟩:=bind_some e
   obtain ⟨v,w,rfl,r1,r2⟩:=reps_cons.mp rr
   exact ⟨v,w,rfl,sg.h e1 rs r1 fun σ1 rs1 b1=>sr.h e2 rs1 r2 fun σ2 rs2 b2=>q _ rs2 (b1.trans b2)⟩
  ·cases e
instance (priority:=2000) {i:Nat} {u:TGs} {b:List Nat} {r:List PV->ME->Option ME} [sr:qt8 u b r]:qt8 (gCons (qez i) u) (i::b) (qfb (qa4 i) r) where
 h:=fun e _ _ _ _ _ _ rs rr _ q=>(qu3 (t:=qez i) (a:=[i]) (g:=qa4 i)).h e rs rr q
def mTup (n:Nat) (g:List PV->ME->Option ME):MG:=fun x ε=>match x with
 | .tup xs=>if xs.length=n then g xs ε else none
 | _=>none
instance {K:PySem.W.Frag} {n:Nat} {t:TGs} {ts:List Nat} {g:List PV->ME->Option ME} [sg:qt8 t ts g]:SemG (gTup K n t) ts (mTup n g) where
 h:=fun {x ε ε'} e {_ _ _ _ _ _} rs rr {_} q=>by
  unfold mTup at e
  split at e
  ·split at e
   ·rename_i hl
    obtain ⟨a,vs,rfl,h,r⟩:=rep_tup.mp rr
    exact ⟨a,vs,rfl,SqT.of (rs.sub _ _ h),by rw [r.length];exact hl,sg.h e rs r fun σ' rs' b=>q _ rs' b⟩
   ·cases e
  ·cases e
def qdk (i:Nat) (a:M):MS:=fun ε=>(a ε).bind fun x=>some (.nx (ε.set i (.sh x)))
def qq1 (i:Nat) (a:M):MS:=fun ε=>(a ε).bind fun x=>some (.nx (ε.set i (.ow x)))
instance {i:Nat} {te:TE} {a:M} [sa:SemE te a]:SemS fr (qrj te (qez i)) (qdk i a) where
 h:=fun e _ _ _ _ _ rs _ q=>by
  obtain ⟨x,ex,e1⟩:=bind_some e
  cases e1
  exact sa.h ex rs fun v Hs1 H1 x1 r1=>q _ _ _ ((rs.go x1).put r1)
instance {i:Nat} {te:TE} {a:M} [sa:qn2 te a]:SemS fr (qrj te (qez i)) (qq1 i a) where
 h:=fun e _ _ _ _ _ rs _ q=>by
  obtain ⟨x,ex,e1⟩:=bind_some e
  cases e1
  refine sa.h ex rs fun p Hs1 H1 x1 n n' t=>q _ _ _ ((rs.go x1).putO ⟨rs.ext.s2.free n,n',t⟩ fun j y hj z=>?_)
  obtain ⟨b,hb,_,_,tb⟩:=rs.ow j y hj
  rw [z] at hb
  injection hb with hb;injection hb with hb;injection hb with hb
  subst hb
  exact tb.there n
def dAsg (g:MG) (a:M):MS:=fun ε=>(a ε).bind fun x=>(g x ε).bind fun ε'=>some (.nx ε')
instance (priority:=500) {te:TE} {tg:TG} {ts:List Nat} {a:M} {g:MG} [sa:SemE te a] [sg:SemG tg ts g]:SemS fr (qrj te tg) (dAsg g a) where
 h:=fun e _ _ _ _ _ rs _ q=>by
  obtain ⟨x,ex,e1⟩:=bind_some e
  obtain ⟨ε',e2,e3⟩:=bind_some e1
  cases e3
  exact sa.h ex rs fun v Hs1 H1 x1 r1=>sg.h e2 (rs.go x1) r1 fun σ' rs' _=>q _ _ _ rs'
def pIp (g:Int->Int->Int):PV->PV->Option PV
 | .at (.int i),.at (.int j)=>some (.at (.int (g i j)))
 | _,_=>none
def qfx (i:Nat) (a:M):MS:=fun ε=>(a ε).bind fun x=>match ε[i]? with
 | some (.ow (.lst xs))=>if xs.length<=lim then some (.nx (ε.set i (.ow (.lst (xs++[x]))))) else none
 | _=>none
instance {K:PySem.W.Frag} {i:Nat} {te:TE} {a:M} [sa:SemE te a]:SemS fr (qiw (tBM K "list" qfp (qiu i) (qc6 te qiv))) (qfx i a) where
 h:=fun e _ _ _ _ _ rs _ q=>by
  obtain ⟨x,ex,e1⟩:=bind_some e
  split at e1
  ·rename_i xs hi
   split at e1
   ·rename_i hl
    cases e1
    obtain ⟨p,hp,n0,n,vs,hv,rv⟩:=rs.ow i _ hi
    refine ⟨_,hp,.inl ⟨rfl,vs,SqL.of hv⟩,sa.h ex rs fun v Hs1 H1 x1 r1=>?_⟩
    have hv1:=x1.s2 _ _ hv
    refine ⟨p,vs,v,rfl,rfl,hv1,qoy (by rw [rv.length];exact hl),q _ _ _ ((rs.go x1).change hi hp ⟨_,qan,(rv.mono x1.s1).append (.one r1)⟩)⟩
   ·cases e1
  ·cases e1
def dExtend (i:Nat) (a:M):MS:=fun ε=>(a ε).bind fun x=>match x with
 | .lst ys=>(match ε[i]? with
  | some (.ow (.lst xs))=>if xs.length + ys.length<=lim then some (.nx (ε.set i (.ow (.lst (xs++ys))))) else none
  | _=>none)
 | _=>none
structure ItOk (J:It) (xs:List PV) (Hs:Hp):Prop where
 go:∀ (i:Nat) (x:PV) (Hs1 H1:Hp),xs[i]?=some x->Same Hs Hs1->Same Hs1 H1->J.go i H1/\∀ v H2,J.yld i H1 v H2->∃ Hs2,Ext Hs1 H1 Hs2 H2/\Rep Hs2 x v
 stop:∀ (Hs1 H1:Hp),Same Hs Hs1->Same Hs1 H1->J.stop xs.length H1
class SemI (ti:TI) (f:MA):Prop where
 h:∀ {ε xs},f ε=some xs->∀ {Hs0 H0 Hs H σ},RS Hs0 H0 Hs H σ ε->∀ {R:It->Hp->Prop},(∀ J Hs' H',Ext Hs H Hs' H'->ItOk J xs Hs'->R J H')->ti σ H R
def qfg (a:M):MA:=fun ε=>(a ε).bind fun x=>match x with
 | .lst xs=>some xs
 | _=>none
theorem itl_ok {K:PySem.W.Frag} {a:Addr} {xs:List PV} {vs:List V} {Hs:Hp} (h:Hs a=some (.lst vs)) (r:Reps Hs xs vs):ItOk (Itl K a) xs Hs where
 go:=fun i x Hs1 H1 e g1 g2=>by
  obtain ⟨v,ev,rv⟩:=r.get e
  refine ⟨⟨vs,v,SqL.of (g2 _ _ (g1 _ _ h)),ev⟩,fun w H2 y=>?_⟩
  obtain ⟨rfl,y⟩:=y
  have z:=y vs (SqL.of (g2 _ _ (g1 _ _ h)))
  rw [ev] at z
  cases z
  exact ⟨Hs1,.refl g2,rv.mono g1⟩
 stop:=fun Hs1 H1 g1 g2=>⟨vs,SqL.of (g2 _ _ (g1 _ _ h)),by rw [r.length];exact Nat.le_refl _⟩
instance {K:PySem.W.Frag} {te:TE} {a:M} [sa:SemE te a]:SemI (iList K te) (qfg a) where
 h:=fun e _ _ _ _ _ rs _ q=>by
  obtain ⟨x,ex,e1⟩:=bind_some e
  split at e1
  ·cases e1
   refine sa.h ex rs fun v Hs1 H1 x1 r1=>?_
   obtain ⟨p,vs,rfl,hp,r⟩:=rep_lst.mp r1
   exact ⟨p,rfl,⟨vs,SqL.of (x1.s3 _ _ hp)⟩,q _ _ _ x1 (itl_ok hp r)⟩
  ·cases e1
def qn5 (lo:Int) (n:Nat):List PV:=(List.range n).map fun (i:Nat)=> .at (.int (lo + i))
theorem qcf {lo:Int} {n:Nat}:(qn5 lo n).length=n:=by unfold qn5;rw [List.length_map,List.length_range]
theorem qrp {lo:Int} {n i:Nat} {x:PV} (h:(qn5 lo n)[i]?=some x):i < n/\x = .at (.int (lo + i)):=by
 have hl:i < n:=by
  have:=(List.getElem?_eq_some_iff.mp h).1
  rw [qcf] at this
  exact this
 refine ⟨hl,?_⟩
 unfold qn5 at h
 rw [List.getElem?_map,List.getElem?_range hl] at h
 cases h
 rfl
theorem itr_ok {lo:Int} {n:Nat} {Hs:Hp}:ItOk (Itr lo n) (qn5 lo n) Hs where
 go:=fun i x Hs1 H1 e g1 g2=>by
  obtain ⟨hl,rfl⟩:=qrp e
  refine ⟨hl,fun v H2 y=>?_⟩
  obtain ⟨rfl,rfl⟩:=y
  exact ⟨Hs1,.refl g2,rep_at.mpr rfl⟩
 stop:=fun Hs1 H1 g1 g2=>by show n<=_;rw [qcf];exact Nat.le_refl _
def qd9 (a:MA):MA:=fun ε=>(a ε).bind fun xs=>match xs with
 | [.at (.int j)]=>if -(lim:Int)<=j/\j<=lim then some (qn5 0 j.toNat) else none
 | _=>none
instance {ta:TA} {a:MA} [sa:qpv ta a]:SemI (iRng1 ta) (qd9 a) where
 h:=fun e _ _ _ _ _ rs _ q=>by
  obtain ⟨xs,ex,e1⟩:=bind_some e
  split at e1
  ·rename_i j
   split at e1
   ·rename_i hl
    cases e1
    refine sa.h ex rs fun vs Hs1 H1 x1 r1=>?_
    obtain ⟨v,r,rfl,p1,p2⟩:=reps_cons.mp r1
    cases reps_nil.mp p2
    cases rep_at.mp p1
    have hlim:(lim:Int)=1000000:=rfl
    exact ⟨j,rfl,by omega,by omega,q _ _ _ x1 itr_ok⟩
   ·cases e1
  ·cases e1
def qkp (g:MG) (f:MS):List PV->ME->Option Out
 | [],ε=>some (.nx ε)
 | x::xs,ε=>(g x ε).bind fun ε1=>(f ε1).bind fun o=>match o with
  | .nx ε2=>qkp g f xs ε2
  | .ct ε2=>qkp g f xs ε2
  | .bk ε2=>some (.nx ε2)
  | .rt y=>some (.rt y)
def qxc (i:MA) (g:MG) (f:MS):MS:=fun ε=>(i ε).bind fun xs=>qkp g f xs ε
theorem OutK.unbase {Hs0 H0 Hb H:Hp} {D:qrc} (x:Ext Hs0 H0 Hb H):∀ {o:Out},OutK fr Hs0 H0 D o->OutK fr Hb H0 D o
 | .nx _,h=>fun Hs H σ r=>h _ _ _ (RS.unbase x r)
 | .bk _,h=>fun Hs H σ r=>h _ _ _ (RS.unbase x r)
 | .ct _,h=>fun Hs H σ r=>h _ _ _ (RS.unbase x r)
 | .rt _,h=>by
  cases fr with
  | true=>exact fun a Hs H e n n' t=>h a Hs H (x.unbase e) n n' t
  | false=>exact fun a Hs H e r=>h a Hs H (x.unbase e) r
instance {wi:TI} {tg:TG} {ts:List Nat} {tb:TS} {i:MA} {g:MG} {f:MS} [si:SemI wi i] [sg:SemG tg ts g] [sf:SemS fr tb f]:SemS fr (tFor wi tg tb) (qxc i g f) where
 h:=fun e Hs0 H0 _ _ _ rs D q=>by
  obtain ⟨xs,ex,e1⟩:=bind_some e
  refine si.h ex rs fun J Hs1 H1 x1 ok=>?_
  have rs1:=rs.go x1
  have q1:=OutK.unbase rs1.ext q
  refine ⟨fun k m σ H=>m=xs.length - k/\k<=xs.length/\∃ Hs ε,RS Hs1 H0 Hs H σ ε/\qkp g f (xs.drop k) ε=some _,⟨xs.length,by simp,Nat.zero_le _,Hs1,_,rs1.rebase,e1⟩,?_⟩
  rintro k m σ H ⟨rfl,hk,Hs,ε,r,el⟩
  by_cases hlt:k < xs.length
  ·have hd:xs.drop k=xs[k]::xs.drop (k + 1):=List.drop_eq_getElem_cons hlt
   rw [hd] at el
   unfold qkp at el
   obtain ⟨ε1,eg,el1⟩:=bind_some el
   obtain ⟨o,eo,el2⟩:=bind_some el1
   obtain ⟨go,yl⟩:=ok.go k xs[k] Hs H (by simp [hlt]) r.ext.s1 r.ext.s3
   refine .inr ⟨go,fun σ' H'=>k + 1<=xs.length/\∃ Hs ε,RS Hs1 H0 Hs H' σ' ε/\qkp g f (xs.drop (k + 1)) ε=some _,fun σ' H' p=>⟨xs.length - (k + 1),by omega,rfl,p.1,p.2⟩,fun v H2 y=>?_⟩
   obtain ⟨Hs2,x2,r2⟩:=yl v H2 y
   refine sg.h eg (r.go x2) r2 fun σ2 rs2 _=>sf.h eo rs2 ?_
   cases o with
   | nx ε2=>exact fun Hs3 H3 σ3 r3=>⟨hlt,Hs3,ε2,r3,el2⟩
   | ct ε2=>exact fun Hs3 H3 σ3 r3=>⟨hlt,Hs3,ε2,r3,el2⟩
   | bk ε2 =>
    cases el2
    exact q1
   | rt y=>cases el2;exact q1
  ·have ek:k=xs.length:=by omega
   subst ek
   rw [List.drop_length] at el
   unfold qkp at el
   cases el
   exact .inl ⟨ok.stop Hs H r.ext.s1 r.ext.s3,q1 _ _ _ r⟩
def qib (cap:List (Option Nat)) (ε:ME):ME:=cap.map fun o=>match o with
 | none=> .no
 | some i=>(ε[i]?).getD .no
def qea (g:MG) (c:MB) (f:M) (ε0:ME):List PV->Option (List PV)
 | []=>some []
 | x::xs=>(g x ε0).bind fun ε1=>(c ε1).bind fun b=>if b=true then (f ε1).bind fun y=>(qea g c f ε0 xs).bind fun ys=>some (y::ys) else qea g c f ε0 xs
def qd7:MB:=fun _=>some true
instance:qmj tYes qd7 where
 h:=fun e _ _ _ _ _ rs _ q=>by cases e;exact q _ _ (.refl rs.sub)
def capB (cap:List (Option Nat)) (ts:List Nat):Bool:=decide (cap.filterMap id).Nodup && ts.all fun i=>decide (cap[i]?=some none)
def qba (cap:List (Option Nat)) (ts:List Nat) (i:MA) (g:MG) (c:MB) (f:M):M:=fun ε=>(i ε).bind fun xs=>if capB cap ts=true/\xs.length<=lim then (qea g c f (qib cap ε) xs).bind fun ys=>some (.lst ys) else none
theorem RS.cap {Hs0 H0 Hs H:Hp} {σ:St} {ε:ME} {cap:List (Option Nat)} (hc:(cap.filterMap id).Nodup) (r:RS Hs0 H0 Hs H σ ε):RS Hs0 H0 Hs H (qei cap σ) (qib cap ε):=by
 have inj:∀ (i j k:Nat),cap[i]?=some (some k)->cap[j]?=some (some k)->i=j:=by
  clear r
  induction cap with
  | nil=>intro i j k h;simp at h
  | cons o cap ih =>
   intro i j k hi hj
   have no:∀ (l:Nat),o=some k->cap[l]?=some (some k)->False:=fun l ho hl=>by
    subst ho
    rw [List.filterMap_cons_some (by rfl)] at hc
    exact (List.nodup_cons.mp hc).1 (List.mem_filterMap.mpr ⟨some k,List.mem_of_getElem? hl,rfl⟩)
   have hc':(cap.filterMap id).Nodup:=by
    cases o with
    | none=>rwa [List.filterMap_cons_none (by rfl)] at hc
    | some m=>rw [List.filterMap_cons_some (by rfl)] at hc;exact (List.nodup_cons.mp hc).2
   cases i with
   | zero =>
    cases j with
    | zero=>rfl
    | succ j=>exact (no j (by simpa using hi) (by simpa using hj)).elim
   | succ i =>
    cases j with
    | zero=>exact (no i (by simpa using hj) (by simpa using hi)).elim
    | succ j=>rw [ih hc' i j k (by simpa using hi) (by simpa using hj)]
 have at1:∀ (i:Nat) (sl:MSlot),(qib cap ε)[i]?=some sl->sl = .no ∨ ∃ k,cap[i]?=some (some k)/\ε[k]?=some sl:=by
  intro i sl h
  unfold qib at h
  rw [List.getElem?_map] at h
  cases ho:cap[i]? with
  | none=>rw [ho] at h;cases h
  | some o =>
   rw [ho] at h
   cases o with
   | none=>cases h;exact .inl rfl
   | some k =>
    cases hk:ε[k]? with
    | none=>simp only [Option.map_some,hk,Option.getD_none] at h;cases h;exact .inl rfl
    | some s=>simp only [Option.map_some,hk,Option.getD_some] at h;cases h;exact .inr ⟨k,rfl,hk⟩
 have at2:∀ (i k:Nat),cap[i]?=some (some k)->∀ v,σ[k]?=some (some v)->(qei cap σ)[i]?=some (some v):=by
  intro i k h v e
  unfold qei
  rw [List.getElem?_map,h]
  simp [e]
 have at3:∀ (i k:Nat) (v:V),cap[i]?=some (some k)->(qei cap σ)[i]?=some (some v)->σ[k]?=some (some v):=by
  intro i k v h e
  unfold qei at e
  rw [List.getElem?_map,h] at e
  simp only [Option.map_some,Option.bind_some,Option.some.injEq] at e
  cases hs:σ[k]? with
  | none=>rw [hs] at e;cases e
  | some o=>rw [hs] at e;simp at e;rw [e]
 refine ⟨r.ext,fun i x h=>?_,fun i x h=>?_,fun i j x y a h1 h2 h3 h4=>?_,by unfold qei qib;rw [List.length_map,List.length_map],fun i x h=>?_⟩
 ·rcases at1 i _ h with z | ⟨k,hk,e⟩
  ·cases z
  ·obtain ⟨v,hv,rv⟩:=r.sh k x e
   exact ⟨v,at2 i k hk v hv,rv⟩
 ·rcases at1 i _ h with z | ⟨k,hk,e⟩
  ·cases z
  ·obtain ⟨v,hv,rv⟩:=r.ow k x e
   exact ⟨v,at2 i k hk _ hv,rv⟩
 ·rcases at1 i _ h1 with z | ⟨k,hk,e⟩
  ·cases z
  ·rcases at1 j _ h2 with z | ⟨l,hl,e'⟩
   ·cases z
   ·have kl:=r.nd k l x y a e e' (at3 i k _ hk h3) (at3 j l _ hl h4)
    subst kl
    exact inj i j k hk hl
 ·rcases at1 i _ h with z | ⟨k,hk,e⟩
  ·cases z
  ·obtain ⟨v,hv,rv⟩:=r.bo k x e
   exact ⟨v,at2 i k hk _ hv,rv⟩
theorem Reps.snoc {H:Hp} {xs:List PV} {vs:List V} {x:PV} {v:V} (r:Reps H xs vs) (p:Rep H x v):Reps H (xs++[x]) (vs++[v]):=r.append (.one p)
instance {wi:TI} {tg:TG} {ts:List Nat} {tt:TT} {te:TE} {cap:List (Option Nat)} {i:MA} {g:MG} {c:MB} {f:M} [si:SemI wi i] [sg:SemG tg ts g] [sc:qmj tt c] [sf:SemE te f]:qn2 (qp4 wi tg tt te cap) (qba cap ts i g c f) where
 h:=fun e Hs0 H0 Hs H σ rs Q q=>by
  obtain ⟨xs,ex,e1⟩:=bind_some e
  split at e1
  ·rename_i hcl
   obtain ⟨hcap,hl⟩:=hcl
   unfold capB at hcap
   rw [Bool.and_eq_true] at hcap
   obtain ⟨ys,ey,e2⟩:=bind_some e1
   cases e2
   refine si.h ex rs fun J Hs1 H1 x1 ok=>?_
   have rc:=((rs.go x1).cap (of_decide_eq_true hcap.1)).rebase
   have wk:∀ i ∈ ts,(qei cap σ)[i]?=some none:=fun i hi=>by
    unfold qei
    rw [List.getElem?_map,of_decide_eq_true (List.all_eq_true.mp hcap.2 i hi)]
    rfl
   refine ⟨fun k m zs H=>m=xs.length - k/\k<=xs.length/\∃ Hs2 ws,Ext Hs1 H1 Hs2 H/\RS Hs1 H0 Hs2 H (qei cap σ) (qib cap _)/\Reps Hs2 ws zs/\ws.length<=k/\∃ rest,qea g c f (qib cap _) (xs.drop k)=some rest/\ys=ws++rest,
    ⟨xs.length,by simp,Nat.zero_le _,Hs1,[],.refl x1.s3,rc,.nil,Nat.le_refl _,ys,ey,rfl⟩,?_⟩
   rintro k m zs H2 ⟨rfl,hk,Hs2,ws,x2,r2,rz,hw,rest,er,eys⟩
   refine ⟨qec (by rw [rz.length];omega),?_⟩
   by_cases hlt:k < xs.length
   ·have hd:xs.drop k=xs[k]::xs.drop (k + 1):=List.drop_eq_getElem_cons hlt
    rw [hd] at er
    unfold qea at er
    obtain ⟨ε1,eg,er1⟩:=bind_some er
    obtain ⟨b,eb,er2⟩:=bind_some er1
    obtain ⟨go,yl⟩:=ok.go k xs[k] Hs2 H2 (by simp [hlt]) x2.s1 x2.s3
    refine .inr ⟨go,fun v H3 y=>?_⟩
    obtain ⟨Hs3,x3,r3⟩:=yl v H3 y
    refine sg.h eg (r2.go x3) r3 fun σ2 rs2 bt=>⟨bt.wk wk,sc.h eb rs2 fun Hs4 H4 x4=>?_⟩
    cases b with
    | true =>
     rw [if_pos rfl] at er2
     obtain ⟨z,ez,er3⟩:=bind_some er2
     obtain ⟨rest',er4,er5⟩:=bind_some er3
     cases er5
     refine qr2 (sf.h ez (rs2.go x4) fun u Hs5 H5 x5 r5=>⟨xs.length - (k + 1),by omega,rfl,hlt,Hs5,ws++[z],x2.trans (x3.trans (x4.trans x5)),((r2.go x3).go x4).go x5,?_,?_,rest',er4,?_⟩)
     ·exact (rz.mono (x3.s1.trans (x4.s1.trans x5.s1))).snoc r5
     ·rw [List.length_append];simp;omega
     ·rw [List.append_assoc];exact eys
    | false =>
     rw [if_neg Bool.false_ne_true] at er2
     exact qr3 ⟨xs.length - (k + 1),by omega,rfl,hlt,Hs4,ws,x2.trans (x3.trans x4),(r2.go x3).go x4,rz.mono (x3.s1.trans x4.s1),by omega,rest,er2,eys⟩
   ·have ek:k=xs.length:=by omega
    subst ek
    rw [List.drop_length] at er
    unfold qea at er
    cases er
    refine .inl ⟨ok.stop Hs2 H2 x2.s1 x2.s3,fun D hD=>?_⟩
    rw [List.append_nil] at eys
    subst eys
    have x12:=x1.trans x2
    exact q D Hs2 _ (x12.trans (.newO x2.s3 hD)) (x12.s2.free hD) (x2.s3.free hD) ⟨zs,qan,rz⟩
  ·cases e1
def dFn (n k:Nat) (f:MS):List PV->Option PV:=fun xs=>if xs.length=k then (f (xs.map .sh++List.replicate (n - k) .no)).bind fun o=>match o with
 | .rt y=>some y
 | .nx _=>some (.at .non)
 | _=>none else none
def quc (n k:Nat) (f:MS):List PV->Option PV:=fun xs=>if xs.length=k then (f (xs.map .sh++List.replicate (n - k) .no)).bind fun o=>match o with
 | .rt y=>some y
 | _=>none else none
end Mi
namespace Mi
open PySem PySem.Spec PyProof.Rows L2
theorem qe6 {N:List Str} {Hs H:Hp} {xs:List PV} {vs:List V} (s:Same Hs H) (r:Reps Hs xs vs):RS Hs H Hs H (L2.start N vs) (xs.map .sh++List.replicate (N.length - xs.length) .no):=by
 have el:=r.length
 have at1:∀ (i:Nat) (sl:MSlot),(xs.map MSlot.sh++List.replicate (N.length - xs.length) .no)[i]?=some sl->sl = .no ∨ ∃ x,xs[i]?=some x/\sl = .sh x:=by
  intro i sl h
  by_cases hi:i < xs.length
  ·rw [List.getElem?_append_left (by rw [List.length_map];exact hi),List.getElem?_map] at h
   obtain ⟨x,hx,rfl⟩:=Option.map_eq_some_iff.mp h
   exact .inr ⟨x,hx,rfl⟩
  ·rw [List.getElem?_append_right (by rw [List.length_map];omega),List.getElem?_replicate] at h
   split at h
   ·cases h;exact .inl rfl
   ·cases h
 refine ⟨.refl s,fun i x h=>?_,fun i x h=>?_,fun i j x y a h1 _ _ _=>?_,?_,fun i x h=>?_⟩
 ·rcases at1 i _ h with z | ⟨y,hy,z⟩
  ·cases z
  ·cases z
   obtain ⟨v,hv,rv⟩:=r.get hy
   refine ⟨v,?_,rv⟩
   unfold L2.start
   rw [List.getElem?_append_left (by rw [List.length_map];exact (List.getElem?_eq_some_iff.mp hv).1),List.getElem?_map,hv]
   rfl
 ·rcases at1 i _ h with z | ⟨y,hy,z⟩ <;> cases z
 ·rcases at1 i _ h1 with z | ⟨y,hy,z⟩ <;> cases z
 ·unfold L2.start
  rw [List.length_append,List.length_append,List.length_map,List.length_map,List.length_replicate,List.length_replicate,el]
 ·rcases at1 i _ h with z | ⟨y,hy,z⟩ <;> cases z
section
variable {P:Program} {w:World} {K:PySem.W.Frag} {mg:Str->Option Value} {base:Heap}
theorem okP {x qual:Str} {st:Stmt} {f:Addr} {fd:FuncData} {N ps:List Str} {k:Nat} {b:MS} {m:List PV->Option PV} (F:Fun K x qual st f fd) (S:qar N ps (qab st)) (hm:m=dFn N.length ps.length b)
  (hb:∀ (cdv:Value) (A:Around) (outer:List Env) (s:Shared) (H:Hp) (E:XK),Room k (A.deeper (envOfC qual (qab st) s.heap.objs.size f cdv)) ->
   ∃ t,PSs (qsa CX0 P w K mg base N qual (qab st) f cdv A outer s H E).nox (qal st) t/\SemS false t b):FnOk P w K mg base CX0 (k + 1) f fd ps (spP m):=by
 subst hm
 refine F.ok S (fun vs H Q E h=>?_) (fun cdv A outer s H vs Q E hr h=>?_)
 ·obtain ⟨Hs,xs,y,_,r,e,_⟩:=h
  unfold dFn at e
  split at e
  ·rename_i hl;rw [r.length];exact hl
  ·cases e
 ·obtain ⟨Hs,xs,y,sm,r,e,q⟩:=h
  obtain ⟨t,ht,sem⟩:=hb cdv A outer s H E hr
  refine ⟨t,ht,?_⟩
  unfold dFn at e
  split at e
  ·rename_i hl
   obtain ⟨o,eo,e1⟩:=bind_some e
   refine sem.h eo (by rw [<- hl];exact qe6 sm r) ?_
   cases o with
   | rt z=>cases e1;exact fun v Hs' H' x rv=>q v Hs' H' x rv
   | nx ε=>cases e1;exact fun Hs' H' σ rs=>q _ Hs' H' rs.ext (rep_at.mpr rfl)
   | bk ε=>cases e1
   | ct ε=>cases e1
  ·cases e
theorem okO {x qual:Str} {st:Stmt} {f:Addr} {fd:FuncData} {N ps:List Str} {k:Nat} {b:MS} {m:List PV->Option PV} (F:Fun K x qual st f fd) (S:qar N ps (qab st)) (hm:m=quc N.length ps.length b)
  (hb:∀ (cdv:Value) (A:Around) (outer:List Env) (s:Shared) (H:Hp) (E:XK),Room k (A.deeper (envOfC qual (qab st) s.heap.objs.size f cdv)) ->
   ∃ t,PSs (qsa CX0 P w K mg base N qual (qab st) f cdv A outer s H E).nox (qal st) t/\SemS true t b):FnOk P w K mg base CX0 (k + 1) f fd ps (spO m):=by
 subst hm
 refine F.ok S (fun vs H Q E h=>?_) (fun cdv A outer s H vs Q E hr h=>?_)
 ·obtain ⟨Hs,xs,y,_,r,e,_⟩:=h
  unfold quc at e
  split at e
  ·rename_i hl;rw [r.length];exact hl
  ·cases e
 ·obtain ⟨Hs,xs,y,sm,r,e,q⟩:=h
  obtain ⟨t,ht,sem⟩:=hb cdv A outer s H E hr
  refine ⟨t,ht,?_⟩
  unfold quc at e
  split at e
  ·rename_i hl
   obtain ⟨o,eo,e1⟩:=bind_some e
   refine sem.h eo (by rw [<- hl];exact qe6 sm r) ?_
   cases o with
   | rt z=>cases e1;exact fun a Hs' H' x n n' t=>q a Hs' H' x n n' t
   | nx ε=>cases e1
   | bk ε=>cases e1
   | ct ε=>cases e1
  ·cases e
end
end Mi
namespace Mi
open PySem L2
theorem qcd {X:Cx} {K:PySem.W.Frag} {a:Expr} {ta:TE} (h:X.K=K) (ha:PE X a ta) (he:∀ whole,isTrue a X.env whole=(do let v <- whole;standAt a.pos;holding [v] (truthy v))):PT X a (tTru K ta):=pt_truK h ha he
abbrev qqg:PV->PV->Option PV:=pI fun i j=>some (.int (i - j))
abbrev pLt:PV->PV->Option PV:=pI fun i j=>some (.bl (decide (i < j)))
abbrev pLe:PV->PV->Option PV:=pI fun i j=>some (.bl (decide (i<=j)))
abbrev pGt:PV->PV->Option PV:=pI fun i j=>some (.bl (decide (j < i)))
abbrev pGe:PV->PV->Option PV:=pI fun i j=>some (.bl (decide (j<=i)))
instance {i j:Int}:Decidable (qx1 i j):=by unfold qx1;infer_instance
instance {i j:Int}:Decidable (CPow i j):=by unfold CPow;infer_instance
abbrev pMul:PV->PV->Option PV:=pI fun i j=>if qx1 i j then some (.int (i * j)) else none
abbrev pPow:PV->PV->Option PV:=pI fun i j=>if CPow i j then some (.int (i ^ j.toNat)) else none
abbrev pNeg:PV->Option PV:=pU fun i=> .int (-i)
theorem Reps.nil_of {H:Hp} {xs:List PV} (r:Reps H xs []):xs=[]:=List.length_eq_zero_iff.mp r.length.symm
def qd5:PV->PV->Option PV
 | .at (.int i),.at (.int j)=>some (.at (.int (i + j)))
 | .at (.str x),.at (.str y)=>if x.length + y.length<=lim then some (.at (.str (x++y))) else none
 | .lst xs,.lst ys=>if xs.length + ys.length<=lim then some (.lst (xs++ys)) else none
 | .tup xs,.tup ys=>if xs ≠ []/\xs.length + ys.length<=lim then some (.tup (xs++ys)) else none
 | _,_=>none
instance {K:PySem.W.Frag}:qso (rAddU K) qd5 where
 h:=fun {x y z} e {Hs H v w} s a b {Q} q=>by
  unfold qd5 at e
  split at e
  ·cases e
   exact .inl ⟨_,_,qa0 a,qa0 b,q _ _ _ (.refl s) (rep_at.mpr rfl)⟩
  ·split at e
   ·rename_i hl
    cases e
    exact .inr (.inl ⟨_,_,qa0 a,qa0 b,qec hl,q _ _ _ (.refl s) (rep_at.mpr rfl)⟩)
   ·cases e
  ·split at e
   ·rename_i hl
    cases e
    obtain ⟨p,vs,rfl,e1,r1⟩:=qbd s a
    obtain ⟨p',ws,rfl,e2,r2⟩:=qbd s b
    refine .inr (.inr (.inl ⟨p,p',vs,ws,rfl,rfl,SqL.of e1,SqL.of e2,qec (by rw [r1.length,r2.length];exact hl),fun l hl=>?_⟩))
    exact q _ _ _ (.new s hl) (rep_lst.mpr ⟨l,_,rfl,qan,(r1.append r2).mono (Ext.new s hl).s1⟩)
   ·cases e
  ·split at e
   ·rename_i hl
    cases e
    obtain ⟨p,vs,rfl,e1,r1⟩:=qby s a
    obtain ⟨p',ws,rfl,e2,r2⟩:=qby s b
    have hn:vs ≠ []:=fun z=>by
     have h1:=r1.length
     rw [z] at h1
     exact hl.1 (List.length_eq_zero_iff.mp h1.symm)
    refine .inr (.inr (.inr ⟨p,p',vs,ws,rfl,rfl,SqT.of e1,SqT.of e2,hn,qec (by rw [r1.length,r2.length];exact hl.2),fun z=>?_,fun z l hl=>?_⟩))
    ·subst z
     cases r2.nil_of
     rw [List.append_nil] at q
     rcases a with a | ⟨_,_,_,t⟩
     ·exact q _ _ _ (.refl s) a
     ·exact t.elim
    ·exact q _ _ _ (.new s hl) (rep_tup.mpr ⟨l,_,rfl,qan,(r1.append r2).mono (Ext.new s hl).s1⟩)
   ·cases e
  ·cases e
def qn7:List PV->Option PV
 | [.at (.str x)]=>if x.length<=lim then some (.at (.int x.length)) else none
 | [.lst xs]=>some (.at (.int xs.length))
 | [.tup xs]=>some (.at (.int xs.length))
 | [.dk ks _]=>some (.at (.int ks.length))
 | _=>none
instance {K:PySem.W.Frag}:SemC (rLen K) qn7 where
 h:=fun {xs z} e {Hs H vs} s r {Q} q=>by
  unfold qn7 at e
  split at e
  ·split at e
   ·rename_i hl
    cases e
    obtain ⟨v,rfl,a⟩:=qep r
    cases qa0 a
    exact .inl ⟨_,_,rfl,⟨qec hl,rfl⟩,q _ _ _ (.refl s) (rep_at.mpr rfl)⟩
   ·cases e
  ·cases e
   obtain ⟨v,rfl,a⟩:=qep r
   obtain ⟨p,ws,rfl,e1,r1⟩:=qbd s a
   exact .inl ⟨_,_,rfl,.inl ⟨ws,SqL.of e1,rfl⟩,q _ _ _ (.refl s) (rep_at.mpr (by rw [r1.length]))⟩
  ·cases e
   obtain ⟨v,rfl,a⟩:=qep r
   obtain ⟨p,ws,rfl,e1,r1⟩:=qby s a
   exact .inl ⟨_,_,rfl,.inr ⟨ws,SqT.of e1,rfl⟩,q _ _ _ (.refl s) (rep_at.mpr (by rw [r1.length]))⟩
  ·cases e
   obtain ⟨v,rfl,a⟩:=qep r
   obtain ⟨p,kvs,rfl,e1,k,r1⟩:=qfn s a
   exact .inr ⟨p,kvs,rfl,e1,q _ _ _ (.refl s) (rep_at.mpr (by rw [<- k,List.length_map]))⟩
  ·cases e
def qe7:List PV->Option PV
 | [.lst xs]=>some (.lst xs)
 | [.tup xs]=>some (.lst xs)
 | _=>none
instance {K:PySem.W.Frag}:SemCO (qvh K) qe7 where
 h:=fun {xs z} e {Hs H vs} s r {Q} q=>by
  unfold qe7 at e
  split at e
  ·cases e
   obtain ⟨v,rfl,a⟩:=qep r
   obtain ⟨p,ws,rfl,e1,r1⟩:=qbd s a
   exact ⟨p,ws,rfl,.inl (SqL.of e1),fun l hl=>q l _ _ (.newO s hl) hl (s.free hl) ⟨ws,qan,r1⟩⟩
  ·cases e
   obtain ⟨v,rfl,a⟩:=qep r
   obtain ⟨p,ws,rfl,e1,r1⟩:=qby s a
   exact ⟨p,ws,rfl,.inr (SqT.of e1),fun l hl=>q l _ _ (.newO s hl) hl (s.free hl) ⟨ws,qan,r1⟩⟩
  ·cases e
def tyP:PV->Option String
 | .at .non=>some "NoneType"
 | .at (.bl _)=>some "bool"
 | .at (.int _)=>some "int"
 | .at (.str _)=>some "str"
 | .lst _=>some "list"
 | .tup _=>some "tuple"
 | .dk _ _=>some "dict"
 | _=>none
theorem tyP_of {K:PySem.W.Frag} {Hs H:Hp} {x:PV} {v:V} {T:String} (s:Same Hs H) (r:RepB Hs H x v) (e:tyP x=some T):qq9 K H v (.type T):=by
 unfold tyP at e
 split at e
 ·cases e;cases qa0 r;exact .non
 ·cases e;cases qa0 r;exact .bl _
 ·cases e;cases qa0 r;exact .int _
 ·cases e;cases qa0 r;exact .str _
 ·cases e;obtain ⟨p,ws,rfl,e1,r1⟩:=qbd s r;exact .lst e1
 ·cases e;obtain ⟨p,ws,rfl,e1,r1⟩:=qby s r;exact .tup e1
 ·cases e;obtain ⟨p,ws,rfl,e1,_⟩:=qfn s r;exact .dK e1
 ·cases e
def qi5:List PV->Option PV
 | [x,.at (.ty n)]=>(tyP x).bind fun T=>(tyB T n).bind fun b=>some (.at (.bl b))
 | _=>none
instance {K:PySem.W.Frag}:SemC (rIsi K) qi5 where
 h:=fun {xs z} e {Hs H vs} s r {Q} q=>by
  unfold qi5 at e
  split at e
  ·obtain ⟨T,eT,e1⟩:=bind_some e
   obtain ⟨b,eb,e2⟩:=bind_some e1
   cases e2
   obtain ⟨v,w,rfl,a,c⟩:=repsB2 r
   cases qa0 c
   exact ⟨v,_,T,b,rfl,tyP_of s a eT,eb,q _ _ _ (.refl s) (rep_at.mpr rfl)⟩
  ·cases e
def bls:List PV->Option (List Bool)
 | []=>some []
 | .at (.bl b)::xs=>(bls xs).map (b::·)
 | _::_=>none
theorem qxt:∀ {xs:List PV} {bs:List Bool},bls xs=some bs->xs=bs.map fun b=> .at (.bl b)
 | [],_,h=>by cases h;rfl
 | x::xs,bs,h=>by
  unfold bls at h
  split at h
  ·rename_i heq;cases heq
  ·rename_i b ys heq
   injection heq with h1 h2
   obtain ⟨r,e,rfl⟩:=Option.map_eq_some_iff.mp h
   subst h2
   rw [h1,List.map_cons,qxt e]
  ·cases h
def qki:List PV->Option (List Int)
 | []=>some []
 | .at (.int b)::xs=>(qki xs).map (b::·)
 | _::_=>none
theorem qma:∀ {xs:List PV} {bs:List Int},qki xs=some bs->xs=bs.map fun b=> .at (.int b)
 | [],_,h=>by cases h;rfl
 | x::xs,bs,h=>by
  unfold qki at h
  split at h
  ·rename_i heq;cases heq
  ·rename_i b ys heq
   injection heq with h1 h2
   obtain ⟨r,e,rfl⟩:=Option.map_eq_some_iff.mp h
   subst h2
   rw [h1,List.map_cons,qma e]
  ·cases h
def pAll:List PV->Option PV
 | [.lst xs]=>(bls xs).bind fun bs=>some (.at (.bl (bs.all id)))
 | _=>none
instance {K:PySem.W.Frag}:SemC (rAllB K) pAll where
 h:=fun {xs z} e {Hs H vs} s r {Q} q=>by
  unfold pAll at e
  split at e
  ·obtain ⟨bs,eb,e1⟩:=bind_some e
   cases e1
   obtain ⟨v,rfl,a⟩:=qep r
   obtain ⟨p,ws,rfl,e1,r1⟩:=qbd s a
   rw [qxt eb,show (bs.map fun b=>PV.at (.bl b))=(bs.map V.bl).map .at by rw [List.map_map];rfl] at r1
   cases r1.ats
   exact ⟨p,bs,rfl,SqL.of e1,q _ _ _ (.refl s) (rep_at.mpr rfl)⟩
  ·cases e
def qvw:List PV->Option PV
 | [.at (.int i),.at (.int j)]=>some (.at (.int (if j < i then j else i)))
 | _=>none
instance:SemC rMin2 qvw where
 h:=fun {xs z} e {Hs H vs} s r {Q} q=>by
  unfold qvw at e
  split at e
  ·cases e
   obtain ⟨v,w,rfl,a,b⟩:=repsB2 r
   cases qa0 a
   cases qa0 b
   exact ⟨_,_,rfl,q _ _ _ (.refl s) (rep_at.mpr rfl)⟩
  ·cases e
def qqq:PV->Bool
 | .at .non=>true
 | _=>false
def isOp:PV->Bool
 | .op _=>true
 | _=>false
def pIsN:PV->PV->Option PV:=fun x y=>if qqq y=true/\isOp x=false then some (.at (.bl (qqq x))) else none
def pNotN:PV->PV->Option PV:=fun x y=>if qqq y=true/\isOp x=false then some (.at (.bl (!qqq x))) else none
theorem qjd {Hs H:Hp} {x:PV} {v:V} (s:Same Hs H) (r:RepB Hs H x v) (ho:isOp x=false):decide (v = .non)=qqq x:=by
 cases x with
 | «at» u =>
  cases qa0 r
  cases v <;> first | rfl | (exact decide_eq_false (fun z=>nomatch z))
 | tup xs=>obtain ⟨p,ws,rfl,_⟩:=qby s r;exact decide_eq_false (fun z=>nomatch z)
 | lst xs=>obtain ⟨p,ws,rfl,_⟩:=qbd s r;exact decide_eq_false (fun z=>nomatch z)
 | dk ks xs=>obtain ⟨p,ws,rfl,_⟩:=qfn s r;exact decide_eq_false (fun z=>nomatch z)
 | fk ks xs=>obtain ⟨p,o,ws,rfl,_⟩:=qju s r;exact decide_eq_false (fun z=>nomatch z)
 | ob C ns xs=>obtain ⟨p,dx,ws,rfl,_⟩:=qvf s r;exact decide_eq_false (fun z=>nomatch z)
 | op φ=>cases ho
instance:qso rIsN pIsN where
 h:=fun {x y z} e {Hs H v w} s a b {Q} q=>by
  unfold pIsN at e
  split at e
  ·rename_i hy
   cases e
   have hb:isOp y=false:=by
    cases y <;> first | rfl | (exact absurd hy.1 (by simp [qqq]))
   refine ⟨of_decide_eq_true ((qjd s b hb).trans hy.1),?_⟩
   rw [qjd s a hy.2]
   exact q _ _ _ (.refl s) (rep_at.mpr rfl)
  ·cases e
instance:qso rNotN pNotN where
 h:=fun {x y z} e {Hs H v w} s a b {Q} q=>by
  unfold pNotN at e
  split at e
  ·rename_i hy
   cases e
   have hb:isOp y=false:=by
    cases y <;> first | rfl | (exact absurd hy.1 (by simp [qqq]))
   refine ⟨of_decide_eq_true ((qjd s b hb).trans hy.1),?_⟩
   rw [qjd s a hy.2]
   exact q _ _ _ (.refl s) (rep_at.mpr rfl)
  ·cases e
def qvq (f:PV->PV->Option Bool):List PV->List PV->Option Bool
 | x::xs,y::ys=>(f x y).bind fun a=>(qvq f xs ys).bind fun b=>some (a && b)
 | _,_=>some true
def peq0:PV->PV->Option Bool
 | .at u,.at v=>if qbn u=true/\qbn v=true then some (eqV u v) else none
 | _,_=>none
def peq1 (f:PV->PV->Option Bool):PV->PV->Option Bool
 | .at u,.at v=>if qbn u=true/\qbn v=true then some (eqV u v) else none
 | .lst xs,.lst ys=>if xs.length=ys.length then qvq f xs ys else some false
 | .tup xs,.tup ys=>(qvq f xs ys).bind fun b=>some (b && xs.length == ys.length)
 | .lst _,.tup _=>some false
 | .tup _,.lst _=>some false
 | .at u,.lst _=>if qbn u=true then some false else none
 | .at u,.tup _=>if qbn u=true then some false else none
 | .lst _,.at u=>if qbn u=true then some false else none
 | .tup _,.at u=>if qbn u=true then some false else none
 | _,_=>none
def peq:Nat->PV->PV->Option Bool
 | 0=>peq0
 | n + 1=>peq1 (peq n)
theorem qqe {K:PySem.W.Frag} {Hs H:Hp} {n:Nat} (s:Same Hs H) (ih:∀ {x y:PV} {v w:V} {b:Bool},peq n x y=some b->Rep Hs x v->Rep Hs y w->EqP K H n v w b) :
  ∀ {xs ys:List PV} {vs ws:List V} {b:Bool},qvq (peq n) xs ys=some b->Reps Hs xs vs->Reps Hs ys ws->∃ e:Nat->Bool,(∀ j (h1:j < vs.length) (h2:j < ws.length),EqP K H n vs[j] ws[j] (e j))/\b=(List.range (min vs.length ws.length)).all e
 | [],ys,vs,ws,b,h,r1,r2=>by
  cases reps_nil.mp r1
  unfold qvq at h
  cases h
  exact ⟨fun _=>true,fun j h1=>absurd h1 (Nat.not_lt_zero _),by simp⟩
 | x::xs,[],vs,ws,b,h,r1,r2=>by
  cases reps_nil.mp r2
  unfold qvq at h
  cases h
  exact ⟨fun _=>true,fun j h1 h2=>absurd h2 (Nat.not_lt_zero _),by simp⟩
 | x::xs,y::ys,vs,ws,b,h,r1,r2=>by
  obtain ⟨v,vr,rfl,p1,q1⟩:=reps_cons.mp r1
  obtain ⟨w,wr,rfl,p2,q2⟩:=reps_cons.mp r2
  unfold qvq at h
  obtain ⟨a,ea,h1⟩:=bind_some h
  obtain ⟨c,ec,h2⟩:=bind_some h1
  cases h2
  obtain ⟨e,he,hb⟩:=qqe s ih ec q1 q2
  refine ⟨fun j=>match j with | 0=>a | j + 1=>e j,fun j h1 h2=>?_,?_⟩
  ·cases j with
   | zero=>exact ih ea p1 p2
   | succ j=>exact he j (by simpa using h1) (by simpa using h2)
  ·rw [List.length_cons,List.length_cons,Nat.succ_min_succ,List.range_succ_eq_map,List.all_cons,List.all_map,hb]
   rfl
theorem qvr {K:PySem.W.Frag} {Hs H:Hp} (s:Same Hs H):∀ (n:Nat) {x y:PV} {v w:V} {b:Bool},peq n x y=some b->RepB Hs H x v->RepB Hs H y w->EqP K H n v w b
 | 0,x,y,v,w,b,h,r1,r2=>by
  unfold peq peq0 at h
  split at h
  ·split at h
   ·rename_i hf
    cases h
    cases qa0 r1
    cases qa0 r2
    exact ⟨hf.1,hf.2,rfl⟩
   ·cases h
  ·cases h
 | n + 1,x,y,v,w,b,h,r1,r2=>by
  have ih:∀ {x y:PV} {v w:V} {b:Bool},peq n x y=some b->Rep Hs x v->Rep Hs y w->EqP K H n v w b:=fun h r1 r2=>qvr s n h (.inl r1) (.inl r2)
  unfold peq peq1 at h
  split at h
  ·split at h
   ·rename_i hf
    cases h
    cases qa0 r1
    cases qa0 r2
    exact .inl ⟨hf.1,hf.2,rfl⟩
   ·cases h
  ·obtain ⟨a,vs,rfl,e1,q1⟩:=qbd s r1
   obtain ⟨c,ws,rfl,e2,q2⟩:=qbd s r2
   refine .inr (.inl ⟨a,c,vs,ws,rfl,rfl,SqL.of e1,SqL.of e2,?_⟩)
   split at h
   ·rename_i hl
    obtain ⟨e,he,hb⟩:=qqe s ih h q1 q2
    have hl':vs.length=ws.length:=by rw [q1.length,q2.length,hl]
    exact .inr ⟨hl',e,he,by rw [hb,<- hl',Nat.min_self]⟩
   ·rename_i hl
    cases h
    exact .inl ⟨by rw [q1.length,q2.length];exact hl,rfl⟩
  ·obtain ⟨a,vs,rfl,e1,q1⟩:=qby s r1
   obtain ⟨c,ws,rfl,e2,q2⟩:=qby s r2
   obtain ⟨d,ed,h1⟩:=bind_some h
   cases h1
   obtain ⟨e,he,hb⟩:=qqe s ih ed q1 q2
   exact .inr (.inr (.inl ⟨a,c,vs,ws,rfl,rfl,SqT.of e1,SqT.of e2,e,he,by rw [hb,q1.length,q2.length]⟩))
  ·cases h
   obtain ⟨a,vs,rfl,e1,q1⟩:=qbd s r1
   obtain ⟨c,ws,rfl,e2,q2⟩:=qby s r2
   exact .inr (.inr (.inr (.inl ⟨a,c,vs,ws,rfl,rfl,SqL.of e1,SqT.of e2,rfl⟩)))
  ·cases h
   obtain ⟨a,vs,rfl,e1,q1⟩:=qby s r1
   obtain ⟨c,ws,rfl,e2,q2⟩:=qbd s r2
   exact .inr (.inr (.inr (.inr (.inl ⟨a,c,vs,ws,rfl,rfl,SqT.of e1,SqL.of e2,rfl⟩))))
  ·split at h
   ·rename_i hf
    cases h
    cases qa0 r1
    obtain ⟨c,ws,rfl,e2,q2⟩:=qbd s r2
    exact .inr (.inr (.inr (.inr (.inr (.inl ⟨c,ws,hf,rfl,.inl (SqL.of e2),rfl⟩)))))
   ·cases h
  ·split at h
   ·rename_i hf
    cases h
    cases qa0 r1
    obtain ⟨c,ws,rfl,e2,q2⟩:=qby s r2
    exact .inr (.inr (.inr (.inr (.inr (.inl ⟨c,ws,hf,rfl,.inr (SqT.of e2),rfl⟩)))))
   ·cases h
  ·split at h
   ·rename_i hf
    cases h
    cases qa0 r2
    obtain ⟨c,ws,rfl,e2,q2⟩:=qbd s r1
    exact .inr (.inr (.inr (.inr (.inr (.inr ⟨c,ws,hf,rfl,.inl (SqL.of e2),rfl⟩)))))
   ·cases h
  ·split at h
   ·rename_i hf
    cases h
    cases qa0 r2
    obtain ⟨c,ws,rfl,e2,q2⟩:=qby s r1
    exact .inr (.inr (.inr (.inr (.inr (.inr ⟨c,ws,hf,rfl,.inr (SqT.of e2),rfl⟩)))))
   ·cases h
  ·cases h
def pEq:PV->PV->Option PV:=fun x y=>(peq 6 x y).bind fun b=>some (.at (.bl b))
def pNe:PV->PV->Option PV:=fun x y=>(peq 6 x y).bind fun b=>some (.at (.bl (!b)))
instance {K:PySem.W.Frag}:qso (rEqD K 6 false) pEq where
 h:=fun {x y z} e {Hs H v w} s a b {Q} q=>by
  obtain ⟨c,ec,e1⟩:=bind_some e
  cases e1
  exact ⟨c,qvr s 6 ec a b,q _ _ _ (.refl s) (rep_at.mpr rfl)⟩
instance {K:PySem.W.Frag}:qso (rEqD K 6 true) pNe where
 h:=fun {x y z} e {Hs H v w} s a b {Q} q=>by
  obtain ⟨c,ec,e1⟩:=bind_some e
  cases e1
  exact ⟨c,qvr s 6 ec a b,q _ _ _ (.refl s) (rep_at.mpr rfl)⟩
class SemP (to:TO) (f:ME->Option (Option Int)):Prop where
 h:∀ {ε y},f ε=some y->∀ {Hs0 H0 Hs H σ},RS Hs0 H0 Hs H σ ε->∀ {Q:Option Int->Hp->Prop},(∀ Hs' H',Ext Hs H Hs' H'->Q y H')->to σ H Q
def pNo:ME->Option (Option Int):=fun _=>some none
def pInt:PV->Option Int
 | .at (.int i)=>some i
 | _=>none
def pSo (a:M):ME->Option (Option Int):=fun ε=>(a ε).bind fun x=>(pInt x).bind fun i=>some (some i)
instance:SemP quu pNo where
 h:=fun e _ _ _ _ _ rs _ q=>by cases e;exact q _ _ (.refl rs.sub)
instance {te:TE} {a:M} [sa:qic te a]:SemP (tPart te) (pSo a) where
 h:=fun e _ _ _ _ _ rs _ q=>by
  obtain ⟨x,ex,e1⟩:=bind_some e
  obtain ⟨i,ei,e2⟩:=bind_some e1
  cases e2
  unfold pInt at ei
  split at ei
  ·cases ei
   exact sa.h ex rs fun v Hs1 H1 x1 r1=>⟨_,qa0 r1,q _ _ x1⟩
  ·cases ei
def qxg (xs:List PV) (lo hi:Option Int):List PV:=(xs.drop (HT.sIx xs.length 0 lo)).take (HT.sIx xs.length xs.length hi - HT.sIx xs.length 0 lo)
theorem Reps.cut {H:Hp} {xs:List PV} {vs:List V} (r:Reps H xs vs) (lo hi:Option Int):Reps H (qxg xs lo hi) (cutV vs lo hi):=by
 unfold qxg cutV
 rw [r.length]
 exact (r.drop _).take _
def dSlL (a:M) (l u:ME->Option (Option Int)):M:=fun ε=>(a ε).bind fun x=>(l ε).bind fun lo=>(u ε).bind fun hi=>match x with
 | .lst xs=>some (.lst (qxg xs lo hi))
 | _=>none
instance {K:PySem.W.Frag} {te:TE} {tl th:TO} {a:M} {l u:ME->Option (Option Int)} [sa:qic te a] [sl:SemP tl l] [su:SemP th u]:qn2 (tSl (rSlL K) te tl th) (dSlL a l u) where
 h:=fun e _ _ _ _ _ rs _ q=>by
  obtain ⟨x,ex,e1⟩:=bind_some e
  obtain ⟨lo,el,e2⟩:=bind_some e1
  obtain ⟨hi,eu,e3⟩:=bind_some e2
  split at e3
  ·cases e3
   refine sa.h ex rs fun v Hs1 H1 x1 r1=>sl.h el (rs.go x1) fun Hs2 H2 x2=>su.h eu ((rs.go x1).go x2) fun Hs3 H3 x3=>?_
   obtain ⟨p,vs,rfl,e1,r⟩:=qbd x3.s3 ((r1.ext x2).ext x3)
   have x13:=x1.trans (x2.trans x3)
   exact ⟨p,vs,rfl,SqL.of e1,fun d hd=>q d _ _ (x13.trans (.newO x3.s3 hd)) (x13.s2.free hd) (x3.s3.free hd) ⟨_,qan,r.cut lo hi⟩⟩
  ·cases e3
def qhl (n:Nat):List PV->List PV
 | []=>[]
 | x::xs=> .tup [.at (.int n),x]::qhl (n + 1) xs
theorem qo9:∀ {xs:List PV} {n i:Nat} {z:PV},(qhl n xs)[i]?=some z->∃ x,xs[i]?=some x/\z = .tup [.at (.int ((n + i:Nat):Int)),x]
 | [],n,i,z,h=>by simp [qhl] at h
 | x::xs,n,0,z,h=>by simp [qhl] at h;exact ⟨x,rfl,h.symm⟩
 | x::xs,n,i + 1,z,h=>by
  obtain ⟨y,h1,h2⟩:=qo9 (xs:=xs) (n:=n + 1) (i:=i) (z:=z) (by simpa [qhl] using h)
  exact ⟨y,by simpa using h1,by rw [h2,show n + 1 + i=n + (i + 1) by omega]⟩
theorem qil:∀ {xs:List PV} {n:Nat},(qhl n xs).length=xs.length
 | [],_=>rfl
 | x::xs,n=>by simp [qhl,qil]
theorem ite_ok {K:PySem.W.Frag} {a:Addr} {xs:List PV} {vs:List V} {Hs:Hp} (h:Hs a=some (.lst vs)) (r:Reps Hs xs vs):ItOk (Ite K a) (qhl 0 xs) Hs where
 go:=fun i x Hs1 H1 e g1 g2=>by
  obtain ⟨y,ey,rfl⟩:=qo9 e
  obtain ⟨v,ev,rv⟩:=r.get ey
  refine ⟨⟨vs,v,SqL.of (g2 _ _ (g1 _ _ h)),ev⟩,fun w H2 z=>?_⟩
  obtain ⟨p,u,hp,rfl,rfl,hu⟩:=z
  have e1:=hu vs (SqL.of (g2 _ _ (g1 _ _ h)))
  rw [ev] at e1
  cases e1
  refine ⟨_,.new g2 hp,rep_tup.mpr ⟨p,_,rfl,qan,.cons (rep_at.mpr (by rw [Nat.zero_add])) (.one (rv.mono (g1.trans (Ext.new g2 hp).s1)))⟩⟩
 stop:=fun Hs1 H1 g1 g2=>⟨vs,SqL.of (g2 _ _ (g1 _ _ h)),by rw [r.length,qil];exact Nat.le_refl _⟩
def dEnum (a:MA):MA:=fun ε=>(a ε).bind fun xs=>match xs with
 | [.lst ys]=>some (qhl 0 ys)
 | _=>none
instance {K:PySem.W.Frag} {ta:TA} {a:MA} [sa:qpv ta a]:SemI (iEnum K ta) (dEnum a) where
 h:=fun e _ _ _ _ _ rs _ q=>by
  obtain ⟨xs,ex,e1⟩:=bind_some e
  split at e1
  ·cases e1
   refine sa.h ex rs fun vs Hs1 H1 x1 r1=>?_
   obtain ⟨v,r,rfl,p1,p2⟩:=reps_cons.mp r1
   cases reps_nil.mp p2
   obtain ⟨p,ws,rfl,hp,rw⟩:=rep_lst.mp p1
   exact ⟨p,rfl,⟨ws,SqL.of (x1.s3 _ _ hp)⟩,q _ _ _ x1 (ite_ok hp rw)⟩
  ·cases e1
def qpw:List PV->List PV->List PV
 | x::xs,y::ys=> .tup [x,y]::qpw xs ys
 | _,_=>[]
theorem qrf:∀ {xs ys:List PV} {i:Nat} {z:PV},(qpw xs ys)[i]?=some z->∃ x y,xs[i]?=some x/\ys[i]?=some y/\z = .tup [x,y]
 | [],_,i,z,h=>by simp [qpw] at h
 | _::_,[],i,z,h=>by simp [qpw] at h
 | x::xs,y::ys,0,z,h=>by simp [qpw] at h;exact ⟨x,y,rfl,rfl,h.symm⟩
 | x::xs,y::ys,i + 1,z,h=>by
  obtain ⟨u,v,h1,h2,h3⟩:=qrf (xs:=xs) (ys:=ys) (i:=i) (z:=z) (by simpa [qpw] using h)
  exact ⟨u,v,by simpa using h1,by simpa using h2,h3⟩
theorem qjh:∀ {xs ys:List PV},(qpw xs ys).length=min xs.length ys.length
 | [],_=>by simp [qpw]
 | _::_,[]=>by simp [qpw]
 | x::xs,y::ys=>by simp [qpw,qjh,Nat.succ_min_succ]
theorem itz_ok {K:PySem.W.Frag} {a b:Addr} {xs ys:List PV} {vs ws:List V} {Hs:Hp} (h:Hs a=some (.lst vs)) (r:Reps Hs xs vs) (h':Hs b=some (.lst ws)) (r':Reps Hs ys ws):ItOk (Itz K a b) (qpw xs ys) Hs where
 go:=fun i x Hs1 H1 e g1 g2=>by
  obtain ⟨y,z,ey,ez,rfl⟩:=qrf e
  obtain ⟨v,ev,rv⟩:=r.get ey
  obtain ⟨w,ew,rw⟩:=r'.get ez
  have q1:SqL K H1 a vs:=SqL.of (g2 _ _ (g1 _ _ h))
  have q2:SqL K H1 b ws:=SqL.of (g2 _ _ (g1 _ _ h'))
  refine ⟨⟨vs,ws,v,w,q1,q2,ev,ew⟩,fun u H2 z=>?_⟩
  obtain ⟨p,v',w',hp,rfl,rfl,hv,hw⟩:=z
  have e1:=hv vs q1
  have e2:=hw ws q2
  rw [ev] at e1
  rw [ew] at e2
  cases e1
  cases e2
  have g3:=g1.trans (Ext.new (o:= .tup [v,w]) g2 hp).s1
  exact ⟨_,.new g2 hp,rep_tup.mpr ⟨p,_,rfl,qan,.cons (rv.mono g3) (.one (rw.mono g3))⟩⟩
 stop:=fun Hs1 H1 g1 g2=>⟨vs,ws,SqL.of (g2 _ _ (g1 _ _ h)),SqL.of (g2 _ _ (g1 _ _ h')),by rw [r.length,r'.length,qjh];omega⟩
def dZip (a:MA):MA:=fun ε=>(a ε).bind fun xs=>match xs with
 | [.lst ys,.lst zs]=>some (qpw ys zs)
 | _=>none
instance {K:PySem.W.Frag} {ta:TA} {a:MA} [sa:qpv ta a]:SemI (iZip K ta) (dZip a) where
 h:=fun e _ _ _ _ _ rs _ q=>by
  obtain ⟨xs,ex,e1⟩:=bind_some e
  split at e1
  ·cases e1
   refine sa.h ex rs fun vs Hs1 H1 x1 r1=>?_
   obtain ⟨v,r,rfl,p1,p2⟩:=reps_cons.mp r1
   obtain ⟨v',r',rfl,p3,p4⟩:=reps_cons.mp p2
   cases reps_nil.mp p4
   obtain ⟨p,ws,rfl,hp,rw1⟩:=rep_lst.mp p1
   obtain ⟨p',ws',rfl,hp',rw2⟩:=rep_lst.mp p3
   exact ⟨p,p',rfl,⟨ws,SqL.of (x1.s3 _ _ hp)⟩,⟨ws',SqL.of (x1.s3 _ _ hp')⟩,q _ _ _ x1 (itz_ok hp rw1 hp' rw2)⟩
  ·cases e1
end Mi
namespace Mi
open PySem L2
structure RD (S:List Addr) (Hs0 H0 Hs H:Hp) (σ:St) (ε:ME):Prop where
 s1:Same Hs0 Hs
 s2:∀ b o,H0 b=some o->b ∉ S->H b=some o
 s3:Same Hs H
 s4:∀ b,H0 b ≠ none->Hs0 b=none->Hs b=none
 sh:∀ (i:Nat) (x:PV),ε[i]?=some (.sh x)->∃ v,σ[i]?=some (some v)/\Rep Hs x v
 ow:∀ (i:Nat) (x:PV),ε[i]?=some (.ow x)->∃ a,σ[i]?=some (some (.ref a))/\(H0 a=none ∨ a ∈ S)/\Hs a=none/\Top Hs H a x
 nd:∀ (i j:Nat) (x y:PV) (a:Addr),ε[i]?=some (.ow x)->ε[j]?=some (.ow y)->σ[i]?=some (some (.ref a))->σ[j]?=some (some (.ref a))->i=j
 len:σ.length=ε.length
 pin:∀ a ∈ S,σ[0]?=some (some (.ref a))
 live:∀ a ∈ S,H a ≠ none
 str:∀ a ∈ S,∃ y,ε[0]?=some (.ow y)
 nb:∀ (i:Nat) (x:PV),ε[i]? ≠ some (.bo x)
section
variable {S:List Addr} {Hs0 H0 Hs H Hs' H':Hp} {σ:St} {ε:ME}
theorem RD.rs (r:RD S Hs0 H0 Hs H σ ε):RS Hs Hs Hs H σ ε where
 ext:=⟨.refl _,r.s3,r.s3,fun _ h z=>absurd z h⟩
 sh:=r.sh
 ow:=fun i x h=>by obtain ⟨a,h1,_,h3,h4⟩:=r.ow i x h;exact ⟨a,h1,h3,h3,h4⟩
 nd:=r.nd
 len:=r.len
 bo:=fun i x h=>absurd h (r.nb i x)
theorem RD.there (r:RD S Hs0 H0 Hs H σ ε) {b:Addr} (h:H0 b ≠ none):H b ≠ none:=by
 by_cases hS:b ∈ S
 ·exact r.live b hS
 ·cases q:H0 b with
  | none=>exact absurd q h
  | some o=>rw [r.s2 b o q hS];exact fun z=>nomatch z
theorem RD.go (r:RD S Hs0 H0 Hs H σ ε) (e:Ext Hs H Hs' H'):RD S Hs0 H0 Hs' H' σ ε where
 s1:=r.s1.trans e.s1
 s2:=fun b o h n=>e.s2 _ _ (r.s2 b o h n)
 s3:=e.s3
 s4:=fun b h z=>e.s4 b (r.there h) (r.s4 b h z)
 sh:=fun i x q=>by obtain ⟨v,a,b⟩:=r.sh i x q;exact ⟨v,a,b.mono e.s1⟩
 ow:=fun i x q=>by
  obtain ⟨a,b,n0,n,t⟩:=r.ow i x q
  exact ⟨a,b,n0,e.s4 a t.there n,t.mono e.s1 fun o z=>e.s2 _ _ z⟩
 nd:=r.nd
 len:=r.len
 pin:=r.pin
 live:=fun a h=>qrm e.s2 (r.live a h)
 str:=r.str
 nb:=r.nb
theorem RD.change (r:RD S Hs0 H0 Hs H σ ε) {i:Nat} {x y:PV} {a:Addr} {o:HO} (hi:ε[i]?=some (.ow x)) (ha:σ[i]?=some (some (.ref a))) (t:Top Hs (upd H a o) a y):RD S Hs0 H0 Hs (upd H a o) σ (ε.set i (.ow y)):=by
 obtain ⟨b,hb,n0,n,tx⟩:=r.ow i x hi
 rw [ha] at hb
 injection hb with hb;injection hb with hb;injection hb with hb
 subst hb
 have q:=(r.rs).change hi ha t
 refine ⟨r.s1,fun b u e hS=>?_,fun b u e=>?_,r.s4,q.sh,fun j z hz=>?_,q.nd,q.len,r.pin,fun b hS=>?_,fun b hS=>?_,ql7 r.nb fun _ z=>nomatch z⟩
 ·have hne:b ≠ a:=fun z=>by
   rcases n0 with n0 | n0
   ·rw [z,n0] at e;cases e
   ·exact hS (z ▸ n0)
  rw [qam hne];exact r.s2 b u e hS
 ·rw [qam (qai e n)];exact r.s3 _ _ e
 ·obtain ⟨c,hc,m1,m2,tc⟩:=q.ow j z hz
  refine ⟨c,hc,?_,m2,tc⟩
  rw [List.getElem?_set] at hz
  split at hz
  ·rename_i hij
   rw [<- hij,ha] at hc
   injection hc with hc;injection hc with hc;injection hc with hc
   rw [<- hc];exact n0
  ·obtain ⟨d,hd,m0,_⟩:=r.ow j z hz
   rw [hd] at hc
   injection hc with hc;injection hc with hc;injection hc with hc
   rw [<- hc];exact m0
 ·by_cases hba:b=a
  ·rw [hba,qan];exact fun z=>nomatch z
  ·rw [qam hba];exact r.live b hS
 ·obtain ⟨y',hy⟩:=r.str b hS
  rw [List.getElem?_set]
  split
  ·rename_i h0
   rw [if_pos (by rw [h0];exact (List.getElem?_eq_some_iff.mp hy).1)]
   exact ⟨y,rfl⟩
  ·exact ⟨y',hy⟩
theorem RD.put (r:RD S Hs0 H0 Hs H σ ε) {i:Nat} {x:PV} {v:V} (h:Rep Hs x v):RD S Hs0 H0 Hs H (σ.set (i + 1) (some v)) (ε.set (i + 1) (.sh x)):=by
 have q:=(r.rs).put (i:=i + 1) h
 refine ⟨r.s1,r.s2,r.s3,r.s4,q.sh,fun j z hz=>?_,q.nd,q.len,fun a hS=>by rw [List.getElem?_set_ne (by omega)];exact r.pin a hS,r.live,fun a hS=>by rw [List.getElem?_set_ne (by omega)];exact r.str a hS,ql7 r.nb fun _ z=>nomatch z⟩
 obtain ⟨c,hc,m1,m2,tc⟩:=q.ow j z hz
 refine ⟨c,hc,?_,m2,tc⟩
 rw [List.getElem?_set] at hz hc
 split at hz
 ·split at hz <;> cases hz
 ·rename_i hij
  rw [if_neg hij] at hc
  obtain ⟨d,hd,m0,_⟩:=r.ow j z hz
  rw [hd] at hc
  injection hc with hc;injection hc with hc;injection hc with hc
  rw [<- hc];exact m0
theorem RD.putO (r:RD S Hs0 H0 Hs H σ ε) {i:Nat} {x:PV} {a:Addr} (h0:H0 a=none ∨ a ∈ S) (h1:Hs a=none) (h2:Top Hs H a x) (ne:∀ (j:Nat) (y:PV),ε[j]?=some (.ow y)->σ[j]? ≠ some (some (.ref a))):RD S Hs0 H0 Hs H (σ.set (i + 1) (some (.ref a))) (ε.set (i + 1) (.ow x)):=by
 have q:=(r.rs).putO (i:=i + 1) ⟨h1,h1,h2⟩ ne
 refine ⟨r.s1,r.s2,r.s3,r.s4,q.sh,fun j z hz=>?_,q.nd,q.len,fun a hS=>by rw [List.getElem?_set_ne (by omega)];exact r.pin a hS,r.live,fun a hS=>by rw [List.getElem?_set_ne (by omega)];exact r.str a hS,ql7 r.nb fun _ z=>nomatch z⟩
 obtain ⟨c,hc,m1,m2,tc⟩:=q.ow j z hz
 refine ⟨c,hc,?_,m2,tc⟩
 rw [List.getElem?_set] at hz hc
 split at hz
 ·rename_i hij
  rw [if_pos hij] at hc
  split at hc
  ·injection hc with hc;injection hc with hc;injection hc with hc
   rw [<- hc];exact h0
  ·cases hc
 ·rename_i hij
  rw [if_neg hij] at hc
  obtain ⟨d,hd,m0,_⟩:=r.ow j z hz
  rw [hd] at hc
  injection hc with hc;injection hc with hc;injection hc with hc
  rw [<- hc];exact m0
theorem RD.free0 (r:RD S Hs0 H0 Hs H σ ε) {a:Addr} (h:H a=none):H0 a=none:=by
 cases q:H0 a with
 | none=>rfl
 | some o=>exact absurd h (r.there (by rw [q];exact fun z=>nomatch z))
theorem RD.freeze (r:RD S Hs0 H0 Hs H σ ε) (i:Nat):∃ Hs',Same Hs Hs'/\RD S Hs0 H0 Hs' H σ (fz (i + 1) ε):=by
 by_cases h:∃ x,ε[i + 1]?=some (.ow x)
 ·obtain ⟨x,hi⟩:=h
  obtain ⟨a,ha,n0,n,t⟩:=r.ow (i + 1) x hi
  have hS:a ∉ S:=fun hS=>by
   obtain ⟨y,hy⟩:=r.str a hS
   exact absurd (r.nd 0 (i + 1) y x a hy hi (r.pin a hS) ha) (by omega)
  obtain ⟨o,ho,hr⟩:=t.rep n
  have g:Same Hs (upd Hs a o):=fun b u e=>by rw [qam (qai e n)];exact e
  have ef:fz (i + 1) ε=ε.set (i + 1) (.sh x):=by unfold fz;rw [hi]
  have n0':H0 a=none:=n0.resolve_right hS
  rw [ef]
  have dn:∀ (j:Nat) (y:PV),(ε.set (i + 1) (.sh x))[j]?=some (.ow y)->i + 1 ≠ j/\ε[j]?=some (.ow y):=fun j y q=>by
   rw [List.getElem?_set] at q
   split at q
   ·split at q <;> cases q
   ·rename_i hij;exact ⟨hij,q⟩
  refine ⟨upd Hs a o,g,r.s1.trans g,r.s2,fun b u e=>?_,fun b h z=>?_,fun j y q=>?_,fun j y q=>?_,fun j k z z' c h1 h2 h3 h4=>r.nd j k z z' c (dn j z h1).2 (dn k z' h2).2 h3 h4,by rw [List.length_set,r.len],r.pin,r.live,(fun b hb=>by rw [List.getElem?_set_ne (by omega)];exact r.str b hb),ql7 r.nb fun _ z=>nomatch z⟩
  ·by_cases hb:b=a
   ·subst hb;rw [qan] at e;cases e;exact ho
   ·rw [qam hb] at e;exact r.s3 _ _ e
  ·have hb:b ≠ a:=fun e=>h (e ▸ n0')
   rw [qam hb];exact r.s4 b h z
  ·rw [List.getElem?_set] at q
   split at q
   ·rename_i hij
    split at q
    ·injection q with q;injection q with q;subst q
     exact ⟨.ref a,hij ▸ ha,hr⟩
    ·cases q
   ·obtain ⟨v,e,w⟩:=r.sh j y q
    exact ⟨v,e,w.mono g⟩
  ·obtain ⟨hij,hq⟩:=dn j y q
   obtain ⟨c,hc,m0,m,tc⟩:=r.ow j y hq
   have hne:c ≠ a:=fun e=>hij (r.nd (i + 1) j x y a hi hq ha (e ▸ hc))
   exact ⟨c,hc,m0,by rw [qam hne];exact m,tc.mono g fun _ e=>e⟩
 ·refine ⟨Hs,.refl _,?_⟩
  unfold fz
  split
  ·rename_i x hx;exact absurd ⟨x,hx⟩ h
  ·exact r
end
abbrev W:=ME->(PV->ME->Prop)->Prop
abbrev WA:=ME->(List PV->ME->Prop)->Prop
abbrev WT:=ME->(Bool->ME->Prop)->Prop
abbrev WS:=ME->(ME->Prop)->(PV->ME->Prop)->Prop
class SemW (te:TE) (w:W):Prop where
 h:∀ {ε Q'},w ε Q'->∀ {S Hs0 H0 Hs H σ},RD S Hs0 H0 Hs H σ ε->∀ {Q:VK},(∀ y ε' v Hs' H',Q' y ε'->RD S Hs0 H0 Hs' H' σ ε'->Same Hs Hs'->Rep Hs' y v->Q v H')->te σ H Q
class qra (ta:TA) (w:WA):Prop where
 h:∀ {ε Q'},w ε Q'->∀ {S Hs0 H0 Hs H σ},RD S Hs0 H0 Hs H σ ε->∀ {Q:List V->Hp->Prop},(∀ ys ε' vs Hs' H',Q' ys ε'->RD S Hs0 H0 Hs' H' σ ε'->Same Hs Hs'->Reps Hs' ys vs->Q vs H')->ta σ H Q
class qn1 (tt:TT) (w:WT):Prop where
 h:∀ {ε Q'},w ε Q'->∀ {S Hs0 H0 Hs H σ},RD S Hs0 H0 Hs H σ ε->∀ {Q:Bool->Hp->Prop},(∀ b ε' Hs' H',Q' b ε'->RD S Hs0 H0 Hs' H' σ ε'->Same Hs Hs'->Q b H')->tt σ H Q
class SemWS (ts:TS) (w:WS):Prop where
 h:∀ {ε N R},w ε N R->∀ {S Hs0 H0 Hs H σ},RD S Hs0 H0 Hs H σ ε->∀ {D:qrc},(∀ ε' σ' Hs' H',N ε'->RD S Hs0 H0 Hs' H' σ' ε'->Same Hs Hs'->D.nx σ' H') ->
  (∀ y ε' σ' v Hs' H',R y ε'->RD S Hs0 H0 Hs' H' σ' ε'->Same Hs Hs'->Rep Hs' y v->D.rt v H')->ts D σ H
def wP (f:M):W:=fun ε Q=>∃ y,f ε=some y/\Q y ε
def wPT (f:MB):WT:=fun ε Q=>∃ y,f ε=some y/\Q y ε
instance (priority:=50) {te:TE} {f:M} [s:SemE te f]:SemW te (wP f) where
 h:=fun ⟨y,e,q⟩ _ _ _ _ _ _ r _ k=>s.h e r.rs fun v Hs' H' x rv=>k y _ v Hs' H' q (r.go x) x.s1 rv
instance (priority:=50) {tt:TT} {f:MB} [s:qmj tt f]:qn1 tt (wPT f) where
 h:=fun ⟨y,e,q⟩ _ _ _ _ _ _ r _ k=>s.h e r.rs fun Hs' H' x=>k y _ Hs' H' q (r.go x) x.s1
def qit (g:PV->PV->Option PV) (a b:W):W:=fun ε Q=>a ε fun x ε1=>b ε1 fun y ε2=>∃ z,g x y=some z/\Q z ε2
instance {r:R2} {g:PV->PV->Option PV} {ta tb:TE} {a b:W} [sr:qso r g] [sa:SemW ta a] [sb:SemW tb b]:SemW (tOp r ta tb) (qit g a b) where
 h:=fun h _ _ _ _ _ _ rd _ k=>sa.h h rd fun x ε1 v Hs1 H1 h1 rd1 g1 r1=>sb.h h1 rd1 fun y ε2 w Hs2 H2 h2 rd2 g2 r2=>by
  obtain ⟨z,ez,h2⟩:=h2
  exact sr.h ez rd2.s3 (.inl (r1.mono g2)) (.inl r2) fun u Hs3 H3 x3 r3=>k z ε2 u Hs3 H3 h2 (rd2.go x3) (g1.trans (g2.trans x3.s1)) r3
def wT (a:W):WT:=fun ε Q=>a ε fun x ε1=>∃ b,pB x=some b/\Q b ε1
instance {te:TE} {a:W} [sa:SemW te a]:qn1 (tTest te) (wT a) where
 h:=fun h _ _ _ _ _ _ rd _ k=>sa.h h rd fun x ε1 v Hs1 H1 h1 rd1 g1 r1=>by
  obtain ⟨b,eb,h2⟩:=h1
  cases qh7 eb
  exact ⟨b,rep_at.mp r1,k b ε1 Hs1 H1 h2 rd1 g1⟩
def wAnd (a b:WT):WT:=fun ε Q=>a ε fun c ε1=>if c=true then b ε1 Q else Q false ε1
instance {t u:TT} {a b:WT} [sa:qn1 t a] [sb:qn1 u b]:qn1 (tAnd t u) (wAnd a b) where
 h:=fun h _ _ _ _ _ _ rd _ k=>sa.h h rd fun c ε1 Hs1 H1 h1 rd1 g1=>by
  cases c with
  | true=>exact qr2 (sb.h (by simpa using h1) rd1 fun c2 ε2 Hs2 H2 h2 rd2 g2=>k c2 ε2 Hs2 H2 h2 rd2 (g1.trans g2))
  | false=>exact qr3 (k false ε1 Hs1 H1 (by simpa using h1) rd1 g1)
def wNil:WA:=fun ε Q=>Q [] ε
def qfh (a:W) (r:WA):WA:=fun ε Q=>a ε fun x ε1=>r ε1 fun xs ε2=>Q (x::xs) ε2
instance:qra qiv wNil where
 h:=fun h _ _ _ _ _ _ rd _ k=>k [] _ [] _ _ h rd (.refl _) .nil
instance {te:TE} {ta:TA} {a:W} {r:WA} [sa:SemW te a] [sr:qra ta r]:qra (qc6 te ta) (qfh a r) where
 h:=fun h _ _ _ _ _ _ rd _ k=>sa.h h rd fun x ε1 v Hs1 H1 h1 rd1 g1 r1=>sr.h h1 rd1 fun xs ε2 vs Hs2 H2 h2 rd2 g2 r2=>k _ ε2 _ Hs2 H2 h2 rd2 (g1.trans g2) (.cons (r1.mono g2) r2)
def wTup (a:WA):W:=fun ε Q=>a ε fun xs ε1=>xs.length<=lim/\Q (.tup xs) ε1
instance {ta:TA} {a:WA} [sa:qra ta a]:SemW (tTup ta) (wTup a) where
 h:=fun h _ _ _ _ _ _ rd _ k=>sa.h h rd fun xs ε1 vs Hs1 H1 h1 rd1 g1 r1=>⟨qec (r1.length ▸ h1.1),fun p hp=>k _ ε1 _ _ _ h1.2 (rd1.go (.new rd1.s3 hp)) (g1.trans (Ext.new rd1.s3 hp).s1) (rep_tup.mpr ⟨p,vs,rfl,qan,r1.mono (Ext.new rd1.s3 hp).s1⟩)⟩
def qha:Sp:=fun vs H Q _=>∃ (a:Addr) (n m:Int),vs=[.ref a,.int m]/\H a=some (.lst [.int n])/\CDivL n m/\Q (.int (n % m)) (upd H a (.lst [.int (n / m)]))
def qe1 (n:Int):MSlot:= .ow (.lst [.at (.int n)])
def wTake (i:Nat) (a:W):W:=fun ε Q=>a ε fun x ε1=>∃ n k,x = .at (.int k)/\ε1[i]?=some (qe1 n)/\CDivL n k/\Q (.at (.int (n % k))) (ε1.set i (qe1 (n / k)))
theorem RD.strm_at {S:List Addr} {Hs0 H0 Hs H:Hp} {σ:St} {ε:ME} {i:Nat} {n:Int} (r:RD S Hs0 H0 Hs H σ ε) (h:ε[i]?=some (qe1 n)):∃ a,σ[i]?=some (some (.ref a))/\H a=some (.lst [.int n])/\Hs a=none/\(H0 a=none ∨ a ∈ S):=by
 obtain ⟨a,ha,n0,n1,vs,hv,rv⟩:=r.ow i _ h
 obtain ⟨v,w,rfl,p1,p2⟩:=reps_cons.mp rv
 cases reps_nil.mp p2
 cases rep_at.mp p1
 exact ⟨a,ha,hv,n1,n0⟩
def qug (i:Nat):ME->Prop:=fun ε=>∃ n,ε[i]?=some (qe1 n)
def wTk (i:Nat) (a:W):W:=fun ε Q=>qug i ε/\wTake i a ε Q
instance {i:Nat} {te:TE} {a:W} {E:XK} [sa:SemW te a]:SemW (qgg qha [] E (qc6 (qiu i) (qc6 te qiv))) (wTk i a) where
 h:=fun h _ _ _ _ _ _ rd _ k=>by
  obtain ⟨⟨n0,hn0⟩,h⟩:=h
  obtain ⟨p,hp,_⟩:=rd.strm_at hn0
  refine ⟨_,hp,sa.h h rd fun x ε1 v Hs1 H1 h1 rd1 g1 r1=>?_⟩
  obtain ⟨n,m,rfl,hn,hc,h2⟩:=h1
  obtain ⟨p',hp',hH,hs,_⟩:=rd1.strm_at hn
  rw [hp] at hp'
  injection hp' with hp';injection hp' with hp';injection hp' with hp'
  subst hp'
  cases rep_at.mp r1
  exact ⟨p,n,m,rfl,hH,hc,k _ _ _ _ _ h2 (rd1.change hn hp ⟨_,qan,.one (rep_at.mpr rfl)⟩) g1 (rep_at.mpr rfl)⟩
end Mi
namespace Mi
open PySem L2
structure ExtD (p:Addr) (Hs H Hs' H':Hp):Prop where
 s1:Same Hs Hs'
 s2:∀ b o,H b=some o->b ≠ p->H' b=some o
 s3:Same Hs' H'
 s4:∀ b,H b ≠ none->Hs b=none->Hs' b=none
def spD (pre:List PV->Prop) (R:List PV->PV->Prop):Sp:=fun vs H Q _=>∃ Hs a n xs ws,vs = .ref a::ws/\Same Hs H/\Hs a=none/\H a=some (.lst [.int n])/\Reps Hs xs ws/\pre xs /\
 ∀ y v n' Hs' H',R xs y->ExtD a Hs H Hs' H'->Hs' a=none->H' a=some (.lst [.int n'])->Rep Hs' y v->Q v H'
section
variable {S:List Addr} {Hs0 H0 Hs H Hs' H':Hp} {σ:St} {ε:ME}
theorem RD.drawn (r:RD S Hs0 H0 Hs H σ ε) {i:Nat} {n n':Int} {p:Addr} (hi:ε[i]?=some (qe1 n)) (hp:σ[i]?=some (some (.ref p))) (x:ExtD p Hs H Hs' H') (np:Hs' p=none) (ep:H' p=some (.lst [.int n'])) :
  RD S Hs0 H0 Hs' H' σ (ε.set i (qe1 n')):=by
 obtain ⟨p',hp',hH,hs,h0⟩:=r.strm_at hi
 rw [hp] at hp'
 injection hp' with hp';injection hp' with hp';injection hp' with hp'
 subst hp'
 have up:∀ (j:Nat) (z:PV),(ε.set i (qe1 n'))[j]?=some (.ow z)->(j=i/\z = .lst [.at (.int n')]) ∨ (j ≠ i/\ε[j]?=some (.ow z)):=fun j z q=>by
  rw [List.getElem?_set] at q
  split at q
  ·rename_i hij
   split at q
   ·injection q with q
    unfold qe1 at q
    injection q with q
    exact .inl ⟨hij.symm,q.symm⟩
   ·cases q
  ·rename_i hij;exact .inr ⟨Ne.symm hij,q⟩
 have wasOw:∀ (j:Nat) (z:PV),(ε.set i (qe1 n'))[j]?=some (.ow z)->∃ z',ε[j]?=some (.ow z'):=fun j z q=>by
  rcases up j z q with ⟨rfl,_⟩ | ⟨_,q⟩
  ·exact ⟨_,hi⟩
  ·exact ⟨z,q⟩
 refine ⟨r.s1.trans x.s1,fun b o e hS=>x.s2 b o (r.s2 b o e hS) fun z=>?_,x.s3,fun b h z=>x.s4 b (r.there h) (r.s4 b h z),fun j z q=>?_,fun j z q=>?_,fun j k z z' c h1 h2 h3 h4=>?_,by rw [List.length_set,r.len],r.pin,fun b hS=>?_,fun b hS=>?_,ql7 r.nb fun _ z=>by unfold qe1 at z;cases z⟩
 ·rcases h0 with h0 | h0
  ·rw [z,h0] at e;cases e
  ·exact hS (z ▸ h0)
 ·rw [List.getElem?_set] at q
  split at q
  ·split at q
   ·unfold qe1 at q;cases q
   ·cases q
  ·obtain ⟨v,h1,h2⟩:=r.sh j z q
   exact ⟨v,h1,h2.mono x.s1⟩
 ·rcases up j z q with ⟨rfl,rfl⟩ | ⟨hij,q⟩
  ·exact ⟨p,hp,h0,np,_,ep,.one (rep_at.mpr rfl)⟩
  ·obtain ⟨c,hc,m0,m1,tc⟩:=r.ow j z q
   have hne:c ≠ p:=fun e=>hij (r.nd j i z _ p q hi (e ▸ hc) hp)
   exact ⟨c,hc,m0,x.s4 c tc.there m1,tc.mono x.s1 fun o e=>x.s2 c o e hne⟩
 ·obtain ⟨w1,q1⟩:=wasOw j z h1
  obtain ⟨w2,q2⟩:=wasOw k z' h2
  exact r.nd j k w1 w2 c q1 q2 h3 h4
 ·by_cases hb:b=p
  ·rw [hb,ep];exact fun z=>nomatch z
  ·have:=r.live b hS
   cases q:H b with
   | none=>exact absurd q this
   | some o=>rw [x.s2 b o q hb];exact fun z=>nomatch z
 ·obtain ⟨y',hy⟩:=r.str b hS
  rw [List.getElem?_set]
  split
  ·rename_i h0
   rw [if_pos (by rw [h0];exact (List.getElem?_eq_some_iff.mp hy).1)]
   exact ⟨_,rfl⟩
  ·exact ⟨y',hy⟩
end
def quh (i:Nat) (pre:List PV->Prop) (R:List PV->PV->Prop) (as:WA):W:=fun ε Q=>qug i ε/\as ε fun xs ε1=>qug i ε1/\pre xs/\∀ y n',R xs y->Q y (ε1.set i (qe1 n'))
instance {i:Nat} {pre:List PV->Prop} {R:List PV->PV->Prop} {ta:TA} {as:WA} {E:XK} [sa:qra ta as]:SemW (qgg (spD pre R) [] E (qc6 (qiu i) ta)) (quh i pre R as) where
 h:=fun h _ _ _ _ _ _ rd _ k=>by
  obtain ⟨⟨n0,hn0⟩,h⟩:=h
  obtain ⟨p,hp,_⟩:=rd.strm_at hn0
  refine ⟨_,hp,sa.h h rd fun xs ε1 vs Hs1 H1 h1 rd1 g1 r1=>?_⟩
  obtain ⟨⟨n,hn⟩,hpre,h2⟩:=h1
  obtain ⟨p',hp',hH,hs,_⟩:=rd1.strm_at hn
  rw [hp] at hp'
  injection hp' with hp';injection hp' with hp';injection hp' with hp'
  subst hp'
  refine ⟨Hs1,p,n,xs,vs,by rw [List.append_nil],rd1.s3,hs,hH,r1,hpre,fun y v n' Hs' H' hR x np ep rv=>?_⟩
  exact k y _ v Hs' H' (h2 y n' hR) (rd1.drawn hn hp x np ep) (g1.trans x.s1) rv
def qir:WS:=fun ε N _=>N ε
def wSeq (a b:WS):WS:=fun ε N R=>a ε (fun ε1=>b ε1 N R) R
def qis (i:Nat) (a:W):WS:=fun ε N _=>a ε fun x ε1=>N (ε1.set i (.sh x))
def que (i:Nat) (f:M):WS:=fun ε N _=>∃ x,f ε=some x/\N (ε.set i (.ow x))
def qpx (a:W):WS:=fun ε _ R=>a ε R
def wDrop (a:W):WS:=fun ε N _=>a ε fun _ ε1=>N ε1
def qrg (c:WT) (a b:WS):WS:=fun ε N R=>c ε fun k ε1=>if k=true then a ε1 N R else b ε1 N R
def wFz (i:Nat) (a:WS):WS:=fun ε N R=>a (fz i ε) N R
def qjj (i:Nat) (a:W):WS:=fun ε N _=>(∃ xs,ε[i]?=some (.ow (.lst xs)))/\a ε fun x ε1=>∃ xs,ε1[i]?=some (.ow (.lst xs))/\xs.length<=lim/\N (ε1.set i (.ow (.lst (xs++[x]))))
instance:SemWS tNext qir where
 h:=fun h _ _ _ _ _ _ rd _ k _=>k _ _ _ _ h rd (.refl _)
instance {t u:TS} {a b:WS} [sa:SemWS t a] [sb:SemWS u b]:SemWS (tSeq t u) (wSeq a b) where
 h:=fun h _ _ _ _ _ _ rd _ k r=>sa.h h rd (fun ε1 σ1 Hs1 H1 h1 rd1 g1=>sb.h h1 rd1 (fun ε2 σ2 Hs2 H2 h2 rd2 g2=>k ε2 σ2 Hs2 H2 h2 rd2 (g1.trans g2)) fun y ε2 σ2 v Hs2 H2 h2 rd2 g2 rv=>r y ε2 σ2 v Hs2 H2 h2 rd2 (g1.trans g2) rv) r
instance {i:Nat} {te:TE} {a:W} [sa:SemW te a]:SemWS (qrj te (qez (i + 1))) (qis (i + 1) a) where
 h:=fun h _ _ _ _ _ _ rd _ k _=>sa.h h rd fun x ε1 v Hs1 H1 h1 rd1 g1 r1=>k _ _ _ _ h1 (rd1.put r1) g1
instance {i:Nat} {te:TE} {f:M} [sa:qn2 te f]:SemWS (qrj te (qez (i + 1))) (que (i + 1) f) where
 h:=fun ⟨x,e,h⟩ _ _ _ _ _ _ rd _ k _=>sa.h e rd.rs fun a Hs1 H1 x1 n n' t=>k _ _ _ _ h ((rd.go x1).putO (.inl (rd.free0 n)) n' t fun j y hj z=>by
  obtain ⟨b,hb,_,_,tb⟩:=rd.ow j y hj
  rw [z] at hb
  injection hb with hb;injection hb with hb;injection hb with hb
  subst hb
  exact tb.there n) x1.s1
instance {te:TE} {a:W} [sa:SemW te a]:SemWS (tRet te) (qpx a) where
 h:=fun h _ _ _ _ _ _ rd _ _ r=>sa.h h rd fun x ε1 v Hs1 H1 h1 rd1 g1 r1=>r x ε1 _ v Hs1 H1 h1 rd1 g1 r1
instance {te:TE} {a:W} [sa:SemW te a]:SemWS (qiw te) (wDrop a) where
 h:=fun h _ _ _ _ _ _ rd _ k _=>sa.h h rd fun x ε1 v Hs1 H1 h1 rd1 g1 r1=>k ε1 _ Hs1 H1 h1 rd1 g1
instance {t:TT} {ta tb:TS} {c:WT} {a b:WS} [sc:qn1 t c] [sa:SemWS ta a] [sb:SemWS tb b]:SemWS (tIfS t ta tb) (qrg c a b) where
 h:=fun h _ _ _ _ _ _ rd _ k r=>sc.h h rd fun c ε1 Hs1 H1 h1 rd1 g1=>by
  cases c with
  | true=>exact qr2 (sa.h (by simpa using h1) rd1 (fun ε2 σ2 Hs2 H2 h2 rd2 g2=>k ε2 σ2 Hs2 H2 h2 rd2 (g1.trans g2)) fun y ε2 σ2 v Hs2 H2 h2 rd2 g2 rv=>r y ε2 σ2 v Hs2 H2 h2 rd2 (g1.trans g2) rv)
  | false=>exact qr3 (sb.h (by simpa using h1) rd1 (fun ε2 σ2 Hs2 H2 h2 rd2 g2=>k ε2 σ2 Hs2 H2 h2 rd2 (g1.trans g2)) fun y ε2 σ2 v Hs2 H2 h2 rd2 g2 rv=>r y ε2 σ2 v Hs2 H2 h2 rd2 (g1.trans g2) rv)
instance {i:Nat} {t:TS} {a:WS} [sa:SemWS t a]:SemWS t (wFz (i + 1) a) where
 h:=fun h _ _ _ _ _ _ rd _ k r=>by
  obtain ⟨Hs',g,rd'⟩:=rd.freeze i
  exact sa.h h rd' (fun ε2 σ2 Hs2 H2 h2 rd2 g2=>k ε2 σ2 Hs2 H2 h2 rd2 (g.trans g2)) fun y ε2 σ2 v Hs2 H2 h2 rd2 g2 rv=>r y ε2 σ2 v Hs2 H2 h2 rd2 (g.trans g2) rv
instance {K:PySem.W.Frag} {i:Nat} {te:TE} {a:W} [sa:SemW te a]:SemWS (qiw (tBM K "list" qfp (qiu i) (qc6 te qiv))) (qjj i a) where
 h:=fun h _ _ _ _ _ _ rd _ k _=>by
  obtain ⟨⟨xs0,hx0⟩,h⟩:=h
  obtain ⟨p,hp,n0,n,vs,hv,rv⟩:=rd.ow i _ hx0
  refine ⟨_,hp,.inl ⟨rfl,vs,SqL.of hv⟩,sa.h h rd fun x ε1 v Hs1 H1 h1 rd1 g1 r1=>?_⟩
  obtain ⟨xs,hx,hl,h2⟩:=h1
  obtain ⟨p',hp',_,n1,ws,hw,rw⟩:=rd1.ow i _ hx
  rw [hp] at hp'
  injection hp' with hp';injection hp' with hp';injection hp' with hp'
  subst hp'
  exact ⟨p,ws,v,rfl,rfl,hw,qoy (by rw [rw.length];exact hl),k _ _ _ _ h2 (rd1.change hx hp ⟨_,qan,rw.append (.one r1)⟩) g1⟩
def wPop (i:Nat) (a:W):W:=fun ε Q=>(∃ xs,ε[i]?=some (.ow (.lst xs)))/\a ε fun x ε1=>∃ xs k y,ε1[i]?=some (.ow (.lst xs))/\x = .at (.int k)/\0<=k/\k < xs.length/\xs.length<=lim/\xs[k.toNat]?=some y/\Q y (ε1.set i (.ow (.lst (xs.eraseIdx k.toNat))))
theorem Reps.eraseIdx {H:Hp}:∀ (i:Nat) {xs:List PV} {vs:List V},Reps H xs vs->Reps H (xs.eraseIdx i) (vs.eraseIdx i)
 | i,[],vs,h=>by rw [reps_nil.mp h];exact .nil
 | 0,x::xs,vs,h=>by obtain ⟨v,r,rfl,p,q⟩:=reps_cons.mp h;exact q
 | i + 1,x::xs,vs,h=>by obtain ⟨v,r,rfl,p,q⟩:=reps_cons.mp h;exact .cons p (Reps.eraseIdx i q)
instance {K:PySem.W.Frag} {i:Nat} {te:TE} {a:W} [sa:SemW te a]:SemW (tBM K "list" rPopAt (qiu i) (qc6 te qiv)) (wPop i a) where
 h:=fun h _ _ _ _ _ _ rd _ k=>by
  obtain ⟨⟨xs0,hx0⟩,h⟩:=h
  obtain ⟨p,hp,n0,n,vs,hv,rv⟩:=rd.ow i _ hx0
  refine ⟨_,hp,.inl ⟨rfl,vs,SqL.of hv⟩,sa.h h rd fun x ε1 v Hs1 H1 h1 rd1 g1 r1=>?_⟩
  obtain ⟨xs,j,y,hx,rfl,j0,j1,hl,hy,h2⟩:=h1
  obtain ⟨p',hp',_,n1,ws,hw,rw⟩:=rd1.ow i _ hx
  rw [hp] at hp'
  injection hp' with hp';injection hp' with hp';injection hp' with hp'
  subst hp'
  cases rep_at.mp r1
  obtain ⟨u,hu,ru⟩:=rw.get hy
  have hlim:lim=1000000:=rfl
  refine ⟨p,ws,j,j.toNat,u,rfl,rfl,hw,by omega,by omega,?_,hu,k _ _ _ _ _ h2 (rd1.change hx hp ⟨_,qan,rw.eraseIdx j.toNat⟩) g1 ru⟩
  unfold seqIndex?
  have e1:(if j < 0 then j + (ws.length:Int) else j)=j:=if_neg (by omega)
  simp only [e1]
  rw [if_pos]
  rw [rw.length]
  simp only [Bool.and_eq_true,decide_eq_true_eq]
  exact ⟨j0,j1⟩
class SemWI (ti:TI) (w:WA):Prop where
 h:∀ {ε Q'},w ε Q'->∀ {S Hs0 H0 Hs H σ},RD S Hs0 H0 Hs H σ ε->∀ {R:It->Hp->Prop},(∀ xs ε' J Hs' H',Q' xs ε'->RD S Hs0 H0 Hs' H' σ ε'->Same Hs Hs'->ItOk J xs Hs'->R J H')->ti σ H R
def wIp (f:MA):WA:=fun ε Q=>∃ xs,f ε=some xs/\Q xs ε
instance (priority:=50) {ti:TI} {f:MA} [s:SemI ti f]:SemWI ti (wIp f) where
 h:=fun ⟨xs,e,q⟩ _ _ _ _ _ _ r _ k=>s.h e r.rs fun J Hs' H' x ok=>k xs _ J Hs' H' q (r.go x) x.s1 ok
def wRng1 (a:W):WA:=fun ε Q=>a ε fun x ε1=>∃ j:Int,x = .at (.int j)/\-(lim:Int)<=j/\j<=lim/\Q (qn5 0 j.toNat) ε1
instance {te:TE} {a:W} [sa:SemW te a]:SemWI (iRng1 (qc6 te qiv)) (wRng1 a) where
 h:=fun h _ _ _ _ _ _ rd _ k=>sa.h h rd fun x ε1 v Hs1 H1 h1 rd1 g1 r1=>by
  obtain ⟨j,rfl,h2,h3,h4⟩:=h1
  cases rep_at.mp r1
  have hlim:(lim:Int)=1000000:=rfl
  exact ⟨j,rfl,by omega,by omega,k _ ε1 _ Hs1 H1 h4 rd1 g1 itr_ok⟩
class SemWG (tg:TG) (g:MG):Prop where
 h:∀ {x ε ε'},g x ε=some ε'->∀ {S Hs0 H0 Hs H σ v},RD S Hs0 H0 Hs H σ ε->Rep Hs x v->∀ {Q:St->Hp->Prop},(∀ σ',RD S Hs0 H0 Hs H σ' ε'->Q σ' H)->tg v σ H Q
instance {i:Nat}:SemWG (qez (i + 1)) (qa4 (i + 1)) where
 h:=fun e _ _ _ _ _ _ _ rd r _ q=>by cases e;exact q _ (rd.put r)
def quf (g:MG) (f:WS):List PV->WS
 | []=>fun ε N _=>N ε
 | x::xs=>fun ε N R=>∃ ε1,g x ε=some ε1/\f ε1 (fun ε2=>quf g f xs ε2 N R) R
def wFor (it:WA) (g:MG) (f:WS):WS:=fun ε N R=>it ε fun xs ε1=>quf g f xs ε1 N R
theorem RD.rebase {S:List Addr} {Hs0 H0 Hs H:Hp} {σ:St} {ε:ME} (r:RD S Hs0 H0 Hs H σ ε):RD S Hs H0 Hs H σ ε :=
 ⟨.refl _,r.s2,r.s3,fun _ _ z=>z,r.sh,r.ow,r.nd,r.len,r.pin,r.live,r.str,r.nb⟩
theorem RD.unbase {S:List Addr} {Hs0 H0 Hb Hx Hs H:Hp} {σ σ':St} {ε ε':ME} (b:RD S Hs0 H0 Hb Hx σ ε) (r:RD S Hb H0 Hs H σ' ε'):RD S Hs0 H0 Hs H σ' ε' :=
 ⟨b.s1.trans r.s1,r.s2,r.s3,fun c h z=>r.s4 c h (b.s4 c h z),r.sh,r.ow,r.nd,r.len,r.pin,r.live,r.str,r.nb⟩
instance {wi:TI} {tg:TG} {tb:TS} {it:WA} {g:MG} {f:WS} [si:SemWI wi it] [sg:SemWG tg g] [sf:SemWS tb f]:SemWS (tFor wi tg tb) (wFor it g f) where
 h:=fun {ε N R} h S Hs0 H0 _ _ _ rd D k rt=>si.h h rd fun xs ε1 J Hs1 H1 h1 rd1 g1 ok=>by
  refine ⟨fun n m σ H=>m=xs.length - n/\n<=xs.length/\∃ Hs ε,RD S Hs1 H0 Hs H σ ε/\quf g f (xs.drop n) ε N R,⟨xs.length,by simp,Nat.zero_le _,Hs1,ε1,rd1.rebase,h1⟩,?_⟩
  rintro n m σ H ⟨rfl,hn,Hs,ε2,r2,h2⟩
  by_cases hlt:n < xs.length
  ·have hd:xs.drop n=xs[n]::xs.drop (n + 1):=List.drop_eq_getElem_cons hlt
   rw [hd] at h2
   obtain ⟨ε3,e3,h3⟩:=h2
   obtain ⟨go,yl⟩:=ok.go n xs[n] Hs H (by simp [hlt]) r2.s1 r2.s3
   refine .inr ⟨go,fun σ' H'=>n + 1<=xs.length/\∃ Hs ε,RD S Hs1 H0 Hs H' σ' ε/\quf g f (xs.drop (n + 1)) ε N R,fun σ' H' p=>⟨xs.length - (n + 1),by omega,rfl,p.1,p.2⟩,fun v H3 y=>?_⟩
   obtain ⟨Hs3,x3,r3⟩:=yl v H3 y
   refine sg.h e3 (r2.go x3) r3 fun σ4 rd4=>sf.h h3 rd4 (fun ε5 σ5 Hs5 H5 h5 rd5 g5=>⟨hlt,Hs5,ε5,rd5,h5⟩) fun y ε5 σ5 v Hs5 H5 h5 rd5 g5 rv=>rt y ε5 σ5 v Hs5 H5 h5 (rd1.unbase rd5) (g1.trans rd5.s1) rv
  ·have en:n=xs.length:=by omega
   subst en
   rw [List.drop_length] at h2
   exact .inl ⟨ok.stop Hs H r2.s1 r2.s3,k _ _ _ _ h2 (rd1.unbase r2) (g1.trans r2.s1)⟩
end Mi
namespace Mi
open PySem L2
def unc:List (Option Nat)->ME->ME->ME
 | some i::cap,s::ε2,ε1=>(unc cap ε2 ε1).set i s
 | none::cap,_::ε2,ε1=>unc cap ε2 ε1
 | _,_,ε1=>ε1
theorem qej:∀ (cap:List (Option Nat)) (ε2 ε1:ME),(unc cap ε2 ε1).length=ε1.length
 | some i::cap,s::ε2,ε1=>by unfold unc;rw [List.length_set,qej]
 | none::cap,_::ε2,ε1=>by unfold unc;exact qej cap ε2 ε1
 | [],_,_=>rfl
 | some _::_,[],_=>rfl
 | none::_,[],_=>rfl
theorem qp0:∀ (cap:List (Option Nat)) (ε2 ε1:ME) (i:Nat),some i ∉ cap->(unc cap ε2 ε1)[i]?=ε1[i]?
 | some k::cap,s::ε2,ε1,i,h=>by
  unfold unc
  rw [List.getElem?_set_ne (fun z=>h (by rw [z];exact List.mem_cons_self))]
  exact qp0 cap ε2 ε1 i fun z=>h (List.mem_cons_of_mem _ z)
 | none::cap,_::ε2,ε1,i,h=>by unfold unc;exact qp0 cap ε2 ε1 i fun z=>h (List.mem_cons_of_mem _ z)
 | [],_,_,_,_=>rfl
 | some _::_,[],_,_,_=>rfl
 | none::_,[],_,_,_=>rfl
theorem quq:∀ (cap:List (Option Nat)) (ε2 ε1:ME) (i:Nat),cap.length=ε2.length->some i ∈ cap->i < ε1.length->(cap.filterMap id).Nodup->∃ j:Nat,cap[j]?=some (some i)/\(unc cap ε2 ε1)[i]?=ε2[j]?
 | some k::cap,s::ε2,ε1,i,hl,h,hi,nd=>by
  rw [List.filterMap_cons_some (by rfl)] at nd
  by_cases e:k=i
  ·subst e
   refine ⟨0,rfl,?_⟩
   unfold unc
   rw [List.getElem?_set_self (by rw [qej];exact hi)]
   rfl
  ·obtain ⟨j,h1,h2⟩:=quq cap ε2 ε1 i (by simpa using hl) (by rcases List.mem_cons.mp h with z | z;exact absurd (Option.some.inj z).symm e;exact z) hi (List.nodup_cons.mp nd).2
   refine ⟨j + 1,by simpa using h1,?_⟩
   unfold unc
   rw [List.getElem?_set_ne e]
   simpa using h2
 | none::cap,s::ε2,ε1,i,hl,h,hi,nd=>by
  rw [List.filterMap_cons_none (by rfl)] at nd
  obtain ⟨j,h1,h2⟩:=quq cap ε2 ε1 i (by simpa using hl) (by rcases List.mem_cons.mp h with z | z;exact nomatch z;exact z) hi nd
  exact ⟨j + 1,by simpa using h1,by unfold unc;simpa using h2⟩
 | [],_,_,_,_,h,_,_=>nomatch h
 | some _::_,[],_,_,hl,_,_,_=>by simp at hl
 | none::_,[],_,_,hl,_,_,_=>by simp at hl
def rst:List Nat->ME->ME
 | [],ε=>ε
 | t::ts,ε=>(rst ts ε).set t .no
theorem qly:∀ (ts:List Nat) (ε:ME),(rst ts ε).length=ε.length
 | [],_=>rfl
 | t::ts,ε=>by unfold rst;rw [List.length_set,qly]
theorem qvc:∀ (ts:List Nat) (ε:ME) (i:Nat) (s:MSlot),(rst ts ε)[i]?=some s->s = .no ∨ (i ∉ ts/\ε[i]?=some s)
 | [],_,_,_,h=> .inr ⟨List.not_mem_nil,h⟩
 | t::ts,ε,i,s,h=>by
  unfold rst at h
  rw [List.getElem?_set] at h
  split at h
  ·split at h
   ·cases h;exact .inl rfl
   ·cases h
  ·rename_i hne
   rcases qvc ts ε i s h with z | ⟨z1,z2⟩
   ·exact .inl z
   ·exact .inr ⟨fun m=>by rcases List.mem_cons.mp m with m | m;exact hne m.symm;exact z1 m,z2⟩
theorem RD.reset {Hs0 H0 Hs H:Hp} {σ σ':St} {ε:ME} {ts:List Nat} (r:RD [] Hs0 H0 Hs H σ' ε) (b:But ts σ σ'):RD [] Hs0 H0 Hs H σ (rst ts ε):=by
 have at1:∀ (i:Nat) (s:MSlot),(rst ts ε)[i]?=some s->s = .no ∨ (σ'[i]?=σ[i]?/\ε[i]?=some s):=fun i s h=>by
  rcases qvc ts ε i s h with z | ⟨z1,z2⟩
  ·exact .inl z
  ·exact .inr ⟨b.2 i z1,z2⟩
 refine ⟨r.s1,r.s2,r.s3,r.s4,fun i x h=>?_,fun i x h=>?_,fun i j x y a h1 h2 h3 h4=>?_,by rw [qly,<- r.len,b.1],(fun _ z=>nomatch z),(fun _ z=>nomatch z),(fun _ z=>nomatch z),fun i x h=>by
  rcases at1 i _ h with z | ⟨_,z2⟩
  ·cases z
  ·exact r.nb i x z2⟩
 ·rcases at1 i _ h with z | ⟨z1,z2⟩
  ·cases z
  ·rw [<- z1];exact r.sh i x z2
 ·rcases at1 i _ h with z | ⟨z1,z2⟩
  ·cases z
  ·rw [<- z1];exact r.ow i x z2
 ·rcases at1 i _ h1 with z | ⟨z1,z2⟩
  ·cases z
  ·rcases at1 j _ h2 with w | ⟨w1,w2⟩
   ·cases w
   ·exact r.nd i j x y a z2 w2 (z1.trans h3) (w1.trans h4)
class SemWC (tg:TG) (ts:outParam (List Nat)) (g:MG):Prop where
 h:∀ {x ε ε'},g x ε=some ε'->∀ {Hs0 H0 Hs H σ v},RD [] Hs0 H0 Hs H σ ε->Rep Hs x v->∀ {Q:St->Hp->Prop},(∀ σ',RD [] Hs0 H0 Hs H σ' ε'->But ts σ σ'->Q σ' H)->tg v σ H Q
theorem RD.put0 {Hs0 H0 Hs H:Hp} {σ:St} {ε:ME} (r:RD [] Hs0 H0 Hs H σ ε) {i:Nat} {x:PV} {v:V} (h:Rep Hs x v):RD [] Hs0 H0 Hs H (σ.set i (some v)) (ε.set i (.sh x)):=by
 have q:=(r.rs).put (i:=i) h
 refine ⟨r.s1,r.s2,r.s3,r.s4,q.sh,fun j z hz=>?_,q.nd,q.len,(fun _ z=>nomatch z),(fun _ z=>nomatch z),(fun _ z=>nomatch z),ql7 r.nb fun _ z=>nomatch z⟩
 obtain ⟨c,hc,m1,m2,tc⟩:=q.ow j z hz
 refine ⟨c,hc,?_,m2,tc⟩
 rw [List.getElem?_set] at hz hc
 split at hz
 ·split at hz <;> cases hz
 ·rename_i hij
  rw [if_neg hij] at hc
  obtain ⟨d,hd,m0,_⟩:=r.ow j z hz
  rw [hd] at hc
  injection hc with hc;injection hc with hc;injection hc with hc
  rw [<- hc];exact m0
instance {i:Nat}:SemWC (qez i) [i] (qa4 i) where
 h:=fun e _ _ _ _ _ _ rd r _ q=>by
  cases e
  exact q _ (rd.put0 r) ⟨List.length_set,fun j hj=>List.getElem?_set_ne fun z=>hj (by rw [<- z];exact List.mem_singleton.mpr rfl)⟩
def qig (g:MG) (c:WT) (f:W) (ts:List Nat):List PV->List PV->ME->(List PV->ME->Prop)->Prop
 | [],ys,ε,Q=>Q ys ε
 | x::xs,ys,ε,Q=>∃ ε1,g x ε=some ε1/\c ε1 fun b ε2=>if b=true then f ε2 fun y ε3=>qig g c f ts xs (ys++[y]) (rst ts ε3) Q else qig g c f ts xs ys (rst ts ε2) Q
def wYes:WT:=fun ε Q=>Q true ε
instance:qn1 tYes wYes where
 h:=fun h _ _ _ _ _ _ rd _ k=>k true _ _ _ h rd (.refl _)
def wComp (cap:List (Option Nat)) (ts:List Nat) (it:WA) (g:MG) (c:WT) (f:W):W:=fun ε Q=>it ε fun xs ε1=>capB cap ts=true/\xs.length<=lim /\
 qig g c f ts xs [] (qib cap ε1) fun ys ε2=>((∃ y:PV,ε1[0]?=some (MSlot.ow y))->∃ y:PV,(unc cap ε2 ε1)[0]?=some (MSlot.ow y))/\Q (.lst ys) (unc cap ε2 ε1)
noncomputable def qtk (σ:St) (ε:ME) (H:Hp):Hp:=fun b=>open Classical in if ∃ (i:Nat) (x:PV),ε[i]?=some (MSlot.ow x)/\σ[i]?=some (some (V.ref b)) then none else H b
theorem qqn {σ:St} {ε:ME} {H:Hp} {b:Addr} {o:HO} (h:qtk σ ε H b=some o):H b=some o/\∀ (i:Nat) (x:PV),ε[i]?=some (MSlot.ow x)->σ[i]? ≠ some (some (V.ref b)):=by
 unfold qtk at h
 split at h
 ·cases h
 ·rename_i hn
  exact ⟨h,fun i x h1 h2=>hn ⟨i,x,h1,h2⟩⟩
theorem qoz {σ:St} {ε:ME} {H:Hp} {b:Addr} (h:qtk σ ε H b=none):H b=none ∨ ∃ (i:Nat) (x:PV),ε[i]?=some (MSlot.ow x)/\σ[i]?=some (some (V.ref b)):=by
 unfold qtk at h
 split at h
 ·rename_i hn;exact .inr hn
 ·exact .inl h
theorem capM_nb {cap:List (Option Nat)} {ε:ME} (nb:∀ (i:Nat) (x:PV),ε[i]? ≠ some (.bo x)):∀ (i:Nat) (x:PV),(qib cap ε)[i]? ≠ some (.bo x):=fun i x h=>by
 unfold qib at h
 rw [List.getElem?_map] at h
 cases ho:cap[i]? with
 | none=>rw [ho] at h;cases h
 | some o =>
  rw [ho] at h
  cases o with
  | none=>cases h
  | some k =>
   cases hk:ε[k]? with
   | none=>simp only [Option.map_some,hk,Option.getD_none] at h;cases h
   | some s=>simp only [Option.map_some,hk,Option.getD_some] at h;cases h;exact nb k x hk
theorem RD.block {S:List Addr} {Hs0 H0 Hs H:Hp} {σ:St} {ε:ME} {cap:List (Option Nat)} (hc:(cap.filterMap id).Nodup) (r:RD S Hs0 H0 Hs H σ ε):RD [] Hs (qtk (qei cap σ) (qib cap ε) H) Hs H (qei cap σ) (qib cap ε):=by
 have q:=(r.rs).cap hc
 refine ⟨.refl _,fun b o e _=>(qqn e).1,r.s3,fun _ _ z=>z,q.sh,fun i x h=>?_,q.nd,q.len,(fun _ z=>nomatch z),(fun _ z=>nomatch z),(fun _ z=>nomatch z),capM_nb r.nb⟩
 obtain ⟨a,h1,h2,h3,h4⟩:=q.ow i x h
 refine ⟨a,h1,.inl ?_,h3,h4⟩
 unfold qtk
 rw [if_pos ⟨i,x,h,h1⟩]
theorem qin {cap:List (Option Nat)} {σ:St} {i k:Nat} {v:V} (h:cap[i]?=some (some k)) (e:(qei cap σ)[i]?=some (some v)):σ[k]?=some (some v):=by
 unfold qei at e
 rw [List.getElem?_map,h] at e
 simp only [Option.map_some,Option.bind_some,Option.some.injEq] at e
 cases hs:σ[k]? with
 | none=>rw [hs] at e;cases e
 | some o=>rw [hs] at e;simp at e;rw [e]
theorem qxj {cap:List (Option Nat)} {ε:ME} {i:Nat} {x:PV} (h:(qib cap ε)[i]?=some (.ow x)):∃ k:Nat,cap[i]?=some (some k)/\ε[k]?=some (.ow x):=by
 unfold qib at h
 rw [List.getElem?_map] at h
 cases ho:cap[i]? with
 | none=>rw [ho] at h;cases h
 | some o =>
  rw [ho] at h
  cases o with
  | none=>cases h
  | some k =>
   cases hk:ε[k]? with
   | none=>simp only [Option.map_some,hk,Option.getD_none] at h;cases h
   | some s=>simp only [Option.map_some,hk,Option.getD_some] at h;cases h;exact ⟨k,rfl,hk⟩
theorem RD.unblock {S:List Addr} {Hs0 H0 Hs1 H1 Hs2 H2:Hp} {σ:St} {ε1 ε2:ME} {cap:List (Option Nat)} (hc:(cap.filterMap id).Nodup) (r:RD S Hs0 H0 Hs1 H1 σ ε1)
  (q:RD [] Hs1 (qtk (qei cap σ) (qib cap ε1) H1) Hs2 H2 (qei cap σ) ε2) (st:(∃ y,ε1[0]?=some (.ow y))->∃ y,(unc cap ε2 ε1)[0]?=some (.ow y)):RD S Hs0 H0 Hs2 H2 σ (unc cap ε2 ε1):=by
 have hl:cap.length=ε2.length:=by rw [<- q.len];unfold qei;rw [List.length_map]
 have at1:∀ (i:Nat) (s:MSlot),(unc cap ε2 ε1)[i]?=some s->(some i ∉ cap/\ε1[i]?=some s) ∨ ∃ j:Nat,cap[j]?=some (some i)/\ε2[j]?=some s:=fun i s h=>by
  by_cases hi:some i ∈ cap
  ·have hlt:i < ε1.length:=by
    have:=(List.getElem?_eq_some_iff.mp h).1
    rwa [qej] at this
   obtain ⟨j,h1,h2⟩:=quq cap ε2 ε1 i hl hi hlt hc
   exact .inr ⟨j,h1,h2 ▸ h⟩
  ·exact .inl ⟨hi,qp0 cap ε2 ε1 i hi ▸ h⟩
 have own0:∀ a,qtk (qei cap σ) (qib cap ε1) H1 a=none->H0 a=none ∨ a ∈ S:=fun a h=>by
  rcases qoz h with h | ⟨i,x,h1,h2⟩
  ·exact .inl (r.free0 h)
  ·obtain ⟨k,hk,hx⟩:=qxj h1
   obtain ⟨c,hc',m0,_⟩:=r.ow k x hx
   rw [qin hk h2] at hc'
   injection hc' with hc';injection hc' with hc';injection hc' with hc'
   rw [hc'];exact m0
 have keep:∀ (k:Nat) (x:PV) (a:Addr),some k ∉ cap->ε1[k]?=some (.ow x)->σ[k]?=some (some (.ref a))->∀ o,H1 a=some o->qtk (qei cap σ) (qib cap ε1) H1 a=some o:=fun k x a hk hx ha o ho=>by
  cases z:qtk (qei cap σ) (qib cap ε1) H1 a with
  | some u=>rw [<- ho,(qqn z).1]
  | none =>
   rcases qoz z with z | ⟨i,y,h1,h2⟩
   ·rw [z] at ho;cases ho
   ·obtain ⟨m,hm,hy⟩:=qxj h1
    have:=r.nd k m x y a hx hy ha (qin hm h2)
    subst this
    exact absurd (List.mem_of_getElem? hm) hk
 have ow':∀ (i:Nat) (x:PV),(unc cap ε2 ε1)[i]?=some (.ow x)->∃ a,σ[i]?=some (some (.ref a))/\(H0 a=none ∨ a ∈ S)/\Hs2 a=none/\Top Hs2 H2 a x:=fun i x h=>by
  rcases at1 i _ h with ⟨hi,e⟩ | ⟨j,hj,e⟩
  ·obtain ⟨a,ha,m0,m1,t⟩:=r.ow i x e
   refine ⟨a,ha,m0,?_,t.mono q.s1 fun o ho=>q.s2 a o (keep i x a hi e ha o ho) List.not_mem_nil⟩
   cases z:H1 a with
   | none=>exact absurd z t.there
   | some o=>exact q.s4 a (by rw [keep i x a hi e ha o z];exact fun w=>nomatch w) m1
  ·obtain ⟨a,ha,m0,m1,t⟩:=q.ow j x e
   exact ⟨a,qin hj ha,own0 a (m0.resolve_right List.not_mem_nil),m1,t⟩
 have str':∀ a ∈ S,∃ y,(unc cap ε2 ε1)[0]?=some (.ow y):=fun a hS=>st (r.str a hS)
 refine ⟨r.s1.trans q.s1,fun b o e hS=>?_,q.s3,fun b h z=>?_,fun i x h=>?_,ow',fun i j x y a h1 h2 h3 h4=>?_,by rw [qej];exact r.len,r.pin,fun b hS=>?_,str',fun i x h=>by
  rcases at1 i _ h with ⟨_,e⟩ | ⟨j,_,e⟩
  ·exact r.nb i x e
  ·exact q.nb j x e⟩
 ·have e1:=r.s2 b o e hS
  refine q.s2 b o ?_ List.not_mem_nil
  cases z:qtk (qei cap σ) (qib cap ε1) H1 b with
  | some u=>rw [<- e1,(qqn z).1]
  | none =>
   rcases own0 b z with w | w
   ·rw [w] at e;cases e
   ·exact absurd w hS
 ·have z1:=r.s4 b h z
  by_cases hL:qtk (qei cap σ) (qib cap ε1) H1 b=none
  ·rcases own0 b hL with w | w
   ·exact absurd w h
   ·obtain ⟨y,hy⟩:=str' b w
    obtain ⟨a,ha,_,m1,_⟩:=ow' 0 y hy
    rw [r.pin b w] at ha
    injection ha with ha;injection ha with ha;injection ha with ha
    rw [ha];exact m1
  ·exact q.s4 b hL z1
 ·rcases at1 i _ h with ⟨hi,e⟩ | ⟨j,hj,e⟩
  ·obtain ⟨v,hv,rv⟩:=r.sh i x e
   exact ⟨v,hv,rv.mono q.s1⟩
  ·obtain ⟨v,hv,rv⟩:=q.sh j x e
   exact ⟨v,qin hj hv,rv⟩
 ·rcases at1 i _ h1 with ⟨hi,e⟩ | ⟨k,hk,e⟩
  ·rcases at1 j _ h2 with ⟨hj,e'⟩ | ⟨l,hl',e'⟩
   ·exact r.nd i j x y a e e' h3 h4
   ·-- one of the block's own,one that it does not see
    obtain ⟨a',ha',m0,_,_⟩:=q.ow l y e'
    have ea:=qin hl' ha'
    rw [h4] at ea
    injection ea with ea;injection ea with ea;injection ea with ea
    subst ea
    obtain ⟨c,hc1,_,_,t⟩:=r.ow i x e
    rw [h3] at hc1
    injection hc1 with hc1;injection hc1 with hc1;injection hc1 with hc1
    subst hc1
    cases z:H1 a with
    | none=>exact absurd z t.there
    | some o =>
     have w:=keep i x a hi e h3 o z
     rw [m0.resolve_right List.not_mem_nil] at w
     cases w
  ·rcases at1 j _ h2 with ⟨hj,e'⟩ | ⟨l,hl',e'⟩
   ·obtain ⟨a',ha',m0,_,_⟩:=q.ow k x e
    have ea:=qin hk ha'
    rw [h3] at ea
    injection ea with ea;injection ea with ea;injection ea with ea
    subst ea
    obtain ⟨c,hc1,_,_,t⟩:=r.ow j y e'
    rw [h4] at hc1
    injection hc1 with hc1;injection hc1 with hc1;injection hc1 with hc1
    subst hc1
    cases z:H1 a with
    | none=>exact absurd z t.there
    | some o =>
     have w:=keep j y a hj e' h4 o z
     rw [m0.resolve_right List.not_mem_nil] at w
     cases w
   ·obtain ⟨a1,ha1,_⟩:=q.ow k x e
    obtain ⟨a2,ha2,_⟩:=q.ow l y e'
    have e1:=qin hk ha1
    have e2:=qin hl' ha2
    rw [h3] at e1
    rw [h4] at e2
    injection e1 with e1;injection e1 with e1;injection e1 with e1
    injection e2 with e2;injection e2 with e2;injection e2 with e2
    subst e1
    subst e2
    have kl:=q.nd k l x y a e e' ha1 ha2
    subst kl
    rw [hk] at hl'
    injection hl' with hl';injection hl' with hl'
 ·obtain ⟨y,hy⟩:=str' b hS
  obtain ⟨a,ha,_,_,t⟩:=ow' 0 y hy
  rw [r.pin b hS] at ha
  injection ha with ha;injection ha with ha;injection ha with ha
  rw [ha];exact t.there
instance {wi:TI} {tg:TG} {ts:List Nat} {tt:TT} {te:TE} {cap:List (Option Nat)} {it:WA} {g:MG} {c:WT} {f:W} [si:SemWI wi it] [sg:SemWC tg ts g] [sc:qn1 tt c] [sf:SemW te f]:SemW (qp4 wi tg tt te cap) (wComp cap ts it g c f) where
 h:=fun {ε Q'} h S Hs0 H0 Hs H σ rd Q k=>si.h h rd fun xs ε1 J Hs1 H1 h1 rd1 g1 ok=>by
  obtain ⟨hcap,hl,h1⟩:=h1
  unfold capB at hcap
  rw [Bool.and_eq_true] at hcap
  have hnd:=of_decide_eq_true hcap.1
  have wk:∀ i ∈ ts,(qei cap σ)[i]?=some none:=fun i hi=>by
   unfold qei
   rw [List.getElem?_map,of_decide_eq_true (List.all_eq_true.mp hcap.2 i hi)]
   rfl
  refine ⟨fun n m zs H=>m=xs.length - n/\n<=xs.length/\∃ Hs2 ws ε2,RD [] Hs1 (qtk (qei cap σ) (qib cap ε1) H1) Hs2 H (qei cap σ) ε2/\Reps Hs2 ws zs/\ws.length<=n /\
    qig g c f ts (xs.drop n) ws ε2 (fun ys ε3=>((∃ y:PV,ε1[0]?=some (MSlot.ow y))->∃ y:PV,(unc cap ε3 ε1)[0]?=some (MSlot.ow y))/\Q' (PV.lst ys) (unc cap ε3 ε1)),
   ⟨xs.length,by simp,Nat.zero_le _,Hs1,[],_,rd1.block hnd,.nil,Nat.le_refl _,h1⟩,?_⟩
  rintro n m zs H2 ⟨rfl,hn,Hs2,ws,ε2,r2,rz,hw,h2⟩
  refine ⟨qec (by rw [rz.length];omega),?_⟩
  by_cases hlt:n < xs.length
  ·have hd:xs.drop n=xs[n]::xs.drop (n + 1):=List.drop_eq_getElem_cons hlt
   rw [hd] at h2
   obtain ⟨ε3,e3,h3⟩:=h2
   obtain ⟨go,yl⟩:=ok.go n xs[n] Hs2 H2 (by simp [hlt]) r2.s1 r2.s3
   refine .inr ⟨go,fun v H3 y=>?_⟩
   obtain ⟨Hs3,x3,r3⟩:=yl v H3 y
   refine sg.h e3 (r2.go x3) r3 fun σ4 rd4 bt=>⟨bt.wk wk,sc.h h3 rd4 fun b ε5 Hs5 H5 h5 rd5 g5=>?_⟩
   cases b with
   | true =>
    refine qr2 (sf.h (by simpa using h5) rd5 fun y ε6 u Hs6 H6 h6 rd6 g6 ru=>⟨xs.length - (n + 1),by omega,rfl,hlt,Hs6,ws++[y],_,rd6.reset bt,?_,by rw [List.length_append];simp;omega,h6⟩)
    exact (rz.mono (x3.s1.trans (g5.trans g6))).snoc ru
   | false=>exact qr3 ⟨xs.length - (n + 1),by omega,rfl,hlt,Hs5,ws,_,rd5.reset bt,rz.mono (x3.s1.trans g5),by omega,by simpa using h5⟩
  ·have en:n=xs.length:=by omega
   subst en
   rw [List.drop_length] at h2
   refine .inl ⟨ok.stop Hs2 H2 r2.s1 r2.s3,fun D hD=>?_⟩
   have rd2:=rd1.unblock hnd r2 h2.1
   exact k _ _ _ _ _ h2.2 (rd2.go (.new rd2.s3 hD)) (g1.trans (r2.s1.trans (Ext.new rd2.s3 hD).s1)) (rep_lst.mpr ⟨D,zs,rfl,qan,rz.mono (Ext.new rd2.s3 hD).s1⟩)
section
variable {P:Program} {w:World} {K:PySem.W.Frag} {mg:Str->Option Value} {base:Heap}
theorem qgv {xs:List PV} {n i:Nat} {x:PV}:(xs.map MSlot.sh++List.replicate n .no)[i]? ≠ some (.ow x):=fun h=>by
 by_cases hi:i < xs.length
 ·rw [List.getElem?_append_left (by rw [List.length_map];exact hi),List.getElem?_map] at h
  obtain ⟨y,_,z⟩:=Option.map_eq_some_iff.mp h
  cases z
 ·rw [List.getElem?_append_right (by rw [List.length_map];omega),List.getElem?_replicate] at h
  split at h <;> cases h
theorem qp8 {xs:List PV} {n i:Nat} {x:PV}:(xs.map MSlot.sh++List.replicate n .no)[i]? ≠ some (.bo x):=fun h=>by
 by_cases hi:i < xs.length
 ·rw [List.getElem?_append_left (by rw [List.length_map];exact hi),List.getElem?_map] at h
  obtain ⟨y,_,z⟩:=Option.map_eq_some_iff.mp h
  cases z
 ·rw [List.getElem?_append_right (by rw [List.length_map];omega),List.getElem?_replicate] at h
  split at h <;> cases h
theorem rd_start {N:List Str} {Hs H:Hp} {a:Addr} {n:Int} {xs:List PV} {ws:List V} (s:Same Hs H) (ha:Hs a=none) (hH:H a=some (.lst [.int n])) (r:Reps Hs xs ws) :
  RD [a] Hs H Hs H (L2.start N (.ref a::ws)) (qe1 n::xs.map .sh++List.replicate (N.length - (xs.length + 1)) .no):=by
 have q:=qe6 (N:=N) (xs:= .at (.ref a)::xs) s (.cons (rep_at.mpr rfl) r)
 have tl:∀ (i:Nat) (sl:MSlot),(qe1 n::xs.map .sh++List.replicate (N.length - (xs.length + 1)) .no)[i + 1]?=some sl->((PV.at (.ref a)::xs).map MSlot.sh++List.replicate (N.length - (PV.at (.ref a)::xs).length) .no)[i + 1]?=some sl:=fun i sl h=>h
 refine ⟨.refl _,fun b o e _=>e,s,fun _ _ z=>z,fun i x h=>?_,fun i x h=>?_,fun i j x y b h1 h2 _ _=>?_,?_,fun b hb=>?_,fun b hb=>?_,(fun b hb=>⟨_,rfl⟩),fun i x h=>by
  cases i with
  | zero=>unfold qe1 at h;simp at h
  | succ i=>exact qp8 (xs:=PV.at (.ref a)::xs) (tl i _ h)⟩
 ·cases i with
  | zero=>unfold qe1 at h;simp at h
  | succ i=>exact q.sh (i + 1) x (tl i _ h)
 ·cases i with
  | zero =>
   unfold qe1 at h
   simp at h
   subst h
   refine ⟨a,?_,.inr (List.mem_singleton.mpr rfl),ha,_,hH,.one (rep_at.mpr rfl)⟩
   unfold L2.start
   rfl
  | succ i =>
   obtain ⟨c,h1,_⟩:=q.ow (i + 1) x (tl i _ h)
   exact absurd (tl i _ h) fun z=>by
    have:=qgv (i:=i + 1) (x:=x) (xs:=PV.at (.ref a)::xs) (n:=N.length - (PV.at (.ref a)::xs).length)
    exact this z
 ·cases i with
  | zero =>
   cases j with
   | zero=>rfl
   | succ j=>exact absurd (tl j _ h2) (qgv (xs:=PV.at (.ref a)::xs))
  | succ i=>exact absurd (tl i _ h1) (qgv (xs:=PV.at (.ref a)::xs))
 ·exact q.len
 ·rw [List.mem_singleton.mp hb];unfold L2.start;rfl
 ·rw [List.mem_singleton.mp hb,hH];exact fun z=>nomatch z
theorem okD {x qual:Str} {st:Stmt} {f:Addr} {fd:FuncData} {N ps:List Str} {k:Nat} {b:WS} {pre:List PV->Prop} {R:List PV->PV->Prop} (F:Fun K x qual st f fd) (S:qar N ps (qab st))
  (hpre:∀ xs,pre xs->xs.length + 1=ps.length)
  (hb:∀ (cdv:Value) (A:Around) (outer:List Env) (s:Shared) (H:Hp) (E:XK),Room k (A.deeper (PyProof.Rows.envOfC qual (qab st) s.heap.objs.size f cdv)) ->
   ∃ t,PSs (qsa CX0 P w K mg base N qual (qab st) f cdv A outer s H E).nox (qal st) t/\SemWS t b)
  (hw:∀ xs n,pre xs->b (qe1 n::xs.map .sh++List.replicate (N.length - (xs.length + 1)) .no) (fun _=>False) fun y ε=>R xs y/\qug 0 ε):FnOk P w K mg base CX0 (k + 1) f fd ps (spD pre R):=by
 refine F.ok S (fun vs H Q E h=>?_) (fun cdv A outer s H vs Q E hr h=>?_)
 ·obtain ⟨Hs,a,n,xs,ws,rfl,_,_,_,r,hp,_⟩:=h
  rw [List.length_cons,r.length]
  exact hpre xs hp
 ·obtain ⟨Hs,a,n,xs,ws,rfl,sm,ha,hH,r,hp,q⟩:=h
  obtain ⟨t,ht,sem⟩:=hb cdv A outer s H E hr
  refine ⟨t,ht,sem.h (hw xs n hp) (rd_start sm ha hH r) (fun ε σ Hs' H' z _ _=>z.elim) fun y ε σ v Hs' H' hR rd g rv=>?_⟩
  obtain ⟨hR,n',hn'⟩:=hR
  obtain ⟨a',ha',hH',hs',_⟩:=rd.strm_at hn'
  rw [rd.pin a (List.mem_singleton.mpr rfl)] at ha'
  injection ha' with ha';injection ha' with ha';injection ha' with ha'
  subst ha'
  refine q y v n' Hs' H' hR ⟨g,fun b o e hb=>rd.s2 b o e fun z=>hb (List.mem_singleton.mp z),rd.s3,fun b h z=>rd.s4 b h z⟩ hs' hH' rv
end
end Mi
namespace Mi
open PySem L2
def spN (pre:List PV->Prop) (R:List PV->PV->Prop):Sp:=fun vs H Q _=>∃ Hs xs,Same Hs H/\Reps Hs xs vs/\pre xs/\∀ y a Hs' H',R xs y->Ext Hs H Hs' H'->H a=none->Hs' a=none->Top Hs' H' a y->Q (.ref a) H'
def spV (pre:List PV->Prop) (R:List PV->PV->Prop):Sp:=fun vs H Q _=>∃ Hs xs,Same Hs H/\Reps Hs xs vs/\pre xs/\∀ y v Hs' H',R xs y->Ext Hs H Hs' H'->Rep Hs' y v->Q v H'
def wSetN (i:Nat) (pre:List PV->Prop) (R:List PV->PV->Prop) (as:WA):WS:=fun ε N _=>as ε fun xs ε1=>pre xs/\∀ y,R xs y->N (ε1.set i (.ow y))
instance {i:Nat} {pre:List PV->Prop} {R:List PV->PV->Prop} {ta:TA} {as:WA} {E:XK} [sa:qra ta as]:SemWS (qrj (qgg (spN pre R) [] E ta) (qez (i + 1))) (wSetN (i + 1) pre R as) where
 h:=fun h _ _ _ _ _ _ rd _ k _=>sa.h h rd fun xs ε1 vs Hs1 H1 h1 rd1 g1 r1=>by
  refine ⟨Hs1,xs,rd1.s3,by rw [List.append_nil];exact r1,h1.1,fun y a Hs' H' hR x n n' t=>?_⟩
  refine k _ _ _ _ (h1.2 y hR) ((rd1.go x).putO (.inl (rd1.free0 n)) n' t fun j z hj e=>?_) (g1.trans x.s1)
  obtain ⟨b,hb,_,_,tb⟩:=rd1.ow j z hj
  rw [e] at hb
  injection hb with hb;injection hb with hb;injection hb with hb
  subst hb
  exact tb.there n
def wCallV (pre:List PV->Prop) (R:List PV->PV->Prop) (as:WA):W:=fun ε Q=>as ε fun xs ε1=>pre xs/\∀ y,R xs y->Q y ε1
instance {pre:List PV->Prop} {R:List PV->PV->Prop} {ta:TA} {as:WA} {E:XK} [sa:qra ta as]:SemW (qgg (spV pre R) [] E ta) (wCallV pre R as) where
 h:=fun h _ _ _ _ _ _ rd _ k=>sa.h h rd fun xs ε1 vs Hs1 H1 h1 rd1 g1 r1 =>
  ⟨Hs1,xs,rd1.s3,by rw [List.append_nil];exact r1,h1.1,fun y v Hs' H' hR x rv=>k y ε1 v Hs' H' (h1.2 y hR) (rd1.go x) (g1.trans x.s1) rv⟩
def qlo (pre0:List PV->Prop) (R0:List PV->PV->Prop) (a0:MA) (pre:List PV->Prop) (R:List PV->PV->Prop) (as:MA):W:=fun ε Q=>∃ xs0 xs,a0 ε=some xs0/\as ε=some xs/\pre0 xs0/\(∀ y,R0 xs0 y->∃ n,y = .lst [.at (.int n)])/\pre xs/\∀ y,R xs y->Q y ε
instance {pre0:List PV->Prop} {R0:List PV->PV->Prop} {t0:TA} {a0:MA} {pre:List PV->Prop} {R:List PV->PV->Prop} {ta:TA} {as:MA} {E E':XK} [s0:qpv t0 a0] [sa:qpv ta as]:SemW (qgg (spD pre R) [] E (qc6 (qgg (spN pre0 R0) [] E' t0) ta)) (qlo pre0 R0 a0 pre R as) where
 h:=fun {ε Q'} hh S Hs0 H0 Hs H σ rd Q k=>by
  obtain ⟨xs0,xs,e0,e1,hp0,hR0,hp,h⟩:=hh
  refine s0.h e0 rd.rs fun vs0 Hs1 H1 x1 r1=>?_
  refine ⟨Hs1,xs0,x1.s3,by rw [List.append_nil];exact r1,hp0,fun y a Hs2 H2 hR x2 n n' t=>?_⟩
  obtain ⟨m,rfl⟩:=hR0 y hR
  have rd2:=(rd.go x1).go x2
  refine sa.h e1 rd2.rs fun vs Hs3 H3 x3 r3=>?_
  obtain ⟨ws,hw,rw⟩:=t
  obtain ⟨v,r,rfl,p1,p2⟩:=reps_cons.mp rw
  cases reps_nil.mp p2
  cases rep_at.mp p1
  have hw3:=x3.s2 _ _ hw
  have n3:Hs3 a=none:=x3.s4 a (by rw [hw];exact fun z=>nomatch z) n'
  refine ⟨Hs3,a,m,xs,vs,by rw [List.append_nil],x3.s3,n3,hw3,r3,hp,fun z u m' Hs' H' hRz xd na ea ru=>?_⟩
  have rd3:=rd2.go x3
  have an:∀ (j:Nat) (y:PV),ε[j]?=some (MSlot.ow y)->σ[j]? ≠ some (some (V.ref a)):=fun j y hj e=>by
   obtain ⟨b,hb,_,_,tb⟩:=(rd.go x1).ow j y hj
   rw [e] at hb
   injection hb with hb;injection hb with hb;injection hb with hb
   subst hb
   exact tb.there n
  have h0a:=(rd.go x1).free0 n
  refine k z _ u Hs' H' (h z hRz) ⟨rd3.s1.trans xd.s1,fun b o e hS=>xd.s2 b o (rd3.s2 b o e hS) (fun w=>by rw [w,h0a] at e;cases e),xd.s3,fun b hb w=>xd.s4 b (rd3.there hb) (rd3.s4 b hb w),fun i x hx=>?_,fun i x hx=>?_,rd3.nd,rd3.len,rd3.pin,fun b hS=>?_,rd3.str,rd3.nb⟩ (x1.s1.trans (x2.s1.trans (x3.s1.trans xd.s1))) ru
  ·obtain ⟨v,hv,rv⟩:=rd3.sh i x hx
   exact ⟨v,hv,rv.mono xd.s1⟩
  ·obtain ⟨b,hb,m0,m1,tb⟩:=rd3.ow i x hx
   have hne:b ≠ a:=fun w=>an i x hx (w ▸ hb)
   exact ⟨b,hb,m0,xd.s4 b tb.there m1,tb.mono xd.s1 fun o ho=>xd.s2 b o ho hne⟩
  ·have hl:=rd3.live b hS
   have hne:b ≠ a:=fun w=>by
    have:=(rd.go x1).live b hS
    rw [w] at this
    exact this n
   cases q:H3 b with
   | none=>exact absurd q hl
   | some o=>rw [xd.s2 b o q hne];exact fun z=>nomatch z
section
variable {P:Program} {w:World} {K:PySem.W.Frag} {mg:Str->Option Value} {base:Heap}
theorem qok {N:List Str} {Hs H:Hp} {xs:List PV} {vs:List V} (s:Same Hs H) (r:Reps Hs xs vs):RD [] Hs H Hs H (L2.start N vs) (xs.map .sh++List.replicate (N.length - xs.length) .no):=by
 have q:=qe6 (N:=N) s r
 exact ⟨.refl _,fun b o e _=>e,s,fun _ _ z=>z,q.sh,fun i x h=>absurd h qgv,q.nd,q.len,(fun _ z=>nomatch z),(fun _ z=>nomatch z),(fun _ z=>nomatch z),fun _ _=>qp8⟩
theorem okV {x qual:Str} {st:Stmt} {f:Addr} {fd:FuncData} {N ps:List Str} {k:Nat} {b:WS} {pre:List PV->Prop} {R:List PV->PV->Prop} (F:Fun K x qual st f fd) (S:qar N ps (qab st))
  (hpre:∀ xs,pre xs->xs.length=ps.length)
  (hb:∀ (cdv:Value) (A:Around) (outer:List Env) (s:Shared) (H:Hp) (E:XK),Room k (A.deeper (PyProof.Rows.envOfC qual (qab st) s.heap.objs.size f cdv)) ->
   ∃ t,PSs (qsa CX0 P w K mg base N qual (qab st) f cdv A outer s H E).nox (qal st) t/\SemWS t b)
  (hw:∀ xs,pre xs->b (xs.map .sh++List.replicate (N.length - xs.length) .no) (fun _=>False) fun y _=>R xs y):FnOk P w K mg base CX0 (k + 1) f fd ps (spV pre R):=by
 refine F.ok S (fun vs H Q E h=>?_) (fun cdv A outer s H vs Q E hr h=>?_)
 ·obtain ⟨Hs,xs,_,r,hp,_⟩:=h
  rw [r.length]
  exact hpre xs hp
 ·obtain ⟨Hs,xs,sm,r,hp,q⟩:=h
  obtain ⟨t,ht,sem⟩:=hb cdv A outer s H E hr
  refine ⟨t,ht,sem.h (hw xs hp) (qok sm r) (fun ε σ Hs' H' z _ _=>z.elim) fun y ε σ v Hs' H' hR rd g rv=>?_⟩
  exact q y v Hs' H' hR ⟨g,fun b o e=>rd.s2 b o e List.not_mem_nil,rd.s3,rd.s4⟩ rv
def scr (K:PySem.W.Frag) (ns:List Int):PV:= .op fun H v=>∃ a,v = .ref a/\SqL K H a (ns.map V.int)
theorem scr_at {K:PySem.W.Frag} {Hs H:Hp} {ns:List Int} {v:V} (s:Same Hs H) (r:Rep Hs (scr K ns) v):∃ a,v = .ref a/\SqL K H a (ns.map V.int):=by
 obtain ⟨H1,s1,a,rfl,q⟩:=rep_op.mp r
 exact ⟨a,rfl,(s1.trans s).seq q⟩
def qu1 (K:PySem.W.Frag):Sp:=fun vs H Q _=>∃ (a:Addr) (ns:List Int),vs=[.ref a]/\SqL K H a (ns.map V.int)/\ns.length<=63/\∀ H',Q (.bl true) H'
theorem okL {x qual:Str} {st:Stmt} {f:Addr} {fd:FuncData} {N:List Str} {k:Nat} {b:WS} (F:Fun K x qual st f fd) (S:qar N ["script"] (qab st))
  (hb:∀ (cdv:Value) (A:Around) (outer:List Env) (s:Shared) (H:Hp) (E:XK),Room k (A.deeper (PyProof.Rows.envOfC qual (qab st) s.heap.objs.size f cdv)) ->
   ∃ t,PSs (qsa CX0 P w K mg base N qual (qab st) f cdv A outer s H E).nox (qal st) t/\SemWS t b)
  (hw:∀ ns:List Int,ns.length<=63->b (.sh (scr K ns)::List.replicate (N.length - 1) .no) (fun _=>False) fun y _=>y = .at (.bl true)):FnOk P w K mg base CX0 (k + 1) f fd ["script"] (qu1 K):=by
 refine F.ok S (fun vs H Q E h=>?_) (fun cdv A outer s H vs Q E hr h=>?_)
 ·obtain ⟨a,ns,rfl,_⟩:=h
  rfl
 ·obtain ⟨a,ns,rfl,hS,h63,q⟩:=h
  obtain ⟨t,ht,sem⟩:=hb cdv A outer s H E hr
  have r:Reps H [scr K ns] [.ref a]:= .one (rep_op.mpr ⟨H,.refl _,a,rfl,hS⟩)
  refine ⟨t,ht,sem.h (hw ns h63) (qok (N:=N) (.refl H) r) (fun ε σ Hs' H' z _ _=>z.elim) fun y ε σ v Hs' H' hR rd g rv=>?_⟩
  subst hR
  cases rep_at.mp rv
  exact q H'
end
end Mi
namespace Mi
open PySem L2
variable {fr:Bool}
end Mi
namespace Mi
open PySem L2
class qfi (w:W):Prop where
 h:∀ {ε:ME} {P P':PV->ME->Prop},(∀ y e,P y e->P' y e)->w ε P->w ε P'
class MonoA (w:WA):Prop where
 h:∀ {ε:ME} {P P':List PV->ME->Prop},(∀ y e,P y e->P' y e)->w ε P->w ε P'
class qrb (w:WT):Prop where
 h:∀ {ε:ME} {P P':Bool->ME->Prop},(∀ y e,P y e->P' y e)->w ε P->w ε P'
class qn3 (w:WS):Prop where
 h:∀ {ε:ME} {N N':ME->Prop} {R R':PV->ME->Prop},(∀ e,N e->N' e)->(∀ y e,R y e->R' y e)->w ε N R->w ε N' R'
instance {f:M}:qfi (wP f) where h:=fun k ⟨y,e,q⟩=>⟨y,e,k _ _ q⟩
instance {f:MB}:qrb (wPT f) where h:=fun k ⟨y,e,q⟩=>⟨y,e,k _ _ q⟩
instance {g:PV->PV->Option PV} {a b:W} [A:qfi a] [B:qfi b]:qfi (qit g a b) where h:=fun k h=>A.h (fun _ _ h1=>B.h (fun _ _ ⟨z,e,q⟩=>⟨z,e,k _ _ q⟩) h1) h
instance:qrb wYes where h:=fun k h=>k _ _ h
theorem qjb {c:Bool} {A B A' B':Prop} (h1:A->A') (h2:B->B') (h:if c=true then A else B):if c=true then A' else B':=by
 cases c with
 | true=>exact qr2 (h1 (by simpa using h))
 | false=>exact qr3 (h2 (by simpa using h))
instance:MonoA wNil where h:=fun k h=>k _ _ h
instance {i:Nat} {a:W} [A:qfi a]:qfi (wTk i a) where h:=fun k h=>⟨h.1,A.h (fun _ _ ⟨n,m,e1,e2,e3,q⟩=>⟨n,m,e1,e2,e3,k _ _ q⟩) h.2⟩
instance {i:Nat} {pre:List PV->Prop} {R:List PV->PV->Prop} {a:WA} [A:MonoA a]:qfi (quh i pre R a) where h:=fun k h=>⟨h.1,A.h (fun _ _ ⟨h1,h2,h3⟩=>⟨h1,h2,fun y n r=>k _ _ (h3 y n r)⟩) h.2⟩
instance {pre0:List PV->Prop} {R0:List PV->PV->Prop} {a0:MA} {pre:List PV->Prop} {R:List PV->PV->Prop} {as:MA}:qfi (qlo pre0 R0 a0 pre R as) where
 h:=fun k ⟨xs0,xs,e0,e1,h1,h2,h3,h4⟩=>⟨xs0,xs,e0,e1,h1,h2,h3,fun y r=>k _ _ (h4 y r)⟩
instance {i:Nat} {a:W} [A:qfi a]:qfi (wPop i a) where h:=fun k h=>⟨h.1,A.h (fun _ _ ⟨xs,j,y,e1,e2,e3,e4,e5,e6,q⟩=>⟨xs,j,y,e1,e2,e3,e4,e5,e6,k _ _ q⟩) h.2⟩
instance {f:MA}:MonoA (wIp f) where h:=fun k ⟨y,e,q⟩=>⟨y,e,k _ _ q⟩
theorem qgs {g:MG} {c:WT} {f:W} {ts:List Nat} [C:qrb c] [F:qfi f] {Q Q':List PV->ME->Prop} (k:∀ y e,Q y e->Q' y e):∀ (xs ys:List PV) (ε:ME),qig g c f ts xs ys ε Q->qig g c f ts xs ys ε Q'
 | [],ys,ε,h=>k _ _ h
 | x::xs,ys,ε,h=>by
  obtain ⟨ε1,e1,h1⟩:=h
  exact ⟨ε1,e1,C.h (fun b ε2 h2=>qjb (fun h3=>F.h (fun y ε3 h4=>qgs k xs _ _ h4) h3) (fun h3=>qgs k xs _ _ h3) h2) h1⟩
instance {cap:List (Option Nat)} {ts:List Nat} {it:WA} {g:MG} {c:WT} {f:W} [I:MonoA it] [C:qrb c] [F:qfi f]:qfi (wComp cap ts it g c f) where
 h:=fun k h=>I.h (fun _ _ ⟨h1,h2,h3⟩=>⟨h1,h2,qgs (fun _ _ ⟨q1,q2⟩=>⟨q1,k _ _ q2⟩) _ _ _ h3⟩) h
instance:qn3 qir where h:=fun k _ h=>k _ h
instance {i:Nat} {a:W} [A:qfi a]:qn3 (qis i a) where h:=fun k _ h=>A.h (fun _ _ h1=>k _ h1) h
instance {a:W} [A:qfi a]:qn3 (qpx a) where h:=fun _ r h=>A.h r h
instance {c:WT} {a b:WS} [C:qrb c] [A:qn3 a] [B:qn3 b]:qn3 (qrg c a b) where h:=fun k r h=>C.h (fun _ _ h1=>qjb (fun h2=>A.h k r h2) (fun h2=>B.h k r h2) h1) h
instance {i:Nat} {a:W} [A:qfi a]:qn3 (qjj i a) where h:=fun k _ h=>⟨h.1,A.h (fun _ _ ⟨xs,e1,e2,q⟩=>⟨xs,e1,e2,k _ q⟩) h.2⟩
theorem qnv {g:MG} {c:WT} {f:W} {ts:List Nat} {Q:List PV->ME->Prop} [C:qrb c] [F:qfi f] (I:List PV->List PV->ME->Prop) (hd:∀ ys ε,I [] ys ε->Q ys ε)
  (hs:∀ x xs ys ε,I (x::xs) ys ε->∃ ε1,g x ε=some ε1/\c ε1 fun b ε2=>if b=true then f ε2 fun y ε3=>I xs (ys++[y]) (rst ts ε3) else I xs ys (rst ts ε2)) :
  ∀ (xs ys:List PV) (ε:ME),I xs ys ε->qig g c f ts xs ys ε Q
 | [],ys,ε,h=>hd ys ε h
 | x::xs,ys,ε,h=>by
  obtain ⟨ε1,e1,h1⟩:=hs x xs ys ε h
  exact ⟨ε1,e1,C.h (fun b ε2 h2=>qjb (fun h3=>F.h (fun y ε3 h4=>qnv I hd hs xs _ _ h4) h3) (fun h3=>qnv I hd hs xs _ _ h3) h2) h1⟩
theorem qpc {g:MG} {f:W} {ts:List Nat} {Q:List PV->ME->Prop} [F:qfi f] (I:List PV->List PV->ME->Prop) (hd:∀ ys ε,I [] ys ε->Q ys ε)
  (hs:∀ x xs ys ε,I (x::xs) ys ε->∃ ε1,g x ε=some ε1/\f ε1 fun y ε3=>I xs (ys++[y]) (rst ts ε3)) (xs ys:List PV) (ε:ME) (h:I xs ys ε):qig g wYes f ts xs ys ε Q :=
 qnv I hd (fun x xs ys ε h=>by
  obtain ⟨ε1,e,q⟩:=hs x xs ys ε h
  refine ⟨ε1,e,?_⟩
  show if true=true then (f ε1 fun y ε3=>I xs (ys++[y]) (rst ts ε3)) else I xs ys (rst ts ε1)
  rw [if_pos rfl]
  exact q) xs ys ε h
theorem qi8 {g:MG} {f:WS} {N:ME->Prop} {R:PV->ME->Prop} [F:qn3 f] (I:List PV->ME->Prop) (hd:∀ ε,I [] ε->N ε) (hs:∀ x xs ε,I (x::xs) ε->∃ ε1,g x ε=some ε1/\f ε1 (fun ε2=>I xs ε2) R) :
  ∀ (xs:List PV) (ε:ME),I xs ε->quf g f xs ε N R
 | [],ε,h=>hd ε h
 | x::xs,ε,h=>by
  obtain ⟨ε1,e1,h1⟩:=hs x xs ε h
  exact ⟨ε1,e1,F.h (fun ε2 h2=>qi8 I hd hs xs ε2 h2) (fun _ _ z=>z) h1⟩
end Mi
namespace Mi
open PySem L2
section
variable {ε ε1:ME} {a b:MS} {f g:M} {x y z:PV} {i:Nat} {o:Option Out}
theorem qa6 (h:a ε=some (.nx ε1)) (k:b ε1=o):dSeq a b ε=o:=by unfold dSeq;rw [h];exact k
theorem qbi (h:f ε=some x):qdk i f ε=some (.nx (ε.set i (.sh x))):=by unfold qdk;rw [h];rfl
theorem qnp (h:f ε=some x):qq1 i f ε=some (.nx (ε.set i (.ow x))):=by unfold qq1;rw [h];rfl
theorem qb2 (h:f ε=some x):qeh f ε=some (.rt x):=by unfold qeh;rw [h];rfl
theorem qaj {G:PV->PV->Option PV} {r:Option PV} (h1:f ε=some x) (h2:g ε=some y) (h:G x y=r):qay G f g ε=r:=by unfold qay;rw [h1];show Option.bind (g ε) _=_;rw [h2];exact h
theorem qah {m:List PV->Option PV} {as:MA} {xs:List PV} {r:Option PV} (h1:as ε=some xs) (h:m xs=r):qaq m as ε=r:=by unfold qaq;rw [h1];exact h
theorem qau {r:MA} {xs:List PV} (h1:f ε=some x) (h2:r ε=some xs):qad f r ε=some (x::xs):=by unfold qad;rw [h1];show Option.bind (r ε) _=_;rw [h2];rfl
theorem qw0 {c:MB} (h:c ε=some true) (k:a ε=o):qh9 c a b ε=o:=by unfold qh9;rw [h];exact k
theorem qdj {c:MB} (h:c ε=some false) (k:b ε=o):qh9 c a b ε=o:=by unfold qh9;rw [h];exact k
theorem qkk {it:MA} {G:MG} {xs:List PV} (h:it ε=some xs) (k:qkp G a xs ε=o):qxc it G a ε=o:=by unfold qxc;rw [h];exact k
theorem ev_sl {l u:ME->Option (Option Int)} {xs:List PV} {lo hi:Option Int} (h1:f ε=some (.lst xs)) (h2:l ε=some lo) (h3:u ε=some hi):dSlL f l u ε=some (.lst (qxg xs lo hi)):=by
 unfold dSlL;rw [h1];show Option.bind (l ε) _=_;rw [h2];show Option.bind (u ε) _=_;rw [h3];rfl
theorem qdu {as:MA} {xs:List PV} (h:as ε=some xs) (hl:xs.length<=lim):qff as ε=some (.lst xs):=by unfold qff;rw [h];show (if _ then _ else _)=_;rw [if_pos hl]
theorem qo6 {as:MA} {xs:List PV} (h:as ε=some xs) (hl:xs.length<=lim):qpb as ε=some (.tup xs):=by unfold qpb;rw [h];show (if _ then _ else _)=_;rw [if_pos hl]
theorem qqw {cap:List (Option Nat)} {ts:List Nat} {it:MA} {G:MG} {c:MB} {xs ys:List PV} (h:it ε=some xs) (hc:capB cap ts=true) (hl:xs.length<=lim) (k:qea G c f (qib cap ε) xs=some ys):qba cap ts it G c f ε=some (.lst ys):=by
 unfold qba;rw [h];show (if _ then _ else _)=_;rw [if_pos ⟨hc,hl⟩,k];rfl
end
theorem qe8 {xs ys:List PV} (h:xs.length + ys.length<=lim):qd5 (.lst xs) (.lst ys)=some (.lst (xs++ys)):=by show (if _ then _ else _)=_;rw [if_pos h]
theorem qkl {n k:Nat} {b:MS} {xs:List PV} {y:PV} (hl:xs.length=k) (h:b (xs.map .sh++List.replicate (n - k) .no)=some (.rt y)):quc n k b xs=some y:=by unfold quc;rw [if_pos hl,h];rfl
theorem qef {n k:Nat} {b:MS} {xs:List PV} {y:PV} (hl:xs.length=k) (h:b (xs.map .sh++List.replicate (n - k) .no)=some (.rt y)):dFn n k b xs=some y:=by unfold dFn;rw [if_pos hl,h];rfl
theorem qjy {f:PV->PV->Option Bool}:∀ {xs:List PV},(∀ x ∈ xs,f x x=some true)->qvq f xs xs=some true
 | [],_=>rfl
 | x::xs,h=>by unfold qvq;rw [h x List.mem_cons_self];show Option.bind (qvq f xs xs) _=_;rw [qjy fun y hy=>h y (List.mem_cons_of_mem _ hy)];rfl
def qhf:Nat->PV->Prop
 | _,.at u=>qbn u=true
 | n + 1,.lst xs=>∀ x ∈ xs,qhf n x
 | n + 1,.tup xs=>∀ x ∈ xs,qhf n x
 | _,_=>False
theorem qi3:∀ (n:Nat) {x:PV},qhf n x->peq n x x=some true
 | 0,x,h=>by
  cases x with
  | «at» u=>show (if _ then _ else _)=_;rw [if_pos ⟨h,h⟩,qje h]
  | _=>exact h.elim
 | n + 1,x,h=>by
  cases x with
  | «at» u=>show (if _ then _ else _)=_;rw [if_pos ⟨(show qbn u=true from h),h⟩,qje h]
  | lst xs=>show (if _ then _ else _)=_;rw [if_pos rfl];exact qjy fun y hy=>qi3 n (h y hy)
  | tup xs=>show Option.bind (qvq (peq n) xs xs) _=_;rw [qjy fun y hy=>qi3 n (h y hy)];show some (true && (xs.length == xs.length))=_;rw [beq_self_eq_true];rfl
  | _=>exact h.elim
theorem qnf {x:PV} (h:qhf 6 x):pEq x x=some (.at (.bl true)):=by unfold pEq;rw [qi3 6 h];rfl
theorem qhg {x:PV} (h:qhf 6 x):pNe x x=some (.at (.bl false)):=by unfold pNe;rw [qi3 6 h];rfl
end Mi
namespace Mi
open PySem L2
class ClsI (K:PySem.W.Frag) (C:Addr):Prop where
 c:Cls K C
class NoA (K:PySem.W.Frag) (C:Addr) (f:Str):Prop where
 n:NoAttr K C f
def qtj (f:Str):List Str->List PV->Option PV
 | n::ns,x::xs=>if f=n then some x else qtj f ns xs
 | _,_=>none
theorem qr1 {H:Hp} {f:Str} {y:PV}:∀ {fs:List (Str × V)} {xs:List PV},Reps H xs (fs.map (·.2))->qtj f (fs.map (·.1)) xs=some y->∃ v,fs.lookup f=some v/\Rep H y v
 | [],xs,r,h=>by cases xs <;> cases h
 | p::fs,xs,r,h=>by
  cases xs with
  | nil=>cases h
  | cons x xs =>
   obtain ⟨v,w,e,p1,p2⟩:=reps_cons.mp r
   rw [List.map_cons] at e
   injection e with e1 e2
   subst e1 e2
   rw [List.map_cons] at h
   unfold qtj at h
   rw [List.lookup_cons]
   split at h
   ·rename_i hf
    cases h
    rw [hf,beq_self_eq_true]
    exact ⟨p.2,rfl,p1⟩
   ·rename_i hf
    rw [beq_eq_false_iff_ne.mpr hf]
    exact qr1 p2 h
def qud (C:Addr) (f:Str) (a:M):M:=fun ε=>(a ε).bind fun x=>match x with
 | .ob C' ns xs=>if C'=C then qtj f ns xs else none
 | _=>none
theorem qxd {C:Addr} {f:Str} {a:M} {ε:ME} {y:PV} (h:qud C f a ε=some y):∃ ns xs,a ε=some (.ob C ns xs)/\qtj f ns xs=some y:=by
 unfold qud at h
 obtain ⟨x,ex,h1⟩:=bind_some h
 split at h1
 ·split at h1
  ·rename_i hc
   subst hc
   exact ⟨_,_,ex,h1⟩
  ·cases h1
 ·cases h1
instance {K:PySem.W.Frag} {C:Addr} {f:Str} {te:TE} {a:M} [c:ClsI K C] [n:NoA K C f] [s:qic te a]:SemE (tFld K te f) (qud C f a) where
 h:=fun e _ _ _ _ _ rs _ q=>by
  obtain ⟨ns,xs,ea,el⟩:=qxd e
  refine s.h ea rs fun v Hs1 H1 x1 r1=>?_
  obtain ⟨p,dx,fs,rfl,hp,hk,hr⟩:=qvf x1.s3 r1
  rw [<- hk] at el
  obtain ⟨u,hu,ru⟩:=qr1 hr el
  exact ⟨p,C,dx,fs,u,rfl,hp,c.c,n.n,hu,q u _ _ x1 ru⟩
theorem qgz {X:Cx} {K:PySem.W.Frag} {e:Expr} {f:Str} {ta:TE} {pos:Pos} (hK:X.K=K) (he:PE X e ta) (hb:attributeBase e f X.env (eval e X.env)=eval e X.env:=by rfl):PE X (.Attribute e f pos) (tFld K ta f):=by
 subst hK;exact pe_fld he hb
structure Mt (P:Program) (w:World) (K:PySem.W.Frag) (mg:Str->Option Value) (base:Heap) (k:Nat) (C:Addr) (m:Str) (ps:List Str) (sp:Sp):Prop where
 ex:∃ f fd,FnOk P w K mg base CX0 k f fd ps sp/\Meth K C m f/\Cls K C/\Binds K fd ps []
section
variable {X:Cx} {k j:Nat} {C:Addr} {m:Str} {ps:List Str} {sp:Sp} {o e:Expr} {es:List Expr} {ta:TE} {t:TA} {apos pos:Pos}
theorem qru {pl:Sem Bool} (c:Mt X.prog X.w X.K X.mg X.base k C m ps sp) (hr:Room j X.A) (hj:k<=j) (ho:PE X o ta) (ha:PA X (e::es) t)
  (hst:starEach (e::es) X.env=(false,eval e X.env)::starEach es X.env:=by rfl) (hpl:(backTo pos (starEach es X.env)).any (·.1)=false:=by rfl)
  (ht:eval (.Call (.Attribute o m apos) (e::es) [] pos) X.env=(do
   let ov <- eval o X.env
   standAt apos.atName
   let (f,first) <- holding [ov] (getMethod ov m pl)
   callWith pos f first (backTo pos (starEach (e::es) X.env)) (backToKw pos (keywordEach [] X.env))):=by rfl) :
  PE X (.Call (.Attribute o m apos) (e::es) [] pos) (qp3 C m sp [] E0 ta t):=by
 obtain ⟨f,fd,F,hm,hc,hb⟩:=c.ex
 exact pe_meth ho hc hm F (hr.mono hj) hb .nil pass0 ha hst hpl ht
theorem qj0 {pl:Sem Bool} (c:Mt X.prog X.w X.K X.mg X.base k C m ps sp) (hr:Room j X.A) (hj:k<=j) (ho:PE X o ta)
  (ht:eval (.Call (.Attribute o m apos) [] [] pos) X.env=(do
   let ov <- eval o X.env
   standAt apos.atName
   let (f,first) <- holding [ov] (getMethod ov m pl)
   callWith pos f first (backTo pos (starEach [] X.env)) (backToKw pos (keywordEach [] X.env))):=by rfl) :
  PE X (.Call (.Attribute o m apos) [] [] pos) (qp3 C m sp [] E0 ta qiv):=by
 obtain ⟨f,fd,F,hm,hc,hb⟩:=c.ex
 exact pe_meth0 ho hc hm F (hr.mono hj) hb .nil pass0 ht
end
end Mi
namespace Mi
open PySem L2
variable {fr:Bool}
def qwd:PV->Option Key
 | .at (.int i)=>some (.inl i)
 | .at (.str x)=>some (.inr x)
 | _=>none
theorem qfv {Hs H:Hp} {x:PV} {v:V} {k:Key} (r:RepB Hs H x v) (h:qwd x=some k):v=kV k:=by
 unfold qwd at h
 split at h
 ·cases h;cases qa0 r;rfl
 ·cases h;cases qa0 r;rfl
 ·cases h
def qey (k:Key):List Key->List PV->Option PV
 | n::ns,x::xs=>if n=k then some x else qey k ns xs
 | _,_=>none
theorem qi9 {H:Hp} {k:Key}:∀ {kvs:List (Key × V)} {xs:List PV},Reps H xs (kvs.map (·.2))->match qey k (kvs.map (·.1)) xs with
  | some y=>∃ v,qmq kvs k=some v/\Rep H y v
  | none=>qmq kvs k=none
 | [],xs,r=>by
  have hx:xs=[]:=List.length_eq_zero_iff.mp r.length.symm
  subst hx
  rfl
 | p::kvs,xs,r=>by
  cases xs with
  | nil=>have:=r.length;simp at this
  | cons x xs =>
   obtain ⟨v,w,e,p1,p2⟩:=reps_cons.mp r
   rw [List.map_cons] at e
   injection e with e1 e2
   subst e1 e2
   rw [List.map_cons]
   unfold qey
   by_cases hk:p.1=k
   ·rw [if_pos hk]
    refine ⟨p.2,?_,p1⟩
    unfold qmq
    rw [List.find?_cons,decide_eq_true hk]
    rfl
   ·rw [if_neg hk]
    have ih:=qi9 (k:=k) p2
    have ev:qmq (p::kvs) k=qmq kvs k:=by
     unfold qmq
     rw [List.find?_cons,decide_eq_false hk]
    rw [ev]
    exact ih
def qiz (a b:M):M:=fun ε=>(a ε).bind fun x=>(b ε).bind fun y=>(qwd y).bind fun k=>match x with
 | .dk ks xs=>qey k ks xs
 | .fk ks xs=>qey k ks xs
 | _=>none
instance {td ty:TE} {a b:M} [sa:qic td a] [sb:qic ty b]:SemE (tDGet td ty) (qiz a b) where
 h:=fun e _ _ _ _ _ rs _ q=>by
  obtain ⟨x,ex,e1⟩:=bind_some e
  obtain ⟨y,ey,e2⟩:=bind_some e1
  obtain ⟨k,ek,e3⟩:=bind_some e2
  split at e3
  ·refine sa.h ex rs fun v Hs1 H1 x1 r1=>sb.h ey (rs.go x1) fun w Hs2 H2 x2 r2=>?_
   obtain ⟨p,kvs,rfl,hp,hk,hr⟩:=qfn x2.s3 (r1.ext x2)
   have l:=qi9 (k:=k) hr
   rw [hk,e3] at l
   obtain ⟨u,hu,ru⟩:=l
   have ew:=qfv r2 ek
   subst ew
   exact ⟨p,u,rfl,by rw [<- hu];exact DGet.k hp,q u _ _ (x1.trans x2) ru⟩
  ·refine sa.h ex rs fun v Hs1 H1 x1 r1=>sb.h ey (rs.go x1) fun w Hs2 H2 x2 r2=>?_
   obtain ⟨p,o,kvs,rfl,hp,hk,hr⟩:=qju x2.s3 (r1.ext x2)
   have l:=qi9 (k:=k) hr
   rw [hk,e3] at l
   obtain ⟨u,hu,ru⟩:=l
   have ew:=qfv r2 ek
   subst ew
   exact ⟨p,u,rfl,by rw [<- hu];exact .inl ⟨kvs,k,.inr ⟨o,hp⟩,rfl,rfl⟩,q u _ _ (x1.trans x2) ru⟩
  ·cases e3
def dDIn (b a:M):M:=fun ε=>(b ε).bind fun y=>(a ε).bind fun x=>(qwd y).bind fun k=>match x with
 | .dk ks xs=>some (.at (.bl (qey k ks xs).isSome))
 | .fk ks xs=>some (.at (.bl (qey k ks xs).isSome))
 | _=>none
def qnu (b a:M):M:=fun ε=>(b ε).bind fun y=>(a ε).bind fun x=>(qwd y).bind fun k=>match x with
 | .dk ks xs=>some (.at (.bl (!(qey k ks xs).isSome)))
 | .fk ks xs=>some (.at (.bl (!(qey k ks xs).isSome)))
 | _=>none
theorem qex {H:Hp} {k:Key} {kvs:List (Key × V)} {xs:List PV} (r:Reps H xs (kvs.map (·.2))):(qey k (kvs.map (·.1)) xs).isSome=(qmq kvs k).isSome:=by
 have l:=qi9 (k:=k) r
 cases e:qey k (kvs.map (·.1)) xs with
 | none=>rw [e] at l;rw [show qmq kvs k=none from l];rfl
 | some y=>rw [e] at l;obtain ⟨v,hv,_⟩:=l;rw [hv];rfl
instance {td ty:TE} {a b:M} [sa:qic td a] [sb:qic ty b]:SemE (tDIn ty td) (dDIn b a) where
 h:=fun e _ _ _ _ _ rs _ q=>by
  obtain ⟨y,ey,e1⟩:=bind_some e
  obtain ⟨x,ex,e2⟩:=bind_some e1
  obtain ⟨k,ek,e3⟩:=bind_some e2
  split at e3
  ·cases e3
   refine sb.h ey rs fun w Hs1 H1 x1 r1=>sa.h ex (rs.go x1) fun v Hs2 H2 x2 r2=>?_
   obtain ⟨p,kvs,rfl,hp,hk,hr⟩:=qfn x2.s3 r2
   have ew:=qfv r1 ek
   subst ew
   exact ⟨p,_,rfl,DGet.k hp,q _ _ _ (x1.trans x2) (rep_at.mpr (by rw [<- hk,qex hr]))⟩
  ·cases e3
   refine sb.h ey rs fun w Hs1 H1 x1 r1=>sa.h ex (rs.go x1) fun v Hs2 H2 x2 r2=>?_
   obtain ⟨p,o,kvs,rfl,hp,hk,hr⟩:=qju x2.s3 r2
   have ew:=qfv r1 ek
   subst ew
   exact ⟨p,_,rfl,.inl ⟨kvs,_,.inr ⟨o,hp⟩,rfl,rfl⟩,q _ _ _ (x1.trans x2) (rep_at.mpr (by rw [<- hk,qex hr]))⟩
  ·cases e3
instance {td ty:TE} {a b:M} [sa:qic td a] [sb:qic ty b]:SemE (quw ty td) (qnu b a) where
 h:=fun e _ _ _ _ _ rs _ q=>by
  obtain ⟨y,ey,e1⟩:=bind_some e
  obtain ⟨x,ex,e2⟩:=bind_some e1
  obtain ⟨k,ek,e3⟩:=bind_some e2
  split at e3
  ·cases e3
   refine sb.h ey rs fun w Hs1 H1 x1 r1=>sa.h ex (rs.go x1) fun v Hs2 H2 x2 r2=>?_
   obtain ⟨p,kvs,rfl,hp,hk,hr⟩:=qfn x2.s3 r2
   have ew:=qfv r1 ek
   subst ew
   exact ⟨p,_,rfl,DGet.k hp,q _ _ _ (x1.trans x2) (rep_at.mpr (by rw [<- hk,qex hr]))⟩
  ·cases e3
   refine sb.h ey rs fun w Hs1 H1 x1 r1=>sa.h ex (rs.go x1) fun v Hs2 H2 x2 r2=>?_
   obtain ⟨p,o,kvs,rfl,hp,hk,hr⟩:=qju x2.s3 r2
   have ew:=qfv r1 ek
   subst ew
   exact ⟨p,_,rfl,.inl ⟨kvs,_,.inr ⟨o,hp⟩,rfl,rfl⟩,q _ _ _ (x1.trans x2) (rep_at.mpr (by rw [<- hk,qex hr]))⟩
  ·cases e3
def dNewK:M:=fun _=>some (.dk [] [])
instance:qn2 tDNewK dNewK where
 h:=fun e _ _ _ _ _ rs _ q=>by
  cases e
  exact fun p hp=>q p _ _ (.newO rs.sub hp) hp (rs.sub.free hp) ⟨[],qan,rfl,.nil⟩
def putX (k:Key) (y:PV):List Key->List PV->List PV
 | n::ns,x::xs=>if n=k then y::putX k y ns xs else x::putX k y ns xs
 | _,xs=>xs
def qs6 (k:Key) (y:PV) (ks:List Key) (xs:List PV):PV:=if (qey k ks xs).isSome=true then .dk ks (putX k y ks xs) else .dk (ks++[k]) (xs++[y])
theorem qvk {H:Hp} {k:Key} {y:PV} {v:V} (ry:Rep H y v):∀ {kvs:List (Key × V)} {xs:List PV},Reps H xs (kvs.map (·.2))->Reps H (putX k y (kvs.map (·.1)) xs) ((kvs.map (fun kv=>if kv.1=k then (kv.1,v) else kv)).map (·.2))/\(kvs.map (fun kv=>if kv.1=k then (kv.1,v) else kv)).map (·.1)=kvs.map (·.1)
 | [],xs,r=>by
  have hx:xs=[]:=List.length_eq_zero_iff.mp r.length.symm
  subst hx
  exact ⟨.nil,rfl⟩
 | p::kvs,xs,r=>by
  cases xs with
  | nil=>have:=r.length;simp at this
  | cons x xs =>
   obtain ⟨u,w,e,p1,p2⟩:=reps_cons.mp r
   rw [List.map_cons] at e
   injection e with e1 e2
   subst e1 e2
   obtain ⟨h1,h2⟩:=qvk (k:=k) ry p2
   rw [List.map_cons,List.map_cons,List.map_cons,List.map_cons]
   unfold putX
   by_cases hk:p.1=k
   ·rw [if_pos hk,if_pos hk]
    exact ⟨.cons ry h1,by rw [h2]⟩
   ·rw [if_neg hk,if_neg hk]
    exact ⟨.cons p1 h1,by rw [h2]⟩
def dPut (i:Nat) (kk vv:M):MS:=fun ε=>(vv ε).bind fun y=>(kk ε).bind fun x=>(qwd x).bind fun k=>match ε[i]? with
 | some (.ow (.dk ks xs))=>if ks.length<=lim then some (.nx (ε.set i (.ow (qs6 k y ks xs)))) else none
 | _=>none
instance {i:Nat} {ty tv:TE} {kk vv:M} [sk:SemE ty kk] [sv:SemE tv vv]:SemS fr (sDPut (qiu i) ty tv) (dPut i kk vv) where
 h:=fun e _ _ _ _ _ rs _ q=>by
  obtain ⟨y,ey,e1⟩:=bind_some e
  obtain ⟨x,ex,e2⟩:=bind_some e1
  obtain ⟨k,ek,e3⟩:=bind_some e2
  split at e3
  ·rename_i ks xs hi
   split at e3
   ·rename_i hl
    cases e3
    refine sv.h ey rs fun v Hs1 H1 x1 r1=>?_
    obtain ⟨p,hp,n0,n,t⟩:=(rs.go x1).ow i _ hi
    refine ⟨_,hp,sk.h ex (rs.go x1) fun w Hs2 H2 x2 r2=>?_⟩
    obtain ⟨p',hp',_,n2,kvs,hv,hk,hr⟩:=((rs.go x1).go x2).ow i _ hi
    rw [hp] at hp'
    injection hp' with hp';injection hp' with hp';injection hp' with hp'
    subst hp'
    have ew:=qfv (.inl r2:RepB Hs2 H2 x w) ek
    subst ew
    have hlen:kvs.length<=lim:=by rw [<- hk,List.length_map] at hl;exact hl
    refine ⟨p,_,rfl,DPut.k hv (qoy hlen),q _ _ _ (((rs.go x1).go x2).change hi hp ?_)⟩
    have hs:=qex (k:=k) hr
    unfold qs6 qub
    rw [qmp,<- hs,hk]
    by_cases hc:(qey k ks xs).isSome=true
    ·rw [if_pos hc,if_pos hc]
     obtain ⟨q1,q2⟩:=qvk (k:=k) (r1.mono x2.s1) hr
     exact ⟨_,qan,by rw [q2,hk],by rw [<- hk];exact q1⟩
    ·rw [if_neg hc,if_neg hc]
     exact ⟨_,qan,by rw [List.map_append,hk];rfl,by rw [List.map_append];exact hr.append (.one (r1.mono x2.s1))⟩
   ·cases e3
  ·cases e3
end Mi
namespace Mi
open PySem L2
def rLeS:R2:=fun x y H Q=>∃ i j,x = .str i/\y = .str j/\Q (.bl (!decide (j.cps.toList < i.cps.toList))) H
theorem op_leS {X:Cx}:OpR X (compareOp .LtE) rLeS:=qvy
def pLeS:PV->PV->Option PV
 | .at (.str i),.at (.str j)=>some (.at (.bl (!decide (j.cps.toList < i.cps.toList))))
 | _,_=>none
instance:qso rLeS pLeS where
 h:=fun {x y z} e {Hs H v w} s a b {Q} q=>by
  unfold pLeS at e
  split at e
  ·cases e
   cases qa0 a
   cases qa0 b
   exact ⟨_,_,rfl,rfl,q _ _ _ (.refl s) (rep_at.mpr rfl)⟩
  ·cases e
def qoh (z:Str):List PV:=z.cps.toList.map fun c=> .at (.str ⟨#[c]⟩)
def dItS (a:M):MA:=fun ε=>(a ε).bind fun x=>match x with
 | .at (.str z)=>some (qoh z)
 | _=>none
theorem its_ok {z:Str} {Hs:Hp}:ItOk (ItS z) (qoh z) Hs where
 go:=fun i x Hs1 H1 e g1 g2=>by
  unfold qoh at e
  rw [List.getElem?_map] at e
  obtain ⟨c,hc,rfl⟩:=Option.map_eq_some_iff.mp e
  rw [Array.getElem?_toList] at hc
  have hl:i < z.cps.size:=(Array.getElem?_eq_some_iff.mp hc).1
  refine ⟨hl,fun v H2 y=>?_⟩
  obtain ⟨rfl,c',hc',rfl⟩:=y
  rw [hc] at hc'
  cases hc'
  exact ⟨Hs1,.refl g2,rep_at.mpr rfl⟩
 stop:=fun Hs1 H1 g1 g2=>by
  show (qoh z).length=z.cps.size
  unfold qoh
  rw [List.length_map,Array.length_toList]
instance {te:TE} {a:M} [sa:SemE te a]:SemI (iStr te) (dItS a) where
 h:=fun e _ _ _ _ _ rs _ q=>by
  obtain ⟨x,ex,e1⟩:=bind_some e
  split at e1
  ·cases e1
   exact sa.h ex rs fun v Hs1 H1 x1 r1=>⟨_,rep_at.mp r1,q _ _ _ x1 its_ok⟩
  ·cases e1
end Mi
namespace Mi
open PySem L2
theorem qrr {f:Str} {v:V}:∀ {fs:List (Str × V)},f ∉ fs.map (·.1)->qn6 f v fs=fs++[(f,v)]
 | [],_=>rfl
 | (g,x)::r,h=>by
  rw [List.map_cons] at h
  unfold qn6
  rw [if_neg (show ¬ g=f from fun z=>h (by rw [<- z];exact List.mem_cons_self)),qrr fun z=>h (List.mem_cons_of_mem _ z)]
  rfl
def wSetFC (C:Addr) (f:Str) (a:W):WS:=fun ε N _=>a ε fun y ε1=>∃ ns xs,ε1[0]?=some (.ow (.ob C ns xs))/\f ∉ ns/\ns.length < 1000/\N (ε1.set 0 (.ow (.ob C (ns++[f]) (xs++[y]))))
instance {K:PySem.W.Frag} {C:Addr} {f:Str} {te:TE} {a:W} [c:ClsI K C] [n:NoA K C f] [sa:SemW te a]:SemWS (sFld K (qiu 0) te f) (wSetFC C f a) where
 h:=fun h _ _ _ _ _ _ rd _ k _=>sa.h h rd fun y ε1 v Hs1 H1 h1 rd1 g1 r1=>by
  obtain ⟨ns,xs,he,hf,hl,h2⟩:=h1
  obtain ⟨p,hp,h0,hs,dx,fs,hH,hk,hr⟩:=rd1.ow 0 _ he
  have hf':f ∉ fs.map (·.1):=by rw [hk];exact hf
  have hl':fs.length < 1000:=by rw [<- List.length_map (f:=(·.1)),hk];exact hl
  refine ⟨_,hp,p,C,dx,fs,rfl,hH,c.c,n.n,hl',?_⟩
  rw [qrr hf']
  exact k _ _ _ _ h2 (rd1.change he hp ⟨dx,_,qan,by rw [List.map_append,hk];rfl,by rw [List.map_append];exact hr.append (.one r1)⟩) g1
def qmd (C:Addr) (nm:Str) (m:List PV->Option PV) (i:Nat) (as:MA):M:=fun ε=>match ε[i]? with
 | some (.ow (.ob C' ns fs))=>if C'=C/\nm ∉ ns then (as ε).bind fun xs=>(m (.ob C ns fs::xs)).bind fun y=>match y with
  | .at u=>some (.at u)
  | _=>none else none
 | _=>none
instance {C:Addr} {nm:Str} {m:List PV->Option PV} {i:Nat} {ta:TA} {as:MA} {E:XK} [sa:qpv ta as]:SemE (qp3 C nm (spP m) [] E (qiu i) ta) (qmd C nm m i as) where
 h:=fun {ε y} e {Hs0 H0 Hs H σ} rs {Q} q=>by
  unfold qmd at e
  split at e
  ·rename_i C' ns fs hi
   split at e
   ·rename_i hc
    obtain ⟨rfl,hn⟩:=hc
    obtain ⟨xs,ex,e1⟩:=bind_some e
    obtain ⟨z,ez,e2⟩:=bind_some e1
    split at e2
    ·rename_i u
     cases e2
     obtain ⟨p,hp,n0,n,dx,gs,hH,hk,hr⟩:=rs.ow i _ hi
     refine ⟨_,hp,p,dx,gs,rfl,hH,qg2 (by rw [hk];exact hn),sa.h ex rs fun vs Hs1 H1 x1 r1=>?_⟩
     have hH1:=x1.s2 _ _ hH
     have n1:Hs1 p=none:=x1.s4 p (by rw [hH];exact fun z=>nomatch z) n
     have g:Same Hs1 (upd Hs1 p (.ins C' dx gs)):=fun b w e=>by rw [qam (qai e n1)];exact e
     refine ⟨upd Hs1 p (.ins C' dx gs),_,_,?_,?_,ez,fun v Hs' H' x r=>?_⟩
     ·intro b w e
      by_cases hb:b=p
      ·subst hb;rw [qan] at e;cases e;exact hH1
      ·rw [qam hb] at e;exact x1.s3 _ _ e
     ·rw [List.append_nil]
      exact .cons (rep_ob.mpr ⟨p,dx,gs,rfl,qan,hk,(hr.mono x1.s1).mono g⟩) (r1.mono g)
     ·cases rep_at.mp r
      refine q _ (fun b=>if b=p then none else Hs' b) H' (x1.trans ⟨fun b w e=>?_,x.s2,fun b w e=>?_,fun b hb w=>?_⟩) (rep_at.mpr rfl)
      ·rw [if_neg (qai e n1)];exact x.s1 _ _ (g _ _ e)
      ·split at e
       ·cases e
       ·exact x.s3 _ _ e
      ·by_cases hbp:b=p
       ·rw [if_pos hbp]
       ·rw [if_neg hbp];exact x.s4 b hb (by rw [qam hbp];exact w)
    ·cases e2
   ·cases e
  ·cases e
def spI (C:Addr) (m:List PV->Option PV):Sp:=fun vs H Q _=>∃ Hs x dx xs ws y,vs = .ref x::ws/\Same Hs H/\H x=some (.ins C dx [])/\Hs x=none/\Reps Hs xs ws/\m xs=some y /\
 ∀ Hs' H',Same Hs Hs'->(∀ b o,H b=some o->b ≠ x->H' b=some o)->Same Hs' H'->(∀ b,H b ≠ none->b ≠ x->Hs b=none->Hs' b=none)->Rep Hs' y (.ref x)->Q .non H'
instance {C:Addr} {m:List PV->Option PV} {ta:TA} {as:MA} {E:XK} {ds:List V} [sa:qpv ta as]:SemE (quv C (spI C m) ds E ta) (qxe m ds as) where
 h:=fun e _ _ _ _ _ rs _ q=>by
  obtain ⟨xs,ex,e1⟩:=bind_some e
  refine sa.h ex rs fun vs Hs1 H1 x1 r1=>fun x dx hx hdx hne=>?_
  have s3:Same Hs1 (upd (upd H1 dx (.own x)) x (.ins C dx [])):=fun b o e=>by
   have e':=x1.s3 _ _ e
   rw [qam (qai e' hx),qam (qai e' hdx)]
   exact e'
  refine ⟨Hs1,x,dx,_,_,_,rfl,s3,qan,x1.s3.free hx,r1.append (.ofAts ds),e1,fun Hs' H' g1 g2 g3 g4 r=>⟨rfl,q _ _ _ (x1.trans ⟨g1,fun b o e=>?_,g3,fun b hb z=>?_⟩) r⟩⟩
  ·refine g2 b o ?_ (qai e hx)
   rw [qam (qai e hx),qam (qai e hdx)]
   exact e
  ·have hbx:b ≠ x:=fun w=>hb (by rw [w];exact hx)
   have hbd:b ≠ dx:=fun w=>hb (by rw [w];exact hdx)
   exact g4 b (by rw [qam hbx,qam hbd];exact hb) hbx z
section
variable {P:Program} {w:World} {K:PySem.W.Frag} {mg:Str->Option Value} {base:Heap}
theorem qvg {N:List Str} {Hs H:Hp} {a:Addr} {y:PV} {xs:List PV} {ws:List V} (s:Same Hs H) (ha:Hs a=none) (t:Top Hs H a y) (r:Reps Hs xs ws) :
  RD [a] Hs H Hs H (L2.start N (.ref a::ws)) (.ow y::xs.map .sh++List.replicate (N.length - (xs.length + 1)) .no):=by
 have q:=qe6 (N:=N) (xs:= .at (.ref a)::xs) s (.cons (rep_at.mpr rfl) r)
 have tl:∀ (i:Nat) (sl:MSlot),(MSlot.ow y::xs.map .sh++List.replicate (N.length - (xs.length + 1)) .no)[i + 1]?=some sl->((PV.at (.ref a)::xs).map MSlot.sh++List.replicate (N.length - (PV.at (.ref a)::xs).length) .no)[i + 1]?=some sl:=fun i sl h=>h
 refine ⟨.refl _,fun b o e _=>e,s,fun _ _ z=>z,fun i x h=>?_,fun i x h=>?_,fun i j x y b h1 h2 _ _=>?_,?_,fun b hb=>?_,fun b hb=>?_,(fun b hb=>⟨_,rfl⟩),fun i x h=>by
  cases i with
  | zero=>simp at h
  | succ i=>exact qp8 (xs:=PV.at (.ref a)::xs) (tl i _ h)⟩
 ·cases i with
  | zero=>simp at h
  | succ i=>exact q.sh (i + 1) x (tl i _ h)
 ·cases i with
  | zero =>
   simp at h
   subst h
   exact ⟨a,by unfold L2.start;rfl,.inr (List.mem_singleton.mpr rfl),ha,t⟩
  | succ i=>exact absurd (tl i _ h) (qgv (xs:=PV.at (.ref a)::xs))
 ·cases i with
  | zero =>
   cases j with
   | zero=>rfl
   | succ j=>exact absurd (tl j _ h2) (qgv (xs:=PV.at (.ref a)::xs))
  | succ i=>exact absurd (tl i _ h1) (qgv (xs:=PV.at (.ref a)::xs))
 ·exact q.len
 ·rw [List.mem_singleton.mp hb];unfold L2.start;rfl
 ·rw [List.mem_singleton.mp hb];exact t.there
end
end Mi
namespace Mi
open PySem L2
variable {fr:Bool}
def qln (c:WT) (b:WS):Nat->WS
 | 0=>fun _ _ _=>False
 | n + 1=>fun ε N R=>c ε fun k ε1=>if k=true then b ε1 (fun ε2=>qln c b n ε2 N R) R else N ε1
instance {t:TT} {tb:TS} {c:WT} {b:WS} {n:Nat} [sc:qn1 t c] [sb:SemWS tb b]:SemWS (tWhile t tb) (qln c b n) where
 h:=fun {ε N R} h S Hs0 H0 Hs H σ rd D k rt=>by
  refine ⟨fun m σ H=>∃ Hs1 ε,RD S Hs H0 Hs1 H σ ε/\qln c b m ε N R,⟨n,Hs,ε,rd.rebase,h⟩,?_⟩
  rintro m σ1 H1 ⟨Hs1,ε1,r1,h1⟩
  cases m with
  | zero=>exact h1.elim
  | succ m =>
   refine sc.h h1 r1 fun v ε2 Hs2 H2 h2 r2 g2=>?_
   cases v with
   | true =>
    refine qr2 ⟨fun σ' H'=>∃ Hs3 ε,RD S Hs H0 Hs3 H' σ' ε/\qln c b m ε N R,fun σ' H' p=>⟨m,Nat.lt_succ_self m,p⟩,sb.h (by simpa using h2) r2 (fun ε3 σ3 Hs3 H3 h3 r3 _=>⟨Hs3,ε3,r3,h3⟩) fun y ε3 σ3 v Hs3 H3 h3 r3 g3 rv=>?_⟩
    exact rt y ε3 σ3 v Hs3 H3 h3 (rd.unbase r3) r3.s1 rv
   | false=>exact qr3 (k _ _ _ _ (by simpa using h2) (rd.unbase r2) r2.s1)
theorem qn8 {c:WT} {b:WS} {N:ME->Prop} {R:PV->ME->Prop} [C:qrb c] [B:qn3 b] (I:Nat->ME->Prop)
  (hs:∀ m ε,I m ε->c ε fun k ε1=>if k=true then ∃ m',m=m' + 1/\b ε1 (fun ε2=>I m' ε2) R else N ε1):∀ (n m:Nat) (ε:ME),I m ε->m < n->qln c b n ε N R
 | 0,_,_,_,h=>absurd h (Nat.not_lt_zero _)
 | n + 1,m,ε,h,hn=>C.h (fun v ε1 h1=>qjb (fun ⟨m',e,h2⟩=>B.h (fun ε2 h3=>qn8 I hs n m' ε2 h3 (by omega)) (fun _ _ q=>q) h2) (fun h2=>h2) h1) (hs m ε h)
structure ItOkB (J:It) (xs:List PV) (Hs H:Hp):Prop where
 go:∀ (i:Nat) (x:PV) (Hs1 H1:Hp),xs[i]?=some x->Same Hs Hs1->Same H H1->Same Hs1 H1->J.go i H1/\∀ v H2,J.yld i H1 v H2->∃ Hs2,Ext Hs1 H1 Hs2 H2/\Rep Hs2 x v
 stop:∀ (Hs1 H1:Hp),Same Hs Hs1->Same H H1->Same Hs1 H1->J.stop xs.length H1
class SemIB (ti:TI) (f:MA):Prop where
 h:∀ {ε xs},f ε=some xs->∀ {Hs0 H0 Hs H σ},RS Hs0 H0 Hs H σ ε->∀ {R:It->Hp->Prop},(∀ J Hs' H',Ext Hs H Hs' H'->ItOkB J xs Hs' H'->R J H')->ti σ H R
instance {K:PySem.W.Frag} {te:TE} {a:M} [sa:qic te a]:SemIB (iList K te) (qfg a) where
 h:=fun e _ _ _ _ _ rs _ q=>by
  obtain ⟨x,ex,e1⟩:=bind_some e
  split at e1
  ·cases e1
   refine sa.h ex rs fun v Hs1 H1 x1 r1=>?_
   obtain ⟨p,vs,rfl,hp,r⟩:=qbd x1.s3 r1
   refine ⟨p,rfl,⟨vs,SqL.of hp⟩,q _ _ _ x1 ⟨fun i x Hs2 H2 ei g1 g2 g3=>?_,fun Hs2 H2 g1 g2 g3=>⟨vs,SqL.of (g2 _ _ hp),by rw [r.length];exact Nat.le_refl _⟩⟩⟩
   obtain ⟨v,ev,rv⟩:=r.get ei
   refine ⟨⟨vs,v,SqL.of (g2 _ _ hp),ev⟩,fun w H3 y=>?_⟩
   obtain ⟨rfl,y⟩:=y
   have z:=y vs (SqL.of (g2 _ _ hp))
   rw [ev] at z
   cases z
   exact ⟨Hs2,.refl g3,rv.mono g1⟩
  ·cases e1
def qq3 (cap:List (Option Nat)) (ts:List Nat) (i:MA) (g:MG) (c:MB) (f:M):M:=fun ε=>(i ε).bind fun xs=>if capB cap ts=true/\xs.length<=lim then (qea g c f (qib cap ε) xs).bind fun ys=>some (.lst ys) else none
instance {wi:TI} {tg:TG} {ts:List Nat} {tt:TT} {te:TE} {cap:List (Option Nat)} {i:MA} {g:MG} {c:MB} {f:M} [si:SemIB wi i] [sg:SemG tg ts g] [sc:qmj tt c] [sf:SemE te f]:qn2 (qp4 wi tg tt te cap) (qq3 cap ts i g c f) where
 h:=fun e Hs0 H0 Hs H σ rs Q q=>by
  obtain ⟨xs,ex,e1⟩:=bind_some e
  split at e1
  ·rename_i hcl
   obtain ⟨hcap,hl⟩:=hcl
   unfold capB at hcap
   rw [Bool.and_eq_true] at hcap
   obtain ⟨ys,ey,e2⟩:=bind_some e1
   cases e2
   refine si.h ex rs fun J Hs1 H1 x1 ok=>?_
   have rc:=((rs.go x1).cap (of_decide_eq_true hcap.1)).rebase
   have wk:∀ i ∈ ts,(qei cap σ)[i]?=some none:=fun i hi=>by
    unfold qei
    rw [List.getElem?_map,of_decide_eq_true (List.all_eq_true.mp hcap.2 i hi)]
    rfl
   refine ⟨fun k m zs H=>m=xs.length - k/\k<=xs.length/\∃ Hs2 ws,Ext Hs1 H1 Hs2 H/\RS Hs1 H0 Hs2 H (qei cap σ) (qib cap _)/\Reps Hs2 ws zs/\ws.length<=k/\∃ rest,qea g c f (qib cap _) (xs.drop k)=some rest/\ys=ws++rest,
    ⟨xs.length,by simp,Nat.zero_le _,Hs1,[],.refl x1.s3,rc,.nil,Nat.le_refl _,ys,ey,rfl⟩,?_⟩
   rintro k m zs H2 ⟨rfl,hk,Hs2,ws,x2,r2,rz,hw,rest,er,eys⟩
   refine ⟨qec (by rw [rz.length];omega),?_⟩
   by_cases hlt:k < xs.length
   ·have hd:xs.drop k=xs[k]::xs.drop (k + 1):=List.drop_eq_getElem_cons hlt
    rw [hd] at er
    unfold qea at er
    obtain ⟨ε1,eg,er1⟩:=bind_some er
    obtain ⟨b,eb,er2⟩:=bind_some er1
    obtain ⟨go,yl⟩:=ok.go k xs[k] Hs2 H2 (by simp [hlt]) x2.s1 x2.s2 x2.s3
    refine .inr ⟨go,fun v H3 y=>?_⟩
    obtain ⟨Hs3,x3,r3⟩:=yl v H3 y
    refine sg.h eg (r2.go x3) r3 fun σ2 rs2 bt=>⟨bt.wk wk,sc.h eb rs2 fun Hs4 H4 x4=>?_⟩
    cases b with
    | true =>
     rw [if_pos rfl] at er2
     obtain ⟨z,ez,er3⟩:=bind_some er2
     obtain ⟨rest',er4,er5⟩:=bind_some er3
     cases er5
     refine qr2 (sf.h ez (rs2.go x4) fun u Hs5 H5 x5 r5=>⟨xs.length - (k + 1),by omega,rfl,hlt,Hs5,ws++[z],x2.trans (x3.trans (x4.trans x5)),((r2.go x3).go x4).go x5,?_,?_,rest',er4,?_⟩)
     ·exact (rz.mono (x3.s1.trans (x4.s1.trans x5.s1))).snoc r5
     ·rw [List.length_append];simp;omega
     ·rw [List.append_assoc];exact eys
    | false =>
     rw [if_neg Bool.false_ne_true] at er2
     exact qr3 ⟨xs.length - (k + 1),by omega,rfl,hlt,Hs4,ws,x2.trans (x3.trans x4),(r2.go x3).go x4,rz.mono (x3.s1.trans x4.s1),by omega,rest,er2,eys⟩
   ·have ek:k=xs.length:=by omega
    subst ek
    rw [List.drop_length] at er
    unfold qea at er
    cases er
    refine .inl ⟨ok.stop Hs2 H2 x2.s1 x2.s2 x2.s3,fun D hD=>?_⟩
    rw [List.append_nil] at eys
    subst eys
    have x12:=x1.trans x2
    exact q D Hs2 _ (x12.trans (.newO x2.s3 hD)) (x12.s2.free hD) (x2.s3.free hD) ⟨zs,qan,rz⟩
  ·cases e1
def dSlS (a:M) (l u:ME->Option (Option Int)):M:=fun ε=>(a ε).bind fun x=>(l ε).bind fun lo=>(u ε).bind fun hi=>match x,lo,hi with
 | .at (.str z),none,some j=>if z.length<=lim then some (.at (.str (Txt.slice z none (some j)))) else none
 | .at (.str z),some i,none=>if z.length<=lim then some (.at (.str (Txt.slice z (some i) none))) else none
 | _,_,_=>none
instance {te:TE} {tl th:TO} {a:M} {l u:ME->Option (Option Int)} [sa:qic te a] [sl:SemP tl l] [su:SemP th u]:SemE (tSlS te tl th) (dSlS a l u) where
 h:=fun e _ _ _ _ _ rs _ q=>by
  obtain ⟨x,ex,e1⟩:=bind_some e
  obtain ⟨lo,el,e2⟩:=bind_some e1
  obtain ⟨hi,eu,e3⟩:=bind_some e2
  refine sa.h ex rs fun v Hs1 H1 x1 r1=>sl.h el (rs.go x1) fun Hs2 H2 x2=>su.h eu ((rs.go x1).go x2) fun Hs3 H3 x3=>?_
  split at e3
  ·split at e3
   ·rename_i hz
    cases e3
    exact ⟨_,qa0 r1,qec hz,.inl ⟨rfl,_,rfl⟩,q _ _ _ (x1.trans (x2.trans x3)) (rep_at.mpr rfl)⟩
   ·cases e3
  ·split at e3
   ·rename_i hz
    cases e3
    exact ⟨_,qa0 r1,qec hz,.inr ⟨rfl,_,rfl⟩,q _ _ _ (x1.trans (x2.trans x3)) (rep_at.mpr rfl)⟩
   ·cases e3
  ·cases e3
section
variable {ε:ME} {c d:MB} {f:M} {a b:WS} {N:ME->Prop} {R:PV->ME->Prop}
theorem qfj (h:c ε=some false) (k:b ε N R):qrg (wPT c) a b ε N R:=by
 refine ⟨false,h,?_⟩
 show if false=true then a ε N R else b ε N R
 rw [if_neg Bool.false_ne_true]
 exact k
theorem qi0 (h:c ε=some true) (k:a ε N R):qrg (wPT c) a b ε N R:=by
 refine ⟨true,h,?_⟩
 show if true=true then a ε N R else b ε N R
 rw [if_pos rfl]
 exact k
theorem qko (h1:c ε=some false) (h2:d ε=some false):dOr c d ε=some false:=by
 unfold dOr;rw [h1];show (if false=true then some true else d ε)=_;rw [if_neg Bool.false_ne_true];exact h2
theorem dOr_t (h1:c ε=some true):dOr c d ε=some true:=by unfold dOr;rw [h1];rfl
theorem dOr_r (h1:c ε=some false) (h2:d ε=some true):dOr c d ε=some true:=by
 unfold dOr;rw [h1];show (if false=true then some true else d ε)=_;rw [if_neg Bool.false_ne_true];exact h2
theorem dAnd_r {v:Bool} (h1:c ε=some true) (h2:d ε=some v):dAnd c d ε=some v:=by
 unfold dAnd;rw [h1];show (if true=true then d ε else some false)=_;rw [if_pos rfl];exact h2
theorem qde (h:c ε=some true):qjg c ε=some false:=by unfold qjg;rw [h];rfl
theorem qdv {v:Bool} (h:f ε=some (.at (.bl v))):qk3 f ε=some v:=by unfold qk3;rw [h];rfl
theorem qe2 {v:Bool} (h:f ε=some (.at (.bl v))):dT f ε=some v:=by unfold dT;rw [h];rfl
theorem qjc {xs:List PV}:qi5 [.lst xs,.at (.ty "list")]=some (.at (.bl true)):=by
 unfold qi5 tyP
 simp only [Option.bind_some,qoc]
end
end Mi
namespace Mi
open PySem L2
variable {fr:Bool}
theorem qsc {g:MG} {f:M} {ε0:ME} {α:Type} (F G:α->PV):∀ (l:List α),(∀ a ∈ l,∃ ε1,g (F a) ε0=some ε1/\f ε1=some (G a))->qea g qd7 f ε0 (l.map F)=some (l.map G)
 | [],_=>rfl
 | a::l,h=>by
  obtain ⟨ε1,e1,e2⟩:=h a List.mem_cons_self
  have ih:=qsc F G l fun b hb=>h b (List.mem_cons_of_mem _ hb)
  show Option.bind (g (F a) ε0) (fun ε1=>Option.bind (qd7 ε1) fun b=>if b=true then (f ε1).bind fun y=>(qea g qd7 f ε0 (l.map F)).bind fun ys=>some (y::ys) else qea g qd7 f ε0 (l.map F))=_
  rw [e1,ih]
  show (if true=true then (f ε1).bind fun y=>some (y::l.map G) else some (l.map G))=_
  rw [if_pos rfl,e2]
  rfl
theorem qg5 {g:MG} {c:MB} {f:M} {ε0:ME} {α:Type} (F G:α->PV) (p:α->Bool):∀ (l:List α),(∀ a ∈ l,∃ ε1,g (F a) ε0=some ε1/\c ε1=some (p a)/\(p a=true->f ε1=some (G a)))->qea g c f ε0 (l.map F)=some ((l.filter p).map G)
 | [],_=>rfl
 | a::l,h=>by
  obtain ⟨ε1,e1,e2,e3⟩:=h a List.mem_cons_self
  have ih:=qg5 F G p l fun b hb=>h b (List.mem_cons_of_mem _ hb)
  show Option.bind (g (F a) ε0) (fun ε1=>Option.bind (c ε1) fun b=>if b=true then (f ε1).bind fun y=>(qea g c f ε0 (l.map F)).bind fun ys=>some (y::ys) else qea g c f ε0 (l.map F))=_
  rw [e1,ih]
  show Option.bind (c ε1) (fun b=>if b=true then (f ε1).bind fun y=>some (y::(l.filter p).map G) else some ((l.filter p).map G))=_
  rw [e2,Option.bind_some,List.filter_cons]
  cases hp:p a with
  | true=>rw [if_pos rfl,if_pos rfl,e3 hp];rfl
  | false=>rw [if_neg Bool.false_ne_true,if_neg Bool.false_ne_true]
theorem qfc {cap:List (Option Nat)} {ts:List Nat} {it:MA} {g:MG} {f:M} {ε:ME} {α:Type} (F G:α->PV) (l:List α) (h:it ε=some (l.map F)) (hc:capB cap ts=true) (hl:l.length<=lim) (k:∀ a ∈ l,∃ ε1,g (F a) (qib cap ε)=some ε1/\f ε1=some (G a)) :
  qba cap ts it g qd7 f ε=some (.lst (l.map G)):=qqw h hc (by rw [List.length_map];exact hl) (qsc F G l k)
theorem ev_cf {cap:List (Option Nat)} {ts:List Nat} {it:MA} {g:MG} {c:MB} {f:M} {ε:ME} {α:Type} (F G:α->PV) (p:α->Bool) (l:List α) (h:it ε=some (l.map F)) (hc:capB cap ts=true) (hl:l.length<=lim) (k:∀ a ∈ l,∃ ε1,g (F a) (qib cap ε)=some ε1/\c ε1=some (p a)/\(p a=true->f ε1=some (G a))) :
  qba cap ts it g c f ε=some (.lst ((l.filter p).map G)):=qqw h hc (by rw [List.length_map];exact hl) (qg5 F G p l k)
theorem qeb {g:MG} {f:MS} {α:Type} (F:α->PV) (I:List α->ME->Prop) (h:∀ a l ε,I (a::l) ε->∃ ε1 ε2,g (F a) ε=some ε1/\f ε1=some (.nx ε2)/\I l ε2):∀ (l:List α) (ε:ME),I l ε->∃ ε',qkp g f (l.map F) ε=some (.nx ε')/\I [] ε'
 | [],ε,i=>⟨ε,rfl,i⟩
 | a::l,ε,i=>by
  obtain ⟨ε1,ε2,e1,e2,i2⟩:=h a l ε i
  obtain ⟨ε',e3,i3⟩:=qeb F I h l ε2 i2
  refine ⟨ε',?_,i3⟩
  show Option.bind (g (F a) ε) (fun ε1=>Option.bind (f ε1) fun o=>match o with
   | .nx ε2=>qkp g f (l.map F) ε2
   | .ct ε2=>qkp g f (l.map F) ε2
   | .bk ε2=>some (.nx ε2)
   | .rt y=>some (.rt y))=_
  rw [e1,Option.bind_some,e2]
  exact e3
section
variable {ε:ME} {a b:M} {v w:Bool}
theorem qeg (h1:a ε=some (.at (.bl true))) (h2:b ε=some (.at (.bl w))):qia a b ε=some (.at (.bl w)):=by unfold qia;rw [h1];exact h2
theorem qwx (h1:a ε=some (.at (.bl v))):qw9 a ε=some (.at (.bl (!v))):=by unfold qw9;rw [h1];rfl
theorem qwz {c:MB} {x:PV} (h:c ε=some true) (k:a ε=some x):dIf c a b ε=some x:=by unfold dIf;rw [h];exact k
theorem qnq {c:MB} {x:PV} (h:c ε=some false) (k:b ε=some x):dIf c a b ε=some x:=by unfold dIf;rw [h];exact k
theorem qnr {g g':PV->PV->Option PV} {c:M} {x y z:PV} {r:Bool} (h1:a ε=some x) (h2:b ε=some y) (h3:g x y=some (.at (.bl true))) (h4:c ε=some z) (h5:g' y z=some (.at (.bl r))):qkq g g' a b c ε=some (.at (.bl r)):=by
 unfold qkq;rw [h1,Option.bind_some,h2,Option.bind_some,h3];show Option.bind (c ε) _=_;rw [h4];exact h5
theorem qkn {x:PV} (h:a ε=some x):qnt a ε=some (.nx ε):=by unfold qnt;rw [h];rfl
theorem ev_asg {G:MG} {ε':ME} {x:PV} (h:a ε=some x) (k:G x ε=some ε'):dAsg G a ε=some (.nx ε'):=by unfold dAsg;rw [h,Option.bind_some,k];rfl
theorem qch:qd8 ε=some (.nx ε):=rfl
theorem qwy {xs:List PV} (h:a ε=some (.lst xs)):qfg a ε=some xs:=by unfold qfg;rw [h];rfl
theorem qkm {C:Addr} {f:Str} {ns:List Str} {xs:List PV} {y:PV} (h:a ε=some (.ob C ns xs)) (k:qtj f ns xs=some y):qud C f a ε=some y:=by unfold qud;rw [h,Option.bind_some];show (if C=C then _ else _)=_;rw [if_pos rfl];exact k
theorem qfw {C:Addr} {nm:Str} {m:List PV->Option PV} {as:MA} {ns:List Str} {fs xs:List PV} {y:Option PV} (h:a ε=some (.ob C ns fs)) (hn:nm ∉ ns) (k:as ε=some xs) (e:m (.ob C ns fs::xs)=y):qgi C nm m a as ε=y:=by
 unfold qgi;rw [h,Option.bind_some];show (if C=C/\nm ∉ ns then _ else _)=_;rw [if_pos ⟨rfl,hn⟩,k];exact e
theorem qr8 {n k:Nat} {bd:MS} {xs:List PV} {ε':ME} (hl:xs.length=k) (h:bd (xs.map .sh++List.replicate (n - k) .no)=some (.nx ε')):dFn n k bd xs=some (.at .non):=by unfold dFn;rw [if_pos hl,h];rfl
theorem qwl {n:Int}:qi5 [.at (.int n),.at (.ty "int")]=some (.at (.bl true)):=by
 unfold qi5 tyP;simp only [Option.bind_some,qsu]
theorem qr4 {n:Int}:qi5 [.at (.int n),.at (.ty "bool")]=some (.at (.bl false)):=by
 unfold qi5 tyP;simp only [Option.bind_some,qp1]
theorem qwk {n:Str}:qi5 [.at (.str n),.at (.ty "str")]=some (.at (.bl true)):=by
 unfold qi5 tyP;simp only [Option.bind_some,qst]
theorem qwj {n:List PV}:qi5 [.tup n,.at (.ty "tuple")]=some (.at (.bl true)):=by
 unfold qi5 tyP;simp only [Option.bind_some,qk8]
theorem bls_of:∀ bs:List Bool,bls (bs.map fun b=> .at (.bl b))=some bs
 | []=>rfl
 | b::bs=>by
  have ih:=bls_of bs
  rw [List.map_cons]
  unfold bls
  rw [ih];rfl
theorem qwo:∀ bs:List Int,qki (bs.map fun b=> .at (.int b))=some bs
 | []=>rfl
 | b::bs=>by
  have ih:=qwo bs
  rw [List.map_cons]
  unfold qki
  rw [ih];rfl
theorem all_of (bs:List Bool):pAll [.lst (bs.map fun b=> .at (.bl b))]=some (.at (.bl (bs.all id))):=by
 show (bls _).bind _=_;rw [bls_of];rfl
theorem qhw {α:Type} (l:List α):pAll [.lst (l.map fun _=> .at (.bl true))]=some (.at (.bl true)):=by
 have e:(l.map fun _=>PV.at (.bl true))=((l.map fun _=>true).map fun b=>PV.at (.bl b)):=by rw [List.map_map];rfl
 rw [e,all_of]
 have:(l.map fun _=>true).all id=true:=by simp
 rw [this]
end
end Mi
namespace Mi
open PySem L2
def minI:List Int->Int
 | []=>0
 | x::l=>l.foldl (fun b y=>if y < b then y else b) x
theorem qj8 (l:List Int):∀ b:Int,l.foldl (fun b y=>if y < b then y else b) b<=b/\(∀ y ∈ l,l.foldl (fun b y=>if y < b then y else b) b<=y)/\(l.foldl (fun b y=>if y < b then y else b) b=b ∨ l.foldl (fun b y=>if y < b then y else b) b ∈ l):=by
 induction l with
 | nil=>intro b;exact ⟨Int.le_refl _,(fun _ z=>nomatch z),.inl rfl⟩
 | cons x l ih =>
  intro b
  rw [List.foldl_cons]
  obtain ⟨h1,h2,h3⟩:=ih (if x < b then x else b)
  have hx:(if x < b then x else b)<=b/\(if x < b then x else b)<=x:=by split <;> omega
  refine ⟨by omega,fun y hy=>?_,?_⟩
  ·rcases List.mem_cons.mp hy with rfl | hy
   ·omega
   ·exact h2 y hy
  ·rcases h3 with h3 | h3
   ·rw [h3]
    by_cases hc:x < b
    ·rw [if_pos hc];exact .inr List.mem_cons_self
    ·rw [if_neg hc];exact .inl rfl
   ·exact .inr (List.mem_cons_of_mem _ h3)
theorem qrz {l:List Int} (h:l ≠ []):minI l ∈ l:=by
 cases l with
 | nil=>exact absurd rfl h
 | cons x l =>
  rcases (qj8 l x).2.2 with e | e
  ·show l.foldl _ x ∈ _;rw [e];exact List.mem_cons_self
  ·exact List.mem_cons_of_mem _ e
theorem qql {l:List Int} {y:Int} (h:y ∈ l):minI l<=y:=by
 cases l with
 | nil=>cases h
 | cons x l =>
  rcases List.mem_cons.mp h with rfl | h
  ·exact (qj8 l y).1
  ·exact (qj8 l x).2.1 y h
def qs9:List PV->Option PV
 | [.lst xs]=>(qki xs).bind fun ns=>if ns=[] then none else some (.at (.int (minI ns)))
 | _=>none
instance {K:PySem.W.Frag}:SemC (rMinL K) qs9 where
 h:=fun {xs z} e {Hs H vs} s r {Q} q=>by
  unfold qs9 at e
  split at e
  ·obtain ⟨ns,eb,e1⟩:=bind_some e
   split at e1
   ·cases e1
   ·rename_i hne
    cases e1
    obtain ⟨v,rfl,a⟩:=qep r
    obtain ⟨p,ws,rfl,e1,r1⟩:=qbd s a
    rw [qma eb,show (ns.map fun b=>PV.at (.int b))=(ns.map V.int).map .at by rw [List.map_map];rfl] at r1
    cases r1.ats
    refine ⟨p,ns,rfl,SqL.of e1,hne,fun m m1 m2=>?_⟩
    have em:m=minI ns:=Int.le_antisymm (m2 _ (qrz hne)) (qql m1)
    subst em
    exact q _ _ _ (.refl s) (rep_at.mpr rfl)
  ·cases e
def leS (a b:Str):Bool:=!decide (b.cps.toList < a.cps.toList)
def qof (ss:List Str):List Str:=ss.mergeSort leS
theorem qlp (ss:List Str):(qof ss).Perm ss:=List.mergeSort_perm ss leS
theorem sortS_up (ss:List Str):StrUp (qof ss):=by
 have:=List.pairwise_mergeSort (le:=leS) (fun a b c h1 h2=>by
  unfold leS at h1 h2 ⊢
  simp only [Bool.not_eq_true',decide_eq_false_iff_not] at h1 h2 ⊢
  exact List.not_lt.mpr (List.le_trans (List.not_lt.mp h1) (List.not_lt.mp h2))) (fun a b=>by
  unfold leS
  by_cases h:b.cps.toList < a.cps.toList
  ·have h2:¬ (a.cps.toList < b.cps.toList):=fun k=>List.lt_irrefl _ (List.lt_trans h k)
   simp [h2]
  ·simp [h]) ss
 exact this.imp fun h=>by unfold leS at h;simpa using h
theorem qmw {ss ss':List Str} (p:ss'.Perm ss) (u:StrUp ss'):ss'=qof ss :=
 List.Perm.eq_of_pairwise (fun a b _ _ h1 h2=>by
  have e:=List.le_antisymm (List.not_lt.mp h1) (List.not_lt.mp h2)
  cases a;cases b
  simp only [Str.mk.injEq]
  exact Array.toList_inj.mp e) u (sortS_up ss) (p.trans (qlp ss).symm)
def qih:List PV->Option (List Str)
 | []=>some []
 | .at (.str s)::xs=>(qih xs).map (s::·)
 | _::_=>none
theorem qhx:∀ {xs:List PV} {ss:List Str},qih xs=some ss->xs=ss.map fun s=> .at (.str s)
 | [],_,h=>by cases h;rfl
 | x::xs,ss,h=>by
  unfold qih at h
  split at h
  ·rename_i e;cases e
  ·rename_i s' xs' e
   injection e with e1 e2
   subst e1 e2
   obtain ⟨r,hr,rfl⟩:=Option.map_eq_some_iff.mp h
   rw [qhx hr];rfl
  ·cases h
def qo2:List Key->Option (List Str)
 | []=>some []
 | .inr s::xs=>(qo2 xs).map (s::·)
 | _::_=>none
theorem qkg:∀ {xs:List Key} {ss:List Str},qo2 xs=some ss->xs=ss.map Sum.inr
 | [],_,h=>by cases h;rfl
 | x::xs,ss,h=>by
  unfold qo2 at h
  split at h
  ·rename_i e;cases e
  ·rename_i s' xs' e
   injection e with e1 e2
   subst e1 e2
   obtain ⟨r,hr,rfl⟩:=Option.map_eq_some_iff.mp h
   rw [qkg hr];rfl
  ·cases h
def qvv:List PV->Option PV
 | [.lst xs]=>(qih xs).bind fun ss=>if ss.length < 64 then some (.lst ((qof ss).map fun s=> .at (.str s))) else none
 | [.dk ks _]=>(qo2 ks).bind fun ss=>if ss.length < 64 then some (.lst ((qof ss).map fun s=> .at (.str s))) else none
 | [.fk ks _]=>(qo2 ks).bind fun ss=>if ss.length < 64 then some (.lst ((qof ss).map fun s=> .at (.str s))) else none
 | _=>none
theorem qjt {H:Hp} (ss:List Str):Reps H (ss.map fun s=> .at (.str s)) (ss.map V.str):=by
 have:=Reps.ofAts (H:=H) (ss.map V.str)
 rwa [List.map_map] at this
instance {K:PySem.W.Frag}:SemCO (rSortS K) qvv where
 h:=fun {xs z} e {Hs H vs} s r {Q} q=>by
  unfold qvv at e
  split at e
  ·obtain ⟨ss,eb,e1⟩:=bind_some e
   split at e1
   ·rename_i hl
    cases e1
    obtain ⟨v,rfl,a⟩:=qep r
    obtain ⟨p,ws,rfl,e1,r1⟩:=qbd s a
    rw [qhx eb,show (ss.map fun b=>PV.at (.str b))=(ss.map V.str).map .at by rw [List.map_map];rfl] at r1
    cases r1.ats
    refine ⟨p,ss,rfl,.inl (SqL.of e1),hl,fun l ss' hn p1 p2=>?_⟩
    rw [qmw p1 p2]
    exact q l _ _ (.newO s hn) hn (s.free hn) ⟨_,qan,qjt _⟩
   ·cases e1
  ·obtain ⟨ss,eb,e1⟩:=bind_some e
   split at e1
   ·rename_i hl
    cases e1
    obtain ⟨v,rfl,a⟩:=qep r
    obtain ⟨p,kvs,rfl,hp,hk,hr⟩:=qfn s a
    refine ⟨p,ss,rfl,.inr ⟨kvs,.inl hp,by rw [hk,qkg eb]⟩,hl,fun l ss' hn p1 p2=>?_⟩
    rw [qmw p1 p2]
    exact q l _ _ (.newO s hn) hn (s.free hn) ⟨_,qan,qjt _⟩
   ·cases e1
  ·obtain ⟨ss,eb,e1⟩:=bind_some e
   split at e1
   ·rename_i hl
    cases e1
    obtain ⟨v,rfl,a⟩:=qep r
    obtain ⟨p,o,kvs,rfl,hp,hk,hr⟩:=qju s a
    refine ⟨p,ss,rfl,.inr ⟨kvs,.inr ⟨o,hp⟩,by rw [hk,qkg eb]⟩,hl,fun l ss' hn p1 p2=>?_⟩
    rw [qmw p1 p2]
    exact q l _ _ (.newO s hn) hn (s.free hn) ⟨_,qan,qjt _⟩
   ·cases e1
  ·cases e
def rSetS (K:PySem.W.Frag):List V->Hp->VK->Prop:=fun xs H Q=>∃ (a:Addr) (ss:List Str),xs=[.ref a]/\SqL K H a (ss.map V.str)/\ss.length<=1000 /\
  ∀ l,H l=none->Q (.ref l) (upd H l (SetO (qck (fun i=>(Sum.inr (ss.getD i ⟨#[]⟩):Key)) ss.length).length l))
theorem qxm {X:Cx} {K:PySem.W.Frag} (hc:X.calm=true) (h:X.K=K):CallR X (.type "set") (rSetS K):=by subst h;exact qxl hc
def manyS (ss:List Str):Nat:=(qck (fun i=>(Sum.inr (ss.getD i ⟨#[]⟩):Key)) ss.length).length
def qvi:List V->Hp->VK->Prop:=fun xs H Q=>∃ (a:Addr) (n:Nat),xs=[.ref a]/\H a=some (SetO n a)/\Q (.int n) H
theorem qph {X:Cx}:CallR X (.builtin "len") qvi:=qq5
def qxa (a:M):M:=fun ε=>(a ε).bind fun x=>match x with
 | .lst xs=>(qih xs).bind fun ss=>if ss.length<=1000 then some (.at (.int (manyS ss))) else none
 | _=>none
instance {K:PySem.W.Frag} {te:TE} {a:M} [sa:qic te a]:SemE (tCB qvi (qc6 (tCB (rSetS K) (qc6 te qiv)) qiv)) (qxa a) where
 h:=fun e _ _ _ _ _ rs _ q=>by
  obtain ⟨x,ex,e1⟩:=bind_some e
  split at e1
  ·obtain ⟨ss,eb,e2⟩:=bind_some e1
   split at e2
   ·rename_i hl
    cases e2
    refine sa.h ex rs fun v Hs1 H1 x1 r1=>?_
    obtain ⟨p,ws,rfl,ep,r2⟩:=qbd x1.s3 r1
    rw [qhx eb,show (ss.map fun b=>PV.at (.str b))=(ss.map V.str).map .at by rw [List.map_map];rfl] at r2
    cases r2.ats
    refine ⟨p,ss,rfl,SqL.of ep,hl,fun l hn=>⟨l,_,rfl,qan,q _ _ _ (x1.trans (.newO x1.s3 hn)) (rep_at.mpr rfl)⟩⟩
   ·cases e2
  ·cases e1
def dRev (a:M) (st:ME->Option (Option Int)):M:=fun ε=>(a ε).bind fun x=>(st ε).bind fun o=>match x with
 | .lst xs=>if o=some (-1) then some (.lst xs.reverse) else none
 | _=>none
instance {K:PySem.W.Frag} {te:TE} {ts:TO} {a:M} {st:ME->Option (Option Int)} [sa:qic te a] [ss:SemP ts st]:qn2 (tRev K te ts) (dRev a st) where
 h:=fun e _ _ _ _ _ rs _ q=>by
  obtain ⟨x,ex,e1⟩:=bind_some e
  obtain ⟨o,eo,e2⟩:=bind_some e1
  split at e2
  ·split at e2
   ·rename_i ho
    cases e2
    refine sa.h ex rs fun v Hs1 H1 x1 r1=>ss.h eo (rs.go x1) fun Hs2 H2 x2=>?_
    obtain ⟨p,ws,rfl,ep,r2⟩:=qbd x2.s3 (r1.ext x2)
    refine ⟨ho,p,ws,rfl,SqL.of ep,fun l hn=>?_⟩
    exact q l _ _ ((x1.trans x2).trans (.newO x2.s3 hn)) ((x1.trans x2).s2.free hn) (x2.s3.free hn) ⟨_,qan,r2.reverse⟩
   ·cases e2
  ·cases e2
structure Mkr (P:Program) (w:World) (K:PySem.W.Frag) (mg:Str->Option Value) (base:Heap) (k:Nat) (C:Addr) (ps:List Str) (sp:Sp):Prop where
 ex:∃ f fd,FnOk P w K mg base CX0 k f fd ps sp/\Mk K C f/\Binds K fd ps []
theorem pe_mk {X:Cx} {k j:Nat} {C:Addr} {ps:List Str} {sp:Sp} {x:Str} {p pos:Pos} {e:Expr} {es:List Expr} {t:TA} (c:Mkr X.prog X.w X.K X.mg X.base k C ps sp) (hr:Room j X.A) (hj:k + 1<=j) (hg:Gl X x) (hm:X.mg x=some (.ref C))
  (ha:PA X (e::es) t) (hdb:(x == ("__debug__":Str))=false:=by decide) (he:starEach (e::es) X.env=(false,eval e X.env)::starEach es X.env:=by rfl) (hpl:(backTo pos (starEach es X.env)).any (·.1)=false:=by rfl) :
  PE X (.Call (.Name x p) (e::es) [] pos) (quv C sp [] E0 t):=by
 obtain ⟨f,fd,F,hm',hb⟩:=c.ex
 exact pe_make hm' F (hr.mono hj) hg hm hb .nil pass0 ha hdb he hpl
instance (priority:=1100) {C:Addr} {m:List PV->Option PV} {ta:TA} {as:MA} {E:XK} [sa:qpv ta as]:SemE (quv C (spI C m) [] E ta) (qaq m as) where
 h:=fun {ε y} e=>SemE.h (te:=quv C (spI C m) [] E ta) (f:=qxe m [] as) (by
  unfold qxe
  unfold qaq at e
  simpa using e)
structure FunD (K:PySem.W.Frag) (x qual:Str) (st:Stmt) (f:Addr) (fd:FuncData):Prop where
 ex:∃ (oc:Value) (od:Option Addr) (dV kV doc pm:Value) (an:Option Addr) (cdv ct:Value) (osl:Array (Option Value)),
  fd=PySem.W.fnOf x qual (qas st) (qal st) (qab st) dV kV doc pm an cdv ct/\K.lookup f=some ⟨oc,od,.func fd,osl⟩/\PySem.W.codeIn K cdv qual=true
 kp:PySem.W.keepIn K (.ref f)=true
section
variable {P:Program} {w:World} {K:PySem.W.Frag} {mg:Str->Option Value} {base:Heap}
theorem FunD.ok {x qual:Str} {st:Stmt} {f:Addr} {fd:FuncData} {N ps:List Str} {k:Nat} {sp:Sp} (F:FunD K x qual st f fd) (S:qar N ps (qab st)) (len:∀ vs H Q E,sp vs H Q E->vs.length=ps.length)
  (hbody:∀ (cdv:Value) (A:Around) (outer:List Env) (s:Shared) (H:Hp) (vs:List V) (Q:VK) (E:XK),Room k (A.deeper (PyProof.Rows.envOfC qual (qab st) s.heap.objs.size f cdv))->sp vs H Q E ->
   ∃ t,PSs (qsa CX0 P w K mg base N qual (qab st) f cdv A outer s H E).nox (qal st) t/\t { nx:=fun _ H'=>Q .non H',rt:=Q } (L2.start N vs) H):FnOk P w K mg base CX0 (k + 1) f fd ps sp:=by
 obtain ⟨oc,od,dV,kV,doc,pm,an,cdv,ct,osl,rfl,lk,hcd⟩:=F.ex
 refine fn_of lk hcd S len fun A outer s H vs Q E hr hsp=>?_
 obtain ⟨t,h,q⟩:=hbody cdv A outer s H vs Q E hr hsp
 exact ⟨t,h.nox,q⟩
theorem fun_mkD {x qual:Str} {st:Stmt} {f:Addr} {oc:Value} {od an:Option Addr} {osl:Array (Option Value)} {dV kV doc pm cdv ct:Value} (l:K.lookup f=some ⟨oc,od,.func (PySem.W.fnOf x qual (qas st) (qal st) (qab st) dV kV doc pm an cdv ct),osl⟩)
  (c:PySem.W.codeIn K cdv qual=true) (k:PySem.W.keepIn K (.ref f)=true):FunD K x qual st f (PySem.W.fnOf x qual (qas st) (qal st) (qab st) dV kV doc pm an cdv ct):=⟨⟨oc,od,dV,kV,doc,pm,an,cdv,ct,osl,rfl,l,c⟩,k⟩
theorem qjw {X:Cx} {o value:Expr} {f:Str} {ta tv:TE} {pos pos':Pos} (hK:X.K=K) (ha:PE X o ta) (hv:PE X value tv) (hs:swapsWith value (some (.Attribute o f pos')) pos.line X.env=pure false:=by rfl):PS X (.Assign [.Attribute o f pos'] value pos) (sFld K ta tv f):=by
 subst hK;exact ps_fld ha hv hs
theorem okI' {x qual:Str} {st:Stmt} {f C:Addr} {fd:FuncData} {N ps:List Str} {k:Nat} {b:WS} {m:List PV->Option PV} (F:FunD K x qual st f fd) (S:qar N ps (qab st))
  (hm:∀ xs y,m xs=some y->xs.length + 1=ps.length)
  (hb:∀ (cdv:Value) (A:Around) (outer:List Env) (s:Shared) (H:Hp) (E:XK),Room k (A.deeper (PyProof.Rows.envOfC qual (qab st) s.heap.objs.size f cdv)) ->
   ∃ t,PSs (qsa CX0 P w K mg base N qual (qab st) f cdv A outer s H E).nox (qal st) t/\SemWS t b)
  (hw:∀ xs y,m xs=some y->b (.ow (.ob C [] [])::xs.map .sh++List.replicate (N.length - (xs.length + 1)) .no) (fun ε=>ε[0]?=some (.ow y)) fun _ _=>False):FnOk P w K mg base CX0 (k + 1) f fd ps (spI C m):=by
 refine F.ok S (fun vs H Q E h=>?_) (fun cdv A outer s H vs Q E hr h=>?_)
 ·obtain ⟨Hs,x,dx,xs,ws,y,rfl,_,_,_,r,e,_⟩:=h
  rw [List.length_cons,r.length]
  exact hm xs y e
 ·obtain ⟨Hs,x,dx,xs,ws,y,rfl,sm,hx,hs,r,e,q⟩:=h
  obtain ⟨t,ht,sem⟩:=hb cdv A outer s H E hr
  refine ⟨t,ht,sem.h (hw xs y e) (qvg sm hs ⟨dx,[],hx,rfl,.nil⟩ r) (fun ε σ Hs' H' z rd g=>?_) fun _ _ _ _ _ _ z _ _ _=>z.elim⟩
  obtain ⟨a,ha,_,n,tp⟩:=rd.ow 0 y z
  rw [rd.pin x (List.mem_singleton.mpr rfl)] at ha
  injection ha with ha;injection ha with ha;injection ha with ha
  subst ha
  obtain ⟨o,ho,ro⟩:=tp.rep n
  have g2:Same Hs' (upd Hs' x o):=fun b u e=>by rw [qam (qai e n)];exact e
  refine q (upd Hs' x o) H' (g.trans g2) (fun b u e hb=>rd.s2 b u e fun w=>hb (List.mem_singleton.mp w)) (fun b u e=>?_) (fun b hb hbx w=>?_) ro
  ·by_cases hbx:b=x
   ·subst hbx;rw [qan] at e;cases e;exact ho
   ·rw [qam hbx] at e;exact rd.s3 _ _ e
  ·rw [qam hbx];exact rd.s4 b hb w
end
def qgm (C:Addr) (f:Str) (a:M):MS:=fun ε=>(a ε).bind fun y=>match (ε[0]?:Option MSlot) with
 | some (.ow (.ob C' ns xs))=>if C'=C/\f ∉ ns/\ns.length < 1000 then some (.nx (ε.set 0 (.ow (.ob C (ns++[f]) (xs++[y]))))) else none
 | _=>none
def wPN (f:MS):WS:=fun ε N _=>∃ ε',f ε=some (.nx ε')/\N ε'
theorem qq2 {C:Addr} {f:Str} {a:M} {ε:ME} {o:Out} (h:qgm C f a ε=some o):∃ y ns xs,a ε=some y/\ε[0]?=some (.ow (.ob C ns xs))/\f ∉ ns/\ns.length < 1000/\o = .nx (ε.set 0 (.ow (.ob C (ns++[f]) (xs++[y])))):=by
 unfold qgm at h
 obtain ⟨y,ey,h1⟩:=bind_some h
 split at h1
 ·rename_i C' ns xs he
  split at h1
  ·rename_i hc
   cases h1
   obtain ⟨rfl,h2,h3⟩:=hc
   exact ⟨y,ns,xs,ey,he,h2,h3,rfl⟩
  ·cases h1
 ·cases h1
instance {K:PySem.W.Frag} {C:Addr} {f:Str} {te:TE} {a:M} [c:ClsI K C] [n:NoA K C f] [sa:SemE te a]:SemWS (sFld K (qiu 0) te f) (wPN (qgm C f a)) where
 h:=fun {ε N R} h=>by
  obtain ⟨ε',e,h1⟩:=h
  obtain ⟨y,ns,xs,ey,he,h2,h3,e4⟩:=qq2 e
  injection e4 with e4
  subst e4
  exact SemWS.h (ts:=sFld K (qiu 0) te f) (w:=wSetFC C f (wP a)) ⟨y,ey,ns,xs,he,h2,h3,h1⟩
instance {te:TE} {a:M} [sa:SemE te a]:SemWS (qiw te) (wPN (qnt a)) where
 h:=fun {ε N R} h=>by
  obtain ⟨ε',e,h1⟩:=h
  obtain ⟨y,ey,e2⟩:=bind_some e
  cases e2
  exact SemWS.h (ts:=qiw te) (w:=wDrop (wP a)) ⟨y,ey,h1⟩
instance qsy {t u:TS} {a b:MS} [sa:SemWS t (wPN a)] [sb:SemWS u (wPN b)]:SemWS (tSeq t u) (wPN (dSeq a b)) where
 h:=fun {ε N R} h S Hs0 H0 Hs H σ rd D k rt=>by
  obtain ⟨ε',e,h1⟩:=h
  obtain ⟨o1,e1,e2⟩:=bind_some e
  refine SemWS.h (ts:=tSeq t u) (w:=wSeq (wPN a) (wPN b)) (ε:=ε) (N:=N) (R:=R) ?_ rd k rt
  cases o1 with
  | nx ε1=>exact ⟨ε1,e1,ε',e2,h1⟩
  | rt y=>cases e2
  | bk ε1=>cases e2
  | ct ε1=>cases e2
def qxb (n k:Nat) (C:Addr) (f:MS):List PV->Option PV:=fun xs=>if xs.length + 1=k then (f (.ow (.ob C [] [])::xs.map .sh++List.replicate (n - k) .no)).bind fun o=>match o with
 | .nx ε=>(match (ε[0]?:Option MSlot) with
  | some (.ow y)=>some y
  | _=>none)
 | _=>none else none
theorem okID {P:Program} {w:World} {K:PySem.W.Frag} {mg:Str->Option Value} {base:Heap} {x qual:Str} {st:Stmt} {f C:Addr} {fd:FuncData} {N ps:List Str} {k:Nat} {b:MS} {m:List PV->Option PV} (F:FunD K x qual st f fd) (S:qar N ps (qab st)) (hm:m=qxb N.length ps.length C b)
  (hb:∀ (cdv:Value) (A:Around) (outer:List Env) (s:Shared) (H:Hp) (E:XK),Room k (A.deeper (PyProof.Rows.envOfC qual (qab st) s.heap.objs.size f cdv)) ->
   ∃ t,PSs (qsa CX0 P w K mg base N qual (qab st) f cdv A outer s H E).nox (qal st) t/\SemWS t (wPN b)):FnOk P w K mg base CX0 (k + 1) f fd ps (spI C m):=by
 subst hm
 refine okI' F S (fun xs y e=>?_) hb (fun xs y e=>?_)
 ·unfold qxb at e
  split at e
  ·rename_i hl;exact hl
  ·cases e
 ·unfold qxb at e
  split at e
  ·rename_i hl
   obtain ⟨o,eo,e1⟩:=bind_some e
   rw [hl]
   cases o with
   | nx ε =>
    refine ⟨ε,eo,?_⟩
    have e2:(match (ε[0]?:Option MSlot) with
     | some (.ow y)=>some y
     | _=>none)=some y:=e1
    show ε[0]?=some (.ow y)
    split at e2
    ·rename_i z hz;cases e2;exact hz
    ·cases e2
   | rt z=>cases e1
   | bk z=>cases e1
   | ct z=>cases e1
  ·cases e
end Mi
namespace Mi
open PySem L2
def qqd:List PV->Option (List (Key × PV))
 | []=>some []
 | .tup [k,v]::xs=>(qwd k).bind fun kk=>(qqd xs).map ((kk,v)::·)
 | _::_=>none
def qng:List PV->Option PV
 | [.lst xs]=>(qqd xs).bind fun ps=>if (ps.map (·.1)).Nodup/\ps.length<=1000 then some (.fk (ps.map (·.1)) (ps.map (·.2))) else none
 | _=>none
theorem prs_at {Hs H:Hp} (s:Same Hs H):∀ {xs:List PV} {ps:List (Key × PV)} {vs:List V},qqd xs=some ps->Reps Hs xs vs->∃ (ts:List Addr) (kvs:List (Key × V)),vs=ts.map V.ref/\Paired (fun t (kv:Key × V)=>H t=some (.tup [kV kv.1,kv.2])) ts kvs/\kvs.map (·.1)=ps.map (·.1)/\Reps Hs (ps.map (·.2)) (kvs.map (·.2))
 | [],ps,vs,h,r=>by
  cases h
  cases reps_nil.mp r
  exact ⟨[],[],rfl,.nil,rfl,.nil⟩
 | x::xs,ps,vs,h,r=>by
  unfold qqd at h
  split at h
  ·rename_i e;cases e
  ·rename_i k v xs' e
   injection e with e1 e2
   subst e1 e2
   obtain ⟨kk,ek,h1⟩:=bind_some h
   obtain ⟨ps',hp,rfl⟩:=Option.map_eq_some_iff.mp h1
   obtain ⟨w,ws,rfl,r1,r2⟩:=reps_cons.mp r
   obtain ⟨t,us,rfl,ht,ru⟩:=rep_tup.mp r1
   obtain ⟨u1,us1,rfl,p1,p2⟩:=reps_cons.mp ru
   obtain ⟨u2,us2,rfl,p3,p4⟩:=reps_cons.mp p2
   cases reps_nil.mp p4
   have ew:=qfv (H:=H) (.inl p1) ek
   subst ew
   obtain ⟨ts,kvs,rfl,q1,q2,q3⟩:=prs_at s hp r2
   exact ⟨t::ts,(kk,u2)::kvs,rfl,.cons (s _ _ ht) q1,by rw [List.map_cons,List.map_cons,q2],.cons p3 q3⟩
  ·cases h
instance:SemC rDictF qng where
 h:=fun {xs z} e {Hs H vs} s r {Q} q=>by
  unfold qng at e
  split at e
  ·obtain ⟨ps,eb,e1⟩:=bind_some e
   split at e1
   ·rename_i hl
    cases e1
    obtain ⟨v,rfl,a⟩:=qep r
    obtain ⟨p,ws,rfl,ep,r1⟩:=qbd s a
    obtain ⟨ts,kvs,rfl,q1,q2,q3⟩:=prs_at s eb r1
    have hk:kvs.length=ps.length:=by have:=congrArg List.length q2;rwa [List.length_map,List.length_map] at this
    refine ⟨p,ts,kvs,rfl,ep,q1,by rw [q2];exact hl.1,by omega,fun l o hn=>?_⟩
    exact q _ _ _ (.new s hn) (rep_fk.mpr ⟨l,o,kvs,rfl,qan,q2,q3.mono (Ext.new s hn).s1⟩)
   ·cases e1
  ·cases e
end Mi
namespace Mi
open PySem L2
end Mi
namespace Mi
open PySem PySem.Spec PyProof.Rows L2
variable {fr:Bool}
def RepsM (Hs H:Hp):List Bool->List PV->List V->Prop
 | [],xs,vs=>xs=[]/\vs=[]
 | b::ms,xs,vs=>∃ x xr v vr,xs=x::xr/\vs=v::vr/\(if b=true then RepB Hs H x v else Rep Hs x v)/\RepsM Hs H ms xr vr
theorem RepsM.length {Hs H:Hp}:∀ {ms:List Bool} {xs:List PV} {vs:List V},RepsM Hs H ms xs vs->xs.length=ms.length/\vs.length=ms.length
 | [],_,_,h=>by rw [h.1,h.2];exact ⟨rfl,rfl⟩
 | b::ms,_,_,h=>by
  obtain ⟨x,xr,v,vr,rfl,rfl,_,r⟩:=h
  have q:=RepsM.length r
  exact ⟨congrArg (· + 1) q.1,congrArg (· + 1) q.2⟩
class qt9 (ms:List Bool) (ta:TA) (f:MA):Prop where
 h:∀ {ε ys},f ε=some ys->∀ {Hs0 H0 Hs H σ},RS Hs0 H0 Hs H σ ε->∀ {Q:List V->Hp->Prop},(∀ vs Hs' H',Ext Hs H Hs' H'->RepsM Hs' H' ms ys vs->Q vs H')->ta σ H Q
instance:qt9 [] qiv qav where
 h:=fun e _ _ _ _ _ rs _ q=>by cases e;exact q _ _ _ (.refl rs.sub) ⟨rfl,rfl⟩
instance {ms:List Bool} {te:TE} {ta:TA} {a:M} {f:MA} [sa:SemE te a] [sr:qt9 ms ta f]:qt9 (false::ms) (qc6 te ta) (qad a f) where
 h:=fun e _ _ _ _ _ rs _ q=>by
  obtain ⟨x,ex,e⟩:=bind_some e
  obtain ⟨xs,ey,e⟩:=bind_some e
  cases e
  exact sa.h ex rs fun v Hs1 H1 x1 r1=>sr.h ey (rs.go x1) fun vs Hs2 H2 x2 r2=>q _ _ _ (x1.trans x2) ⟨_,_,_,_,rfl,rfl,r1.mono x2.s1,r2⟩
section
variable {P:Program} {w:World} {K:PySem.W.Frag} {mg:Str->Option Value} {base:Heap}
end
end Mi
namespace L2
open PySem PySem.Spec PyProof.Rows
section
variable {X:Cx} {k j:Nat} {C:Addr} {m x:Str} {ps:List Str} {sp:Sp} {o e c:Expr} {es:List Expr} {te ta:TE} {t:TA} {tc:TT} {apos pos p:Pos} {E:XK} {σ:St} {st:Stmt} {a b:List Stmt} {u v:TS}
end
section
variable {X:Cx} {K:PySem.W.Frag} {x n:Str} {i:Nat} {D0:Addr} {cs:List Addr} {body suite:List Stmt} {b₀:Stmt} {tb:XK->TS} {ts:Addr->Addr->TS} {np hpos pos:Pos}
end
end L2
namespace Mi
open PySem L2
section
variable {ms:List Bool} {m:List PV->Option PV} {x:List PV->Addr->Prop} {ta:TA} {as:MA} {E:XK} {C:Addr} {nm:Str} {te:TE} {a:M}
end
section
variable {P:Program} {w:World} {K:PySem.W.Frag} {mg:Str->Option Value} {base:Heap}
end
variable {fr:Bool}
section
variable {P:Program} {w:World} {K:PySem.W.Frag} {mg:Str->Option Value} {base:Heap}
end
end Mi
namespace Mi
open PySem L2
inductive DT where
 | sh (x:PV) | ls (xs:List DT)
mutual
def DT.pv:DT->PV
 | .sh x=>x
 | .ls xs=> .lst (DT.pvs xs)
def DT.pvs:List DT->List PV
 | []=>[]
 | x::xs=>x.pv::DT.pvs xs
end
mutual
def Dp (Hs H:Hp):DT->V->List Addr->Prop
 | .sh x,v,F=>F=[]/\Rep Hs x v
 | .ls xs,v,F=>∃ a vs G,v = .ref a/\H a=some (.lst vs)/\Dps Hs H xs vs G/\F=a::G/\a ∉ G
def Dps (Hs H:Hp):List DT->List V->List Addr->Prop
 | [],vs,F=>vs=[]/\F=[]
 | x::xs,vs,F=>∃ v r F1 F2,vs=v::r/\Dp Hs H x v F1/\Dps Hs H xs r F2/\F=F1++F2/\∀ a ∈ F1,a ∉ F2
end
theorem dp_sh {Hs H:Hp} {x:PV} {v:V} {F:List Addr}:Dp Hs H (.sh x) v F ↔ F=[]/\Rep Hs x v:=by unfold Dp;exact Iff.rfl
theorem dp_ls {Hs H:Hp} {xs:List DT} {v:V} {F:List Addr}:Dp Hs H (.ls xs) v F ↔ ∃ a vs G,v = .ref a/\H a=some (.lst vs)/\Dps Hs H xs vs G/\F=a::G/\a ∉ G:=by
 constructor
 ·intro h;unfold Dp at h;exact h
 ·intro h;unfold Dp;exact h
theorem dps_nil {Hs H:Hp} {vs:List V} {F:List Addr}:Dps Hs H [] vs F ↔ vs=[]/\F=[]:=by unfold Dps;exact Iff.rfl
theorem dps_cons {Hs H:Hp} {x:DT} {xs:List DT} {vs:List V} {F:List Addr}:Dps Hs H (x::xs) vs F ↔ ∃ v r F1 F2,vs=v::r/\Dp Hs H x v F1/\Dps Hs H xs r F2/\F=F1++F2/\∀ a ∈ F1,a ∉ F2:=by
 constructor
 ·intro h;unfold Dps at h;exact h
 ·intro h;unfold Dps;exact h
mutual
theorem Dp.mono {Hs H Hs' H':Hp} (g:Same Hs Hs'):∀ {x:DT} {v:V} {F:List Addr},(∀ b ∈ F,∀ o,H b=some o->H' b=some o)->Dp Hs H x v F->Dp Hs' H' x v F
 | .sh x,v,F,k,h=>by obtain ⟨e,r⟩:=dp_sh.mp h;exact dp_sh.mpr ⟨e,r.mono g⟩
 | .ls xs,v,F,k,h=>by
  obtain ⟨a,vs,G,e,ha,hd,rfl,hn⟩:=dp_ls.mp h
  exact dp_ls.mpr ⟨a,vs,G,e,k a List.mem_cons_self _ ha,Dps.mono g (fun b hb=>k b (List.mem_cons_of_mem _ hb)) hd,rfl,hn⟩
theorem Dps.mono {Hs H Hs' H':Hp} (g:Same Hs Hs'):∀ {xs:List DT} {vs:List V} {F:List Addr},(∀ b ∈ F,∀ o,H b=some o->H' b=some o)->Dps Hs H xs vs F->Dps Hs' H' xs vs F
 | [],vs,F,k,h=>dps_nil.mpr (dps_nil.mp h)
 | x::xs,vs,F,k,h=>by
  obtain ⟨v,r,F1,F2,e,h1,h2,rfl,hn⟩:=dps_cons.mp h
  exact dps_cons.mpr ⟨v,r,F1,F2,e,Dp.mono g (fun b hb=>k b (List.mem_append_left _ hb)) h1,Dps.mono g (fun b hb=>k b (List.mem_append_right _ hb)) h2,rfl,hn⟩
end
mutual
theorem Dp.rep {Hs H Hp':Hp} (g:Same Hs Hp'):∀ {x:DT} {v:V} {F:List Addr},(∀ b ∈ F,∀ o,H b=some o->Hp' b=some o)->Dp Hs H x v F->Rep Hp' x.pv v
 | .sh x,v,F,k,h=>by obtain ⟨e,r⟩:=dp_sh.mp h;exact (show Rep Hp' x v from r.mono g)
 | .ls xs,v,F,k,h=>by
  obtain ⟨a,vs,G,e,ha,hd,rfl,hn⟩:=dp_ls.mp h
  exact (show Rep Hp' (.lst (DT.pvs xs)) v from rep_lst.mpr ⟨a,vs,e,k a List.mem_cons_self _ ha,Dps.reps g (fun b hb=>k b (List.mem_cons_of_mem _ hb)) hd⟩)
theorem Dps.reps {Hs H Hp':Hp} (g:Same Hs Hp'):∀ {xs:List DT} {vs:List V} {F:List Addr},(∀ b ∈ F,∀ o,H b=some o->Hp' b=some o)->Dps Hs H xs vs F->Reps Hp' (DT.pvs xs) vs
 | [],vs,F,k,h=>by rw [(dps_nil.mp h).1];exact .nil
 | x::xs,vs,F,k,h=>by
  obtain ⟨v,r,F1,F2,rfl,h1,h2,rfl,hn⟩:=dps_cons.mp h
  exact (show Reps Hp' (x.pv::DT.pvs xs) (v::r) from .cons (Dp.rep g (fun b hb=>k b (List.mem_append_left _ hb)) h1) (Dps.reps g (fun b hb=>k b (List.mem_append_right _ hb)) h2))
end
mutual
theorem Dp.live {Hs H:Hp}:∀ {x:DT} {v:V} {F:List Addr},Dp Hs H x v F->∀ b ∈ F,H b ≠ none
 | .sh x,v,F,h,b,hb=>by rw [(dp_sh.mp h).1] at hb;cases hb
 | .ls xs,v,F,h,b,hb=>by
  obtain ⟨a,vs,G,e,ha,hd,rfl,hn⟩:=dp_ls.mp h
  rcases List.mem_cons.mp hb with rfl | hb
  ·rw [ha];exact fun z=>nomatch z
  ·exact Dps.live hd b hb
theorem Dps.live {Hs H:Hp}:∀ {xs:List DT} {vs:List V} {F:List Addr},Dps Hs H xs vs F->∀ b ∈ F,H b ≠ none
 | [],vs,F,h,b,hb=>by rw [(dps_nil.mp h).2] at hb;cases hb
 | x::xs,vs,F,h,b,hb=>by
  obtain ⟨v,r,F1,F2,e,h1,h2,rfl,hn⟩:=dps_cons.mp h
  rcases List.mem_append.mp hb with hb | hb
  ·exact Dp.live h1 b hb
  ·exact Dps.live h2 b hb
end
theorem Dps.length {Hs H:Hp}:∀ {xs:List DT} {vs:List V} {F:List Addr},Dps Hs H xs vs F->vs.length=xs.length
 | [],vs,F,h=>by rw [(dps_nil.mp h).1];rfl
 | x::xs,vs,F,h=>by
  obtain ⟨v,r,F1,F2,rfl,h1,h2,rfl,hn⟩:=dps_cons.mp h
  rw [List.length_cons,List.length_cons,Dps.length h2]
theorem Dps.snoc {Hs H:Hp} {y:DT} {w:V} {Fy:List Addr} (hy:Dp Hs H y w Fy):∀ {xs:List DT} {vs:List V} {F:List Addr},Dps Hs H xs vs F->(∀ a ∈ F,a ∉ Fy)->Dps Hs H (xs++[y]) (vs++[w]) (F++Fy)
 | [],vs,F,h,hn=>by
  obtain ⟨rfl,rfl⟩:=dps_nil.mp h
  exact dps_cons.mpr ⟨w,[],Fy,[],rfl,hy,dps_nil.mpr ⟨rfl,rfl⟩,by simp,fun _ _ z=>nomatch z⟩
 | x::xs,vs,F,h,hn=>by
  obtain ⟨v,r,F1,F2,rfl,h1,h2,rfl,hd⟩:=dps_cons.mp h
  refine dps_cons.mpr ⟨v,r++[w],F1,F2++Fy,rfl,h1,Dps.snoc hy h2 fun a ha=>hn a (List.mem_append_right _ ha),by rw [List.append_assoc],fun a ha z=>?_⟩
  rcases List.mem_append.mp z with z | z
  ·exact hd a ha z
  ·exact hn a (List.mem_append_left _ ha) z
theorem Dps.ofSh {Hs H:Hp}:∀ {xs:List PV} {vs:List V},Reps Hs xs vs->Dps Hs H (xs.map .sh) vs []
 | [],vs,h=>dps_nil.mpr ⟨reps_nil.mp h,rfl⟩
 | x::xs,vs,h=>by
  obtain ⟨v,r,rfl,p,q⟩:=reps_cons.mp h
  exact dps_cons.mpr ⟨v,r,[],[],rfl,dp_sh.mpr ⟨rfl,p⟩,Dps.ofSh q,rfl,fun _ z=>nomatch z⟩
theorem Dps.focus {Hs H:Hp}:∀ {xs:List DT} {vs:List V} {G:List Addr} {k:Nat} {z:DT},Dps Hs H xs vs G->xs[k]?=some z->∃ w F1,vs[k]?=some w/\Dp Hs H z w F1/\(∀ c ∈ F1,c ∈ G) /\
  ∀ (H':Hp) (z':DT) (F1':List Addr),Dp Hs H' z' w F1'->(∀ c ∈ G,c ∉ F1->∀ o,H c=some o->H' c=some o)->(∀ c ∈ F1',c ∈ F1 ∨ c ∉ G)->∃ G',Dps Hs H' (xs.set k z') vs G'/\∀ c ∈ G',c ∈ G ∨ c ∈ F1'
 | [],vs,G,k,z,h,e=>by simp at e
 | x::xs,vs,G,0,z,h,e=>by
  obtain ⟨v,r,F1,F2,rfl,h1,h2,rfl,hd⟩:=dps_cons.mp h
  simp at e;subst e
  refine ⟨v,F1,rfl,h1,fun c hc=>List.mem_append_left _ hc,fun H' z' F1' h' keep new=>⟨F1'++F2,dps_cons.mpr ⟨v,r,F1',F2,rfl,h',h2.mono (.refl _) (fun b hb o ho=>keep b (List.mem_append_right _ hb) (fun q=>hd b q hb) o ho),rfl,fun a ha q=>?_⟩,fun c hc=>?_⟩⟩
  ·rcases new a ha with w | w
   ·exact hd a w q
   ·exact w (List.mem_append_right _ q)
  ·rcases List.mem_append.mp hc with w | w
   ·exact .inr w
   ·exact .inl (List.mem_append_right _ w)
 | x::xs,vs,G,k + 1,z,h,e=>by
  obtain ⟨v,r,F1,F2,rfl,h1,h2,rfl,hd⟩:=dps_cons.mp h
  obtain ⟨w,E,e1,e2,e3,e4⟩:=Dps.focus (k:=k) (z:=z) h2 (by simpa using e)
  refine ⟨w,E,by simpa using e1,e2,fun c hc=>List.mem_append_right _ (e3 c hc),fun H' z' F1' h' keep new=>?_⟩
  obtain ⟨G',g1,g2⟩:=e4 H' z' F1' h' (fun c hc hn o ho=>keep c (List.mem_append_right _ hc) hn o ho) (fun c hc=>(new c hc).imp id fun q w=>q (List.mem_append_right _ w))
  refine ⟨F1++G',dps_cons.mpr ⟨v,r,F1,G',rfl,h1.mono (.refl _) (fun b hb o ho=>keep b (List.mem_append_left _ hb) (fun q=>hd b hb (e3 b q)) o ho),g1,rfl,fun a ha q=>?_⟩,fun c hc=>?_⟩
  ·rcases g2 a q with y | y
   ·exact hd a ha y
   ·rcases new a y with u | u
    ·exact hd a ha (e3 a u)
    ·exact u (List.mem_append_left _ ha)
  ·rcases List.mem_append.mp hc with y | y
   ·exact .inl (List.mem_append_left _ y)
   ·exact (g2 c y).imp (fun u=>List.mem_append_right _ u) id
def qhc (H:Hp):V->List Int->V->Prop
 | v,[],u=>u=v
 | v,i::p,u=>∃ a vs w,v = .ref a/\H a=some (.lst vs)/\atI vs i=some w/\qhc H w p u
theorem qgy {H:Hp} {i:Int} {u:V}:∀ {is:List Int} {v:V},qhc H v (is++[i]) u->∃ a vs,qhc H v is (.ref a)/\H a=some (.lst vs)/\atI vs i=some u
 | [],v,h=>by
  obtain ⟨a,vs,w,rfl,ha,hw,e⟩:=h
  have e':u=w:=e
  subst e'
  exact ⟨a,vs,rfl,ha,hw⟩
 | k::is,v,h=>by
  obtain ⟨a,vs,w,rfl,ha,hw,e⟩:=h
  obtain ⟨b,ws,e1,e2,e3⟩:=qgy (is:=is) (v:=w) e
  exact ⟨b,ws,⟨a,vs,w,rfl,ha,hw,e1⟩,e2,e3⟩
def DT.chg (f:List DT->Option (List DT)):List Int->DT->Option DT
 | [],.ls xs=>(f xs).map .ls
 | i::p,.ls xs=>(ixN xs.length i).bind fun k=>(xs[k]?).bind fun z=>(DT.chg f p z).bind fun z'=>some (.ls (xs.set k z'))
 | _,_=>none
theorem Dp.chg {Hs H:Hp} {f:List DT->Option (List DT)}:∀ {p:List Int} {x x':DT} {v:V} {F:List Addr},Dp Hs H x v F->DT.chg f p x=some x' ->
  ∃ (b:Addr) (ws:List V) (G:List Addr) (xs ys:List DT),qhc H v p (.ref b)/\H b=some (.lst ws)/\Dps Hs H xs ws G/\b ∉ G/\(∀ c ∈ b::G,c ∈ F)/\f xs=some ys /\
   ∀ (H':Hp) (ws':List V) (G':List Addr),H' b=some (.lst ws')->(∀ c,c ≠ b->∀ o,H c=some o->H' c=some o)->Dps Hs H' ys ws' G'->b ∉ G'->(∀ c ∈ G',c ∈ G ∨ c ∉ F)->∃ F',Dp Hs H' x' v F'/\∀ c ∈ F',c ∈ F ∨ c ∈ G'
 | [],.sh y,x',v,F,h,e=>by cases e
 | _::_,.sh y,x',v,F,h,e=>by cases e
 | [],.ls xs,x',v,F,h,e=>by
  obtain ⟨a,vs,G,rfl,ha,hd,rfl,hn⟩:=dp_ls.mp h
  obtain ⟨ys,ef,rfl⟩:=Option.map_eq_some_iff.mp e
  refine ⟨a,vs,G,xs,ys,rfl,ha,hd,hn,fun c hc=>hc,ef,fun H' ws' G' h1 _ h2 h3 h4=>⟨a::G',dp_ls.mpr ⟨a,ws',G',rfl,h1,h2,rfl,h3⟩,fun c hc=>?_⟩⟩
  rcases List.mem_cons.mp hc with rfl | hc
  ·exact .inl List.mem_cons_self
  ·exact .inr hc
 | i::p,.ls xs,x',v,F,h,e=>by
  obtain ⟨a,vs,G,rfl,ha,hd,rfl,hn⟩:=dp_ls.mp h
  unfold DT.chg at e
  obtain ⟨k,ek,e⟩:=bind_some e
  obtain ⟨z,ez,e⟩:=bind_some e
  obtain ⟨z',ez',e⟩:=bind_some e
  cases e
  obtain ⟨w,F1,ew,dz,sub,put⟩:=hd.focus ez
  obtain ⟨b,ws,G1,us,ys,r1,r2,r3,r4,r5,r6,r7⟩:=Dp.chg (p:=p) dz ez'
  have hba:b ≠ a:=fun q=>hn (q ▸ sub b (r5 b List.mem_cons_self))
  refine ⟨b,ws,G1,us,ys,⟨a,vs,w,rfl,ha,?_,r1⟩,r2,r3,r4,fun c hc=>List.mem_cons_of_mem _ (sub c (r5 c hc)),r6,fun H' ws' G' h1 keep h2 h3 h4=>?_⟩
  ·unfold atI
   rw [hd.length,ek]
   exact ew
  ·obtain ⟨F1',d1,d2⟩:=r7 H' ws' G' h1 keep h2 h3 (fun c hc=>(h4 c hc).imp id fun q u=>q (List.mem_cons_of_mem _ (sub c u)))
   have new:∀ c ∈ F1',c ∈ F1 ∨ c ∉ G:=fun c hc=>by
    rcases d2 c hc with q | q
    ·exact .inl q
    ·rcases h4 c q with u | u
     ·exact .inl (r5 c (List.mem_cons_of_mem _ u))
     ·exact .inr fun y=>u (List.mem_cons_of_mem _ y)
   obtain ⟨G'',g1,g2⟩:=put H' z' F1' d1 (fun c hc hnc o ho=>keep c (fun q=>hnc (q ▸ r5 b List.mem_cons_self)) o ho) new
   have up:∀ c ∈ G'',c ∈ G ∨ c ∈ G':=fun c hc=>by
    rcases g2 c hc with q | q
    ·exact .inl q
    ·rcases d2 c q with u | u
     ·exact .inl (sub c u)
     ·exact .inr u
   refine ⟨a::G'',dp_ls.mpr ⟨a,vs,G'',rfl,keep a (Ne.symm hba) _ ha,g1,rfl,fun q=>?_⟩,fun c hc=>?_⟩
   ·rcases up a q with u | u
    ·exact hn u
    ·rcases h4 a u with y | y
     ·exact hn (sub a (r5 a (List.mem_cons_of_mem _ y)))
     ·exact y List.mem_cons_self
   ·rcases List.mem_cons.mp hc with rfl | hc
    ·exact .inl List.mem_cons_self
    ·exact (up c hc).imp (fun u=>List.mem_cons_of_mem _ u) id
end Mi
namespace Mi
open PySem L2
def AllSh (ε:ME):Prop:=∀ (i:Nat) (s:MSlot),ε[i]?=some s->s = .no ∨ ∃ x,s = .sh x
theorem AllSh.set {ε:ME} (h:AllSh ε) (i:Nat) (x:PV):AllSh (ε.set i (.sh x)):=fun k s q=>by
 rw [List.getElem?_set] at q
 split at q
 ·split at q
  ·cases q;exact .inr ⟨x,rfl⟩
  ·cases q
 ·exact h k s q
section
variable {j:Nat} {Hs0 H0 Hs H Hs' H':Hp} {σ σ':St} {ε ε':ME}
theorem RS.here (r:RS Hs0 H0 Hs H σ ε) (all:AllSh ε):RS Hs H Hs H σ ε where
 ext:= .refl r.sub
 sh:=r.sh
 ow:=fun i x h=>by rcases all i _ h with z | ⟨y,z⟩ <;> cases z
 nd:=fun i _ x _ _ h=>by rcases all i _ h with z | ⟨y,z⟩ <;> cases z
 len:=r.len
 bo:=fun i x h=>by rcases all i _ h with z | ⟨y,z⟩ <;> cases z
theorem RS.back (e:Ext Hs0 H0 Hs H) (r:RS Hs H Hs' H' σ' ε') (all:AllSh ε'):RS Hs0 H0 Hs' H' σ' ε' where
 ext:=e.trans r.ext
 sh:=r.sh
 ow:=fun i x h=>by rcases all i _ h with z | ⟨y,z⟩ <;> cases z
 nd:=fun i _ x _ _ h=>by rcases all i _ h with z | ⟨y,z⟩ <;> cases z
 len:=r.len
 bo:=fun i x h=>by rcases all i _ h with z | ⟨y,z⟩ <;> cases z
end
structure RX (j:Nat) (Hs0 H0 Hs H:Hp) (σ:St) (ε:ME) (x:DT):Prop where
 ex:∃ a F,RS Hs0 H0 Hs H σ (ε.set j (.sh (.at (.ref a))))/\Dp Hs H x (.ref a) F/\∀ b ∈ F,H0 b=none/\Hs b=none
 all:AllSh ε
 jl:j < ε.length
section
variable {j:Nat} {Hs0 H0 Hs H Hs' H':Hp} {σ σ':St} {ε ε':ME} {x x':DT} {fr:Bool} {D:qrc}
theorem qi1 {ε:ME} {j:Nat} (h:j < ε.length) (s:MSlot):(ε.set j s)[j]?=some s:=by rw [List.getElem?_set_self h]
theorem RX.shared (r:RX j Hs0 H0 Hs H σ ε x):∃ Hp',Same Hs Hp'/\RS Hp' H Hp' H σ (ε.set j (.sh x.pv)):=by
 obtain ⟨⟨a,F,rs,d,fr⟩,all,jl⟩:=r
 open Classical in
 let Hp':Hp:=fun b=>if b ∈ F then H b else Hs b
 have g:Same Hs Hp':=fun b o e=>by
  have hb:b ∉ F:=fun z=>by rw [(fr b z).2] at e;cases e
  show (if b ∈ F then H b else Hs b)=_
  rw [if_neg hb];exact e
 have g2:Same Hp' H:=fun b o e=>by
  by_cases hb:b ∈ F
  ·have e':(if b ∈ F then H b else Hs b)=some o:=e
   rw [if_pos hb] at e';exact e'
  ·have e':(if b ∈ F then H b else Hs b)=some o:=e
   rw [if_neg hb] at e';exact rs.sub _ _ e'
 have rp:Rep Hp' x.pv (.ref a):=d.rep g fun b hb o ho=>by
  show (if b ∈ F then H b else Hs b)=_
  rw [if_pos hb];exact ho
 have al2:AllSh (ε.set j (.sh x.pv)):=all.set j _
 refine ⟨Hp',g,.refl g2,fun i y h=>?_,fun i y h=>?_,fun i _ y _ _ h=>?_,by rw [List.length_set];have:=rs.len;rw [List.length_set] at this;exact this,fun i y h=>?_⟩
 ·rw [List.getElem?_set] at h
  split at h
  ·rename_i hij
   cases h
   obtain ⟨v,hv,rv⟩:=rs.sh j _ (qi1 jl _)
   cases rep_at.mp rv
   exact ⟨_,hij ▸ hv,rp⟩
  ·rename_i hij
   obtain ⟨v,hv,rv⟩:=rs.sh i y (by rw [List.getElem?_set_ne hij];exact h)
   exact ⟨v,hv,rv.mono g⟩
 ·rcases al2 i _ h with z | ⟨_,z⟩ <;> cases z
 ·rcases al2 i _ h with z | ⟨_,z⟩ <;> cases z
 ·rcases al2 i _ h with z | ⟨_,z⟩ <;> cases z
theorem RX.grow (r:RX j Hs0 H0 Hs H σ ε x) (g:Same H H'):RX j Hs0 H0 Hs H' σ ε x:=by
 obtain ⟨⟨a,F,rs,d,fr⟩,all,jl⟩:=r
 exact ⟨⟨a,F,rs.go ⟨.refl _,g,rs.sub.trans g,fun _ _ z=>z⟩,d.mono (.refl _) (fun b _ o ho=>g _ _ ho),fr⟩,all,jl⟩
theorem dm_test {tt:TT} {c:MB} {k:Bool} [s:qmj tt c] (r:RX j Hs0 H0 Hs H σ ε x) (e:c (ε.set j (.sh x.pv))=some k) {Q:Bool->Hp->Prop} (q:∀ H',RX j Hs0 H0 Hs H' σ ε x->Q k H'):tt σ H Q:=by
 obtain ⟨Hp',g,rs⟩:=r.shared
 exact s.h e rs fun Hs1 H1 x1=>q H1 (r.grow x1.s2)
theorem dm_if {tt:TT} {ta tb:TS} {c:MB} {k:Bool} [s:qmj tt c] (r:RX j Hs0 H0 Hs H σ ε x) (e:c (ε.set j (.sh x.pv))=some k) (qt:k=true->∀ H',RX j Hs0 H0 Hs H' σ ε x->ta D σ H') (qf:k=false->∀ H',RX j Hs0 H0 Hs H' σ ε x->tb D σ H'):tIfS tt ta tb D σ H :=
 dm_test (s:=s) r e fun H' r'=>by
  cases k with
  | true=>exact qr2 (qt rfl H' r')
  | false=>exact qr3 (qf rfl H' r')
theorem qns {t:TS} {b:MS} [s:SemS fr t b] (r:RX j Hs0 H0 Hs H σ ε x) (e:∀ a:Addr,b (ε.set j (.sh (.at (.ref a))))=some (.nx (ε'.set j (.sh (.at (.ref a)))))) (all':AllSh ε') (jl':j < ε'.length)
  (q:∀ Hs' H' σ',RX j Hs0 H0 Hs' H' σ' ε' x->D.nx σ' H'):t D σ H:=by
 obtain ⟨⟨a,F,rs,d,fre⟩,all,jl⟩:=r
 refine s.h (e a) (rs.here (all.set j _)) fun Hs1 H1 σ1 r1=>q Hs1 H1 σ1 ⟨⟨a,F,RS.back rs.ext r1 (all'.set j _),d.mono r1.ext.s1 (fun b _ o ho=>r1.ext.s2 _ _ ho),fun b hb=>⟨(fre b hb).1,r1.ext.s4 b (d.live b hb) (fre b hb).2⟩⟩,all',jl'⟩
theorem dm_ret {te:TE} {f:M} {y:PV} [s:SemE te f] (r:RX j Hs0 H0 Hs H σ ε x) (e:∀ a:Addr,f (ε.set j (.sh (.at (.ref a))))=some y) (q:∀ v Hs' H',Ext Hs0 H0 Hs' H'->Rep Hs' y v->D.rt v H'):tRet te D σ H:=by
 obtain ⟨⟨a,F,rs,d,fre⟩,all,jl⟩:=r
 exact s.h (e a) (rs.here (all.set j _)) fun v Hs1 H1 x1 r1=>q v Hs1 H1 (rs.ext.trans x1) r1
class qfd (K:PySem.W.Frag) (j:Nat) (to:TE) (is:outParam (List Int)):Prop where
 h:∀ {σ:St} {H:Hp} {v u:V} {Q:VK},σ[j]?=some (some v)->qhc H v is u->Q u H->to σ H Q
instance {K:PySem.W.Frag}:qfd K j (qiu j) [] where
 h:=fun h r q=>⟨_,h,by cases r;exact q⟩
instance {K:PySem.W.Frag} {to:TE} {is:List Int} {i:Int} [s:qfd K j to is]:qfd K j (tOp (rIx K) to (tC (.int i))) (is++[i]) where
 h:=fun h r q=>by
  obtain ⟨a,vs,r1,ha,hu⟩:=qgy r
  exact s.h h r1 (.inl ⟨a,vs,i,_,rfl,rfl,SqL.of ha,hu,q⟩)
instance {K:PySem.W.Frag} {to:TE} {is:List Int} {i:Int} [s:qfd K j to is]:qfd K j (tOp (rIx K) to (tUn (rU fun i=> .int (-i)) (tC (.int i)))) (is++[-i]) where
 h:=fun h r q=>by
  obtain ⟨a,vs,r1,ha,hu⟩:=qgy r
  exact s.h h r1 ⟨i,rfl,.inl ⟨a,vs,-i,_,rfl,rfl,SqL.of ha,hu,q⟩⟩
theorem RX.put {a b:Addr} {F':List Addr} {o:HO} (rs:RS Hs0 H0 Hs H σ (ε.set j (.sh (.at (.ref a))))) (all:AllSh ε) (jl:j < ε.length) (h0:H0 b=none) (hs:Hs b=none) (d:Dp Hs (upd H b o) x (.ref a) F') (fre:∀ c ∈ F',H0 c=none/\Hs c=none):RX j Hs0 H0 Hs (upd H b o) σ ε x:=by
 refine ⟨⟨a,F',⟨⟨rs.ext.s1,fun c u e=>?_,fun c u e=>?_,rs.ext.s4⟩,rs.sh,fun i y h=>?_,fun i _ y _ _ h=>?_,rs.len,fun i y h=>?_⟩,d,fre⟩,all,jl⟩
 ·rw [qam (qai e h0)];exact rs.ext.s2 _ _ e
 ·rw [qam (qai e hs)];exact rs.ext.s3 _ _ e
 ·rcases (all.set j _) i _ h with z | ⟨_,z⟩ <;> cases z
 ·rcases (all.set j _) i _ h with z | ⟨_,z⟩ <;> cases z
 ·rcases (all.set j _) i _ h with z | ⟨_,z⟩ <;> cases z
def qhb (y:DT):List DT->Option (List DT):=fun xs=>if xs.length<=lim then some (xs++[y]) else none
theorem qf3 {y:DT} {xs ys:List DT} (h:qhb y xs=some ys):xs.length<=lim/\ys=xs++[y]:=by
 unfold qhb at h
 split at h
 ·rename_i hl;cases h;exact ⟨hl,rfl⟩
 ·cases h
theorem dm_appS {K:PySem.W.Frag} {to te:TE} {is:List Int} {f:M} {y:PV} [sp:qfd K j to is] [s:SemE te f] (r:RX j Hs0 H0 Hs H σ ε x) (e:∀ a:Addr,f (ε.set j (.sh (.at (.ref a))))=some y) (hc:DT.chg (qhb (.sh y)) is x=some x')
  (q:∀ Hs' H',RX j Hs0 H0 Hs' H' σ ε x'->D.nx σ H'):qiw (tBM K "list" qfp to (qc6 te qiv)) D σ H:=by
 obtain ⟨⟨a,F,rs,d,fre⟩,all,jl⟩:=r
 obtain ⟨v,hv,rv⟩:=rs.sh j _ (qi1 jl _)
 cases rep_at.mp rv
 obtain ⟨b,ws,G,xs,ys,r1,r2,r3,r4,r5,r6,r7⟩:=d.chg hc
 obtain ⟨hl,rfl⟩:=qf3 r6
 refine sp.h hv r1 ⟨.inl ⟨rfl,ws,SqL.of r2⟩,s.h (e a) (rs.here (all.set j _)) fun u Hs1 H1 x1 ru=>?_⟩
 have hb1:=x1.s2 _ _ r2
 refine ⟨b,ws,u,rfl,rfl,hb1,qoy (by rw [r3.length];exact hl),?_⟩
 have live:=d.live
 have fre1:∀ c ∈ F,H0 c=none/\Hs1 c=none:=fun c hc=>⟨(fre c hc).1,x1.s4 c (live c hc) (fre c hc).2⟩
 have hbF:b ∈ F:=r5 b List.mem_cons_self
 have d1:Dp Hs1 H1 x (.ref a) F:=d.mono x1.s1 fun c _ o ho=>x1.s2 _ _ ho
 obtain ⟨b',ws',G1,xs',ys',q1,q2,q3,q4,q5,q6,q7⟩:=d1.chg hc
 obtain ⟨hl',rfl⟩:=qf3 q6
 -- the same node
 have eb:b'=b:=by
  have uni:∀ {is:List Int} {v u u':V},qhc H v is u->qhc H1 v is u'->u'=u:=by
   intro is
   induction is with
   | nil=>intro v u u' h1 h2;cases h1;cases h2;rfl
   | cons i is ih =>
    intro v u u' h1 h2
    obtain ⟨a1,vs1,w1,rfl,p1,p2,p3⟩:=h1
    obtain ⟨a2,vs2,w2,e2,p4,p5,p6⟩:=h2
    cases e2
    rw [x1.s2 _ _ p1] at p4
    cases p4
    rw [p2] at p5
    cases p5
    exact ih p3 p6
  have:=uni r1 q1
  injection this
 subst eb
 rw [hb1] at q2
 cases q2
 have hb2:(upd H1 b' (HO.lst (ws++[u]))) b'=some (.lst (ws++[u])):=qan
 have keep:∀ c,c ≠ b'->∀ o,H1 c=some o->(upd H1 b' (HO.lst (ws++[u]))) c=some o:=fun c hcb o ho=>by rw [qam hcb];exact ho
 obtain ⟨F',d2,f2⟩:=q7 _ (ws++[u]) (G1++[]) hb2 keep (Dps.snoc (dp_sh.mpr ⟨rfl,ru⟩) (q3.mono (.refl _) fun c hcG o ho=>keep c (fun z=>q4 (z ▸ hcG)) o ho) (fun _ _ z=>nomatch z)) (by simpa using q4) (fun c hc=> .inl (by simpa using hc))
 refine q _ _ (RX.put (rs.go x1) all jl (fre1 b' hbF).1 (fre1 b' hbF).2 d2 fun c hc=>?_)
 rcases f2 c hc with z | z
 ·exact fre1 c z
 ·exact fre1 c (q5 c (List.mem_cons_of_mem _ (by simpa using z)))
theorem dm_appO {K:PySem.W.Frag} {to te:TE} {is:List Int} {f:M} {ys0:List PV} [sp:qfd K j to is] [s:qn2 te f] (r:RX j Hs0 H0 Hs H σ ε x) (e:∀ a:Addr,f (ε.set j (.sh (.at (.ref a))))=some (.lst ys0)) (hc:DT.chg (qhb (.ls (ys0.map .sh))) is x=some x')
  (q:∀ Hs' H',RX j Hs0 H0 Hs' H' σ ε x'->D.nx σ H'):qiw (tBM K "list" qfp to (qc6 te qiv)) D σ H:=by
 obtain ⟨⟨a,F,rs,d,fre⟩,all,jl⟩:=r
 obtain ⟨v,hv,rv⟩:=rs.sh j _ (qi1 jl _)
 cases rep_at.mp rv
 obtain ⟨b,ws,G,xs,ys,r1,r2,r3,r4,r5,r6,r7⟩:=d.chg hc
 obtain ⟨hl,rfl⟩:=qf3 r6
 refine sp.h hv r1 ⟨.inl ⟨rfl,ws,SqL.of r2⟩,s.h (e a) (rs.here (all.set j _)) fun n Hs1 H1 x1 n0 n1 tn=>?_⟩
 obtain ⟨us,hn1,rn⟩:=tn
 have hb1:=x1.s2 _ _ r2
 refine ⟨b,ws,.ref n,rfl,rfl,hb1,qoy (by rw [r3.length];exact hl),?_⟩
 have live:=d.live
 have fre1:∀ c ∈ F,H0 c=none/\Hs1 c=none:=fun c hc=>⟨(fre c hc).1,x1.s4 c (live c hc) (fre c hc).2⟩
 have hbF:b ∈ F:=r5 b List.mem_cons_self
 have d1:Dp Hs1 H1 x (.ref a) F:=d.mono x1.s1 fun c _ o ho=>x1.s2 _ _ ho
 have nF:n ∉ F:=fun z=>live n z n0
 obtain ⟨b',ws',G1,xs',ys',q1,q2,q3,q4,q5,q6,q7⟩:=d1.chg hc
 obtain ⟨hl',rfl⟩:=qf3 q6
 have eb:b'=b:=by
  have uni:∀ {is:List Int} {v u u':V},qhc H v is u->qhc H1 v is u'->u'=u:=by
   intro is
   induction is with
   | nil=>intro v u u' h1 h2;cases h1;cases h2;rfl
   | cons i is ih =>
    intro v u u' h1 h2
    obtain ⟨a1,vs1,w1,rfl,p1,p2,p3⟩:=h1
    obtain ⟨a2,vs2,w2,e2,p4,p5,p6⟩:=h2
    cases e2
    rw [x1.s2 _ _ p1] at p4
    cases p4
    rw [p2] at p5
    cases p5
    exact ih p3 p6
  have:=uni r1 q1
  injection this
 subst eb
 rw [hb1] at q2
 cases q2
 have nb:n ≠ b':=fun z=>nF (z ▸ hbF)
 have hb2:(upd H1 b' (HO.lst (ws++[.ref n]))) b'=some (.lst (ws++[.ref n])):=qan
 have keep:∀ c,c ≠ b'->∀ o,H1 c=some o->(upd H1 b' (HO.lst (ws++[.ref n]))) c=some o:=fun c hcb o ho=>by rw [qam hcb];exact ho
 have dn:Dp Hs1 (upd H1 b' (HO.lst (ws++[.ref n]))) (.ls (ys0.map .sh)) (.ref n) [n]:=dp_ls.mpr ⟨n,us,[],rfl,keep n nb _ hn1,.ofSh rn,rfl,List.not_mem_nil⟩
 have nG:n ∉ G1:=fun z=>nF (q5 n (List.mem_cons_of_mem _ z))
 obtain ⟨F',d2,f2⟩:=q7 _ (ws++[.ref n]) (G1++[n]) hb2 keep (Dps.snoc dn (q3.mono (.refl _) fun c hcG o ho=>keep c (fun z=>q4 (z ▸ hcG)) o ho) (fun c hc z=>nG (List.mem_singleton.mp z ▸ hc))) (fun z=>by
   rcases List.mem_append.mp z with z | z
   ·exact q4 z
   ·exact nb (List.mem_singleton.mp z).symm) (fun c hc=>by
   rcases List.mem_append.mp hc with z | z
   ·exact .inl z
   ·rw [List.mem_singleton.mp z];exact .inr nF)
 refine q _ _ (RX.put (rs.go x1) all jl (fre1 b' hbF).1 (fre1 b' hbF).2 d2 fun c hc=>?_)
 rcases f2 c hc with z | z
 ·exact fre1 c z
 ·rcases List.mem_append.mp z with z | z
  ·exact fre1 c (q5 c (List.mem_cons_of_mem _ z))
  ·rw [List.mem_singleton.mp z]
   exact ⟨rs.ext.s2.free n0,n1⟩
theorem dm_new {te:TE} {f:M} {ys:List PV} [s:qn2 te f] (rs:RS Hs0 H0 Hs H σ ε) (all:AllSh ε) (jl:j < ε.length) (e:f ε=some (.lst ys)) (q:∀ Hs' H' σ',RX j Hs0 H0 Hs' H' σ' ε (.ls (ys.map .sh))->D.nx σ' H'):qrj te (qez j) D σ H:=by
 refine s.h e (rs.here all) fun n Hs1 H1 x1 n0 n1 tn=>?_
 obtain ⟨us,hn1,rn⟩:=tn
 have r1:=RS.back rs.ext ((rs.here all).go x1) all
 exact q Hs1 H1 _ ⟨⟨n,[n],r1.put (i:=j) (x:= .at (.ref n)) (v:= .ref n) (rep_at.mpr rfl),dp_ls.mpr ⟨n,us,[],rfl,hn1,.ofSh rn,rfl,List.not_mem_nil⟩,fun b hb=>by rw [List.mem_singleton.mp hb];exact ⟨rs.ext.s2.free n0,n1⟩⟩,all,jl⟩
theorem RX.rebase (r:RX j Hs0 H0 Hs H σ ε x):RX j Hs H0 Hs H σ ε x:=by
 obtain ⟨⟨a,F,rs,d,fre⟩,all,jl⟩:=r
 exact ⟨⟨a,F,rs.rebase,d,fre⟩,all,jl⟩
theorem RX.unbase {Hb:Hp} (e:Ext Hs0 H0 Hb H) (r:RX j Hb H0 Hs' H' σ' ε' x'):RX j Hs0 H0 Hs' H' σ' ε' x':=by
 obtain ⟨⟨a,F,rs,d,fre⟩,all,jl⟩:=r
 exact ⟨⟨a,F,RS.unbase e rs,d,fre⟩,all,jl⟩
theorem RX.ext (r:RX j Hs0 H0 Hs H σ ε x):Ext Hs0 H0 Hs H:=by
 obtain ⟨⟨a,F,rs,d,fre⟩,all,jl⟩:=r
 exact rs.ext
theorem dm_for {α:Type} {wi:TI} {tg:TG} {ts:List Nat} {tb:TS} {it:MA} {g:MG} [si:SemI wi it] [sg:SemG tg ts g] (G:α->PV) (xs:List α) (I:List α->ME->DT->Prop)
  (r:RX j Hs0 H0 Hs H σ ε x) (e:∀ a:Addr,it (ε.set j (.sh (.at (.ref a))))=some (xs.map G)) (i0:I xs ε x)
  (hs:∀ (c:α) (l:List α) (ε:ME) (x:DT),I (c::l) ε x->∃ ε1,(∀ a:Addr,g (G c) (ε.set j (.sh (.at (.ref a))))=some (ε1.set j (.sh (.at (.ref a)))))/\AllSh ε1/\j < ε1.length /\
   ∀ (Hb Hs H:Hp) (σ:St) (D:qrc),RX j Hb H0 Hs H σ ε1 x->(∀ (ε2:ME) (x2:DT) (Hs' H':Hp) (σ':St),I l ε2 x2->RX j Hb H0 Hs' H' σ' ε2 x2->D.nx σ' H')->tb D σ H)
  (q:∀ (ε2:ME) (x2:DT) (Hs' H':Hp) (σ':St),I [] ε2 x2->RX j Hs0 H0 Hs' H' σ' ε2 x2->D.nx σ' H'):tFor wi tg tb D σ H:=by
 obtain ⟨⟨a,F,rs,d,fre⟩,all,jl⟩:=r
 refine si.h (e a) (rs.here (all.set j _)) fun J Hs1 H1 x1 ok=>?_
 have rx1:RX j Hs0 H0 Hs1 H1 σ ε x:=⟨⟨a,F,rs.go x1,d.mono x1.s1 (fun b _ o ho=>x1.s2 _ _ ho),fun b hb=>⟨(fre b hb).1,x1.s4 b (d.live b hb) (fre b hb).2⟩⟩,all,jl⟩
 refine ⟨fun k m σ H=>m=xs.length - k/\k<=xs.length/\∃ Hs ε x,RX j Hs1 H0 Hs H σ ε x/\I (xs.drop k) ε x,⟨xs.length,by simp,Nat.zero_le _,Hs1,ε,x,rx1.rebase,i0⟩,?_⟩
 rintro k m σ H ⟨rfl,hk,Hs,ε,x,rx,hI⟩
 have g1:Same Hs1 Hs:=rx.ext.s1
 have sub:Same Hs H:=rx.ext.s3
 by_cases hlt:k < xs.length
 ·have hd:xs.drop k=xs[k]::xs.drop (k + 1):=List.drop_eq_getElem_cons hlt
  rw [hd] at hI
  obtain ⟨ε1,eg,al1,jl1,body⟩:=hs _ _ _ _ hI
  obtain ⟨go,yl⟩:=ok.go k (G xs[k]) Hs H (by rw [List.getElem?_map,List.getElem?_eq_getElem hlt];rfl) g1 sub
  refine .inr ⟨go,fun σ' H'=>k + 1<=xs.length/\∃ Hs ε x,RX j Hs1 H0 Hs H' σ' ε x/\I (xs.drop (k + 1)) ε x,fun σ' H' p=>⟨xs.length - (k + 1),by omega,rfl,p.1,p.2⟩,fun v H2 y=>?_⟩
  obtain ⟨Hs2,x2,r2⟩:=yl v H2 y
  obtain ⟨⟨a,F,rs,d,fre⟩,all,jl⟩:=rx
  refine sg.h (eg a) (((rs.here (all.set j _)).go x2)) r2 fun σ2 rs2 _=>?_
  have rx2:RX j Hs1 H0 Hs2 H2 σ2 ε1 x:=⟨⟨a,F,RS.back rs.ext rs2 (al1.set j _),d.mono x2.s1 (fun b _ o ho=>x2.s2 _ _ ho),fun b hb=>⟨(fre b hb).1,x2.s4 b (d.live b hb) (fre b hb).2⟩⟩,al1,jl1⟩
  exact body Hs1 Hs2 H2 σ2 _ rx2 fun ε3 x3 Hs3 H3 σ3 h3 rx3=>⟨hlt,Hs3,ε3,x3,rx3,h3⟩
 ·have ek:k=xs.length:=by omega
  subst ek
  rw [List.drop_length] at hI
  have st:=ok.stop Hs H g1 sub
  rw [List.length_map] at st
  exact .inl ⟨st,q ε x Hs H σ hI (RX.unbase rx1.ext rx)⟩
def spDX (ms:List Bool) (m:List PV->Option DT) (x:List PV->Addr->Prop):Sp:=fun vs H Q E=>∃ Hs xs,Same Hs H/\RepsM Hs H ms xs vs/\((∃ y,m xs=some y/\∀ a F Hs' H',Ext Hs H Hs' H'->(∀ b ∈ F,H b=none/\Hs' b=none)->Dp Hs' H' y (.ref a) F->Q (.ref a) H') ∨ ∃ c,x xs c/\∀ Hs' H',Ext Hs H Hs' H'->E (.ref c) none H')
theorem Ext.shareF {F:List Addr} (x:Ext Hs H Hs' H') (fre:∀ b ∈ F,H b=none/\Hs' b=none):∃ Hp',Ext Hs H Hp' H'/\Same Hs' Hp'/\∀ b ∈ F,Hp' b=H' b:=by
 open Classical in
 refine ⟨fun b=>if b ∈ F then H' b else Hs' b,⟨fun b o e=>?_,x.s2,fun b o e=>?_,fun b h z=>?_⟩,fun b o e=>?_,fun b hb=>if_pos hb⟩
 ·have e1:=x.s1 _ _ e
  have hb:b ∉ F:=fun z=>by rw [(fre b z).2] at e1;cases e1
  show (if b ∈ F then H' b else Hs' b)=_
  rw [if_neg hb];exact e1
 ·by_cases hb:b ∈ F
  ·have e':(if b ∈ F then H' b else Hs' b)=some o:=e
   rw [if_pos hb] at e';exact e'
  ·have e':(if b ∈ F then H' b else Hs' b)=some o:=e
   rw [if_neg hb] at e';exact x.s3 _ _ e'
 ·have hb:b ∉ F:=fun w=>h (fre b w).1
  show (if b ∈ F then H' b else Hs' b)=_
  rw [if_neg hb];exact x.s4 b h z
 ·have hb:b ∉ F:=fun z=>by rw [(fre b z).2] at e;cases e
  show (if b ∈ F then H' b else Hs' b)=_
  rw [if_neg hb];exact e
instance {ms:List Bool} {m:List PV->Option DT} {x:List PV->Addr->Prop} {ta:TA} {as:MA} {E:XK} [sa:qt9 ms ta as]:SemE (qgg (spDX ms m x) [] E ta) (qaq (fun xs=>(m xs).map DT.pv) as) where
 h:=fun e _ _ _ _ _ rs _ q=>by
  obtain ⟨xs,ex,e1⟩:=bind_some e
  obtain ⟨y,ey,rfl⟩:=Option.map_eq_some_iff.mp e1
  refine sa.h ex rs fun vs Hs1 H1 x1 r1=>⟨Hs1,xs,x1.s3,by rw [List.append_nil];exact r1,.inl ⟨y,ey,fun a F Hs' H' x2 fre d=>?_⟩⟩
  obtain ⟨Hp',x3,g,eq⟩:=x2.shareF fre
  exact q _ _ _ (x1.trans x3) (d.rep g fun b hb o ho=>by rw [eq b hb];exact ho)
theorem dm_new2 {te:TE} {ta:TA} {ms:List Bool} {m:List PV->Option DT} {xx:List PV->Addr->Prop} {E:XK} {f:M} {as:MA} {ys xs:List PV} {y:DT} [s:qn2 te f] [sa:qt9 ms ta as] (rs:RS Hs0 H0 Hs H σ ε) (all:AllSh ε) (jl:j < ε.length) (e:f ε=some (.lst ys)) (e2:as ε=some xs) (e3:m xs=some y)
  (q:∀ Hs' H' σ',RX j Hs0 H0 Hs' H' σ' ε (.ls [.ls (ys.map .sh),y])->D.nx σ' H'):qrj (tLst (qc6 te (qc6 (qgg (spDX ms m xx) [] E ta) qiv))) (qez j) D σ H:=by
 refine s.h e (rs.here all) fun n Hs1 H1 x1 n0 n1 tn=>?_
 obtain ⟨us,hn1,rn⟩:=tn
 have r1:=(rs.here all).go x1
 refine sa.h e2 r1 fun vs Hs2 H2 x2 r2=>⟨Hs2,xs,x2.s3,by rw [List.append_nil];exact r2,.inl ⟨y,e3,fun a F Hs3 H3 x3 fre d=>?_⟩⟩
 refine ⟨(by show 2<=sizeLine;decide),fun p hp=>?_⟩
 have x13:=x1.trans (x2.trans x3)
 have hn2:H2 n ≠ none:=by rw [x2.s2 _ _ hn1];exact fun z=>nomatch z
 have hn3:=x3.s2 _ _ (x2.s2 _ _ hn1)
 have n3:Hs3 n=none:=x3.s4 n hn2 (x2.s4 n (by rw [hn1];exact fun z=>nomatch z) n1)
 have nF:n ∉ F:=fun z=>hn2 (fre n z).1
 have pn:p ≠ n:=fun z=>by rw [z,hn3] at hp;cases hp
 have pF:p ∉ F:=fun z=>d.live p z hp
 have ps3:Hs3 p=none:=x3.s3.free hp
 have keep:∀ c o,H3 c=some o->(upd H3 p (HO.lst [.ref n,.ref a])) c=some o:=fun c o ho=>by rw [qam (qai ho hp)];exact ho
 have x4:Ext Hs H Hs3 (upd H3 p (HO.lst [.ref n,.ref a])):=x13.trans (.newO x3.s3 hp)
 have r4:=RS.back rs.ext ((rs.here all).go x4) all
 refine q _ _ _ ⟨⟨p,p::n::F,r4.put (i:=j) (x:= .at (.ref p)) (v:= .ref p) (rep_at.mpr rfl),dp_ls.mpr ⟨p,[.ref n,.ref a],n::F,rfl,qan,?_,rfl,?_⟩,fun b hb=>?_⟩,all,jl⟩
 ·refine dps_cons.mpr ⟨.ref n,[.ref a],[n],F,rfl,dp_ls.mpr ⟨n,us,[],rfl,keep n _ hn3,.ofSh (rn.mono (x2.s1.trans x3.s1)),rfl,List.not_mem_nil⟩,dps_cons.mpr ⟨.ref a,[],F,[],rfl,d.mono (.refl _) (fun b _ o ho=>keep b o ho),dps_nil.mpr ⟨rfl,rfl⟩,by simp,fun _ _ z=>nomatch z⟩,rfl,fun b hb=>by rw [List.mem_singleton.mp hb];exact nF⟩
 ·intro z
  rcases List.mem_cons.mp z with z | z
  ·exact pn z
  ·exact pF z
 ·have free0:∀ c,H c=none->H0 c=none:=fun c hc=>rs.ext.s2.free hc
  rcases List.mem_cons.mp hb with rfl | hb
  ·exact ⟨free0 _ (x13.s2.free hp),ps3⟩
  ·rcases List.mem_cons.mp hb with rfl | hb
   ·exact ⟨free0 _ n0,n3⟩
   ·exact ⟨free0 _ ((x1.trans x2).s2.free (fre b hb).1),(fre b hb).2⟩
theorem dm_retD (r:RX j Hs0 H0 Hs H σ ε x) (q:∀ a F Hs' H',Ext Hs0 H0 Hs' H'->(∀ b ∈ F,H0 b=none/\Hs' b=none)->Dp Hs' H' x (.ref a) F->D.rt (.ref a) H'):tRet (qiu j) D σ H:=by
 obtain ⟨⟨a,F,rs,d,fre⟩,all,jl⟩:=r
 obtain ⟨v,hv,rv⟩:=rs.sh j _ (qi1 jl _)
 cases rep_at.mp rv
 exact ⟨_,hv,q a F Hs H rs.ext fre d⟩
end
end Mi
namespace Mi
open PySem L2
section
variable {j:Nat} {Hs0 H0 Hs H Hs' H':Hp} {σ σ':St} {ε ε':ME} {x x':DT} {fr:Bool} {D:qrc} {u t:TS}
theorem sq_S {b:MS} [s:SemS fr t b] (rs:RS Hs0 H0 Hs H σ ε) (e:b ε=some (.nx ε')) (q:∀ Hs' H' σ',RS Hs0 H0 Hs' H' σ' ε'->u D σ' H'):tSeq t u D σ H:=s.h (D:={ D with nx:=u D }) e rs fun Hs' H' σ' r=>q Hs' H' σ' r
theorem sq_new {te:TE} {f:M} {ys:List PV} [s:qn2 te f] (rs:RS Hs0 H0 Hs H σ ε) (all:AllSh ε) (jl:j < ε.length) (e:f ε=some (.lst ys)) (q:∀ Hs' H' σ',RX j Hs0 H0 Hs' H' σ' ε (.ls (ys.map .sh))->u D σ' H'):tSeq (qrj te (qez j)) u D σ H:=dm_new (D:={ D with nx:=u D }) rs all jl e q
theorem sq_new2 {te:TE} {ta:TA} {ms:List Bool} {m:List PV->Option DT} {xx:List PV->Addr->Prop} {E:XK} {f:M} {as:MA} {ys xs:List PV} {y:DT} [s:qn2 te f] [sa:qt9 ms ta as] (rs:RS Hs0 H0 Hs H σ ε) (all:AllSh ε) (jl:j < ε.length) (e:f ε=some (.lst ys)) (e2:as ε=some xs) (e3:m xs=some y)
  (q:∀ Hs' H' σ',RX j Hs0 H0 Hs' H' σ' ε (.ls [.ls (ys.map .sh),y])->u D σ' H'):tSeq (qrj (tLst (qc6 te (qc6 (qgg (spDX ms m xx) [] E ta) qiv))) (qez j)) u D σ H:=dm_new2 (D:={ D with nx:=u D }) rs all jl e e2 e3 q
theorem qmu {b:MS} [s:SemS fr t b] (r:RX j Hs0 H0 Hs H σ ε x) (e:∀ a:Addr,b (ε.set j (.sh (.at (.ref a))))=some (.nx (ε'.set j (.sh (.at (.ref a)))))) (all':AllSh ε') (jl':j < ε'.length)
  (q:∀ Hs' H' σ',RX j Hs0 H0 Hs' H' σ' ε' x->u D σ' H'):tSeq t u D σ H:=qns (s:=s) (D:={ D with nx:=u D }) r e all' jl' q
theorem qu0 {tt:TT} {ta tb:TS} {c:MB} {k:Bool} [s:qmj tt c] (r:RX j Hs0 H0 Hs H σ ε x) (e:c (ε.set j (.sh x.pv))=some k) (qt:k=true->∀ H',RX j Hs0 H0 Hs H' σ ε x->tSeq ta u D σ H') (qf:k=false->∀ H',RX j Hs0 H0 Hs H' σ ε x->tSeq tb u D σ H'):tSeq (tIfS tt ta tb) u D σ H:=dm_if (D:={ D with nx:=u D }) r e qt qf
theorem qmt (h:u D σ H):tSeq tNext u D σ H:=h
theorem qjo {K:PySem.W.Frag} {to te:TE} {is:List Int} {f:M} {y:PV} [sp:qfd K j to is] [s:SemE te f] (r:RX j Hs0 H0 Hs H σ ε x) (e:∀ a:Addr,f (ε.set j (.sh (.at (.ref a))))=some y) (hc:DT.chg (qhb (.sh y)) is x=some x')
  (q:∀ Hs' H',RX j Hs0 H0 Hs' H' σ ε x'->u D σ H'):tSeq (qiw (tBM K "list" qfp to (qc6 te qiv))) u D σ H:=dm_appS (D:={ D with nx:=u D }) r e hc q
theorem qp5 {K:PySem.W.Frag} {to te:TE} {is:List Int} {f:M} {ys0:List PV} [sp:qfd K j to is] [s:qn2 te f] (r:RX j Hs0 H0 Hs H σ ε x) (e:∀ a:Addr,f (ε.set j (.sh (.at (.ref a))))=some (.lst ys0)) (hc:DT.chg (qhb (.ls (ys0.map .sh))) is x=some x')
  (q:∀ Hs' H',RX j Hs0 H0 Hs' H' σ ε x'->u D σ H'):tSeq (qiw (tBM K "list" qfp to (qc6 te qiv))) u D σ H:=dm_appO (D:={ D with nx:=u D }) r e hc q
theorem sq_for {α:Type} {wi:TI} {tg:TG} {ts:List Nat} {tb:TS} {it:MA} {g:MG} [si:SemI wi it] [sg:SemG tg ts g] (G:α->PV) (xs:List α) (I:List α->ME->DT->Prop)
  (r:RX j Hs0 H0 Hs H σ ε x) (e:∀ a:Addr,it (ε.set j (.sh (.at (.ref a))))=some (xs.map G)) (i0:I xs ε x)
  (hs:∀ (c:α) (l:List α) (ε:ME) (x:DT),I (c::l) ε x->∃ ε1,(∀ a:Addr,g (G c) (ε.set j (.sh (.at (.ref a))))=some (ε1.set j (.sh (.at (.ref a)))))/\AllSh ε1/\j < ε1.length /\
   ∀ (Hb Hs H:Hp) (σ:St) (D:qrc),RX j Hb H0 Hs H σ ε1 x->(∀ (ε2:ME) (x2:DT) (Hs' H':Hp) (σ':St),I l ε2 x2->RX j Hb H0 Hs' H' σ' ε2 x2->D.nx σ' H')->tb D σ H)
  (q:∀ (ε2:ME) (x2:DT) (Hs' H':Hp) (σ':St),I [] ε2 x2->RX j Hs0 H0 Hs' H' σ' ε2 x2->u D σ' H'):tSeq (tFor wi tg tb) u D σ H:=dm_for (D:={ D with nx:=u D }) G xs I r e i0 hs q
end
end Mi
namespace Lw
open PySem L2 Mi
structure qiq (h:Nat) (rss:List (List Int)):Prop where
 len:rss.length=h + 1
 row:∀ r ∈ rss,r.length=h/\∀ v ∈ r,0<=v/\v < 10 ^ 30
def rin (rss:List (List Int)) (f g:Int):Int:=((atI rss f).bind fun r=>atI r g).getD 0
def qk4 (rss:List (List Int)):Int->List Int->Int
 | _,[]=>0
 | f,h::r=>rin rss f h + qk4 rss h r
theorem rin_last {rss:List (List Int)} {h:Nat} (e:rss.length=h + 1) (g:Int):rin rss (-1) g=rin rss (h:Int) g:=by
 unfold rin atI
 rw [e]
 have e1:ixN (h + 1) (-1)=some h:=by
  unfold ixN
  rw [if_neg (by decide),if_pos (by omega)]
  congr 1
  omega
 have e2:ixN (h + 1) (h:Int)=some h:=by
  unfold ixN
  rw [if_pos (by omega),if_pos (by omega)]
  congr 1
 rw [e1,e2]
abbrev Wy:=Int × List Int
def lesW (a b:Wy):Wy:=if b.1 < a.1 then b else a
def qwf (a b:Wy):Wy:=(a.1 + b.1,a.2++b.2)
def thr (ws:List Wy) (k:Nat) (onw:List Wy):List Wy:=List.zipWith (fun w m=>lesW w (qwf (ws.getD k (0,[])) m)) ws onw
def qdi (T:List (List Wy)) (k:Nat):List (List Wy):=T.map fun row=>thr row k (T.getD k [])
def quz (row:List Int):List Wy:=row.mapIdx fun i v=>(v,[(i:Int)])
def fwN (rss:List (List Int)):Nat->List (List Wy)
 | 0=>rss.map quz
 | k + 1=>qdi (fwN rss k) k
def ent (T:List (List Wy)) (f g:Nat):Wy:=(T.getD f []).getD g (0,[])
def qhk (rss:List (List Int)) (h:Nat):List (List Int):=(fwN rss h).map fun row=>row.map (·.1)
structure Shp (h:Nat) (T:List (List Wy)):Prop where
 len:T.length=h + 1
 row:∀ r ∈ T,r.length=h
theorem qax {α:Type} {l:List α} {i:Nat} {d:α} (h:i < l.length):l.getD i d=l[i]:=by
 rw [List.getD_eq_getElem?_getD,List.getElem?_eq_getElem h]
 rfl
theorem Shp.rowAt {h:Nat} {T:List (List Wy)} (S:Shp h T) {f:Nat} (hf:f<=h):(T.getD f []).length=h:=by
 have hl:f < T.length:=by have:=S.len;omega
 rw [qax hl]
 exact S.row _ (List.getElem_mem hl)
theorem qut {ws onw:List Wy} {k:Nat} (h:ws.length=onw.length):(thr ws k onw).length=ws.length:=by
 unfold thr
 rw [List.length_zipWith,h,Nat.min_self]
theorem Shp.step {h:Nat} {T:List (List Wy)} (S:Shp h T) {k:Nat} (hk:k < h):Shp h (qdi T k):=by
 refine ⟨by unfold qdi;rw [List.length_map];exact S.len,fun r hr=>?_⟩
 unfold qdi at hr
 obtain ⟨row,hm,rfl⟩:=List.mem_map.mp hr
 have e1:=S.row row hm
 rw [qut (by rw [e1,S.rowAt (by omega)]),e1]
theorem qgd {h:Nat} {T:List (List Wy)} (S:Shp h T) {k f g:Nat} (hk:k < h) (hf:f<=h) (hg:g < h):ent (qdi T k) f g=lesW (ent T f g) (qwf (ent T f k) (ent T k g)):=by
 have hl:f < T.length:=by have:=S.len;omega
 have hl2:f < (qdi T k).length:=by unfold qdi;rw [List.length_map];exact hl
 have e1:(qdi T k).getD f []=thr (T.getD f []) k (T.getD k []):=by
  unfold qdi
  rw [qax (by rw [List.length_map];exact hl),List.getElem_map,qax hl]
 have r1:=S.rowAt hf
 have r2:=S.rowAt (f:=k) (by omega)
 unfold ent
 rw [e1,qax (by rw [qut (by rw [r1,r2])];omega),qax (l:=T.getD f []) (i:=g) (by omega),qax (l:=T.getD k []) (i:=g) (by omega)]
 unfold thr
 rw [List.getElem_zipWith]
theorem Shp.start {h:Nat} {rss:List (List Int)} (G:qiq h rss):Shp h (fwN rss 0):=by
 refine ⟨by show (rss.map quz).length=_;rw [List.length_map];exact G.len,fun r hr=>?_⟩
 obtain ⟨row,hm,rfl⟩:=List.mem_map.mp hr
 unfold quz
 rw [List.length_mapIdx]
 exact (G.row row hm).1
theorem Shp.all {h:Nat} {rss:List (List Int)} (G:qiq h rss):∀ k,k<=h->Shp h (fwN rss k)
 | 0,_=>Shp.start G
 | k + 1,hk=>(Shp.all G k (by omega)).step (by omega)
theorem qgw {h:Nat} {rss:List (List Int)} (G:qiq h rss) {f g:Nat} (hf:f<=h) (hg:g < h):rin rss (f:Int) (g:Int)=(rss.getD f []).getD g 0:=by
 have hl:f < rss.length:=by have:=G.len;omega
 have e1:atI rss (f:Int)=some rss[f]:=qdx (List.getElem?_eq_getElem hl)
 have hg2:g < rss[f].length:=by rw [(G.row _ (List.getElem_mem hl)).1];exact hg
 have e2:atI rss[f] (g:Int)=some rss[f][g]:=qdx (List.getElem?_eq_getElem hg2)
 unfold rin
 rw [e1]
 show (atI rss[f] (g:Int)).getD 0=_
 rw [e2,qax hl,qax hg2]
 rfl
theorem qhm {h:Nat} {rss:List (List Int)} (G:qiq h rss) {f g:Nat} (hf:f<=h) (hg:g < h):ent (fwN rss 0) f g=(rin rss (f:Int) (g:Int),[(g:Int)]):=by
 have hl:f < rss.length:=by have:=G.len;omega
 have hl2:f < (rss.map quz).length:=by rw [List.length_map];exact hl
 have hg2:g < rss[f].length:=by rw [(G.row _ (List.getElem_mem hl)).1];exact hg
 rw [qgw G hf hg]
 unfold ent
 show ((rss.map quz).getD f []).getD g (0,[])=_
 rw [qax hl2,List.getElem_map,qax (by unfold quz;rw [List.length_mapIdx];exact hg2),qax hl,qax hg2]
 unfold quz
 rw [List.getElem_mapIdx]
theorem qlz {h:Nat} {rss:List (List Int)} (G:qiq h rss) {f g:Nat} (hf:f<=h) (hg:g < h):0<=rin rss (f:Int) (g:Int):=by
 have hl:f < rss.length:=by have:=G.len;omega
 have hg2:g < rss[f].length:=by rw [(G.row _ (List.getElem_mem hl)).1];exact hg
 rw [qgw G hf hg,qax hl,qax hg2]
 exact ((G.row _ (List.getElem_mem hl)).2 _ (List.getElem_mem hg2)).1
theorem qe3 {rss:List (List Int)}:∀ {xs ys:List Int} {f g:Int},xs.getLast?=some g->qk4 rss f (xs++ys)=qk4 rss f xs + qk4 rss g ys
 | [],_,_,_,e=>by simp at e
 | [x],ys,f,g,e=>by
  have e':x=g:=by simpa using e
  subst e'
  show rin rss f x + qk4 rss x ys=rin rss f x + 0 + qk4 rss x ys
  omega
 | x::y::r,ys,f,g,e=>by
  have q:=qe3 (rss:=rss) (xs:=y::r) (ys:=ys) (f:=x) (g:=g) (by simpa [List.getLast?_cons_cons] using e)
  show rin rss f x + qk4 rss x (y::r++ys)=rin rss f x + qk4 rss x (y::r) + qk4 rss g ys
  rw [q]
  omega
structure WayOk (rss:List (List Int)) (h:Nat) (f g:Nat) (w:Wy):Prop where
 sum:w.1=qk4 rss (f:Int) w.2
 last:w.2.getLast?=some (g:Int)
 ok:∀ x ∈ w.2,0<=x/\x < (h:Int)
structure FW (rss:List (List Int)) (h k:Nat) (T:List (List Wy)):Prop where
 way:∀ f g,f<=h->g < h->WayOk rss h f g (ent T f g)
 pos:∀ f g,f<=h->g < h->0<=(ent T f g).1
 le:∀ f g,f<=h->g < h->(ent T f g).1<=rin rss (f:Int) (g:Int)
 tri:∀ j f g,j < k->f<=h->g < h->(ent T f g).1<=(ent T f j).1 + (ent T j g).1
 len:∀ f g,f<=h->g < h->(ent T f g).2.length<=2 ^ k
theorem qd3 (a b:Wy):(lesW a b=a/\a.1<=b.1) ∨ (lesW a b=b/\b.1 < a.1):=by
 unfold lesW
 by_cases h:b.1 < a.1
 ·rw [if_pos h];exact .inr ⟨rfl,h⟩
 ·rw [if_neg h];exact .inl ⟨rfl,by omega⟩
theorem lesW_le (a b:Wy):(lesW a b).1<=a.1/\(lesW a b).1<=b.1:=by
 rcases qd3 a b with ⟨e,q⟩ | ⟨e,q⟩
 ·rw [e];exact ⟨Int.le_refl _,q⟩
 ·rw [e];exact ⟨Int.le_of_lt q,Int.le_refl _⟩
theorem WayOk.join {rss:List (List Int)} {h f k g:Nat} {a b:Wy} (x:WayOk rss h f k a) (y:WayOk rss h k g b):WayOk rss h f g (qwf a b):=by
 refine ⟨?_,?_,fun z hz=>?_⟩
 ·show a.1 + b.1=qk4 rss f (a.2++b.2)
  rw [qe3 x.last,x.sum,y.sum]
 ·show (a.2++b.2).getLast?=_
  rw [List.getLast?_append,y.last]
  rfl
 ·rcases List.mem_append.mp hz with q | q
  ·exact x.ok z q
  ·exact y.ok z q
theorem FW.start {h:Nat} {rss:List (List Int)} (G:qiq h rss):FW rss h 0 (fwN rss 0):=by
 refine ⟨fun f g hf hg=>?_,fun f g hf hg=>?_,fun f g hf hg=>?_,fun j f g hj=>absurd hj (by omega),fun f g hf hg=>?_⟩
 ·rw [qhm G hf hg]
  refine ⟨?_,rfl,fun x hx=>?_⟩
  ·show rin rss f g=rin rss f g + 0
   omega
  ·have e:x=(g:Int):=by simpa using hx
   rw [e]
   omega
 ·rw [qhm G hf hg];exact qlz G hf hg
 ·rw [qhm G hf hg];exact Int.le_refl _
 ·rw [qhm G hf hg];exact Nat.le_refl 1
theorem FW.step {h k:Nat} {rss:List (List Int)} {T:List (List Wy)} (S:Shp h T) (x:FW rss h k T) (hk:k < h):FW rss h (k + 1) (qdi T k):=by
 have kl:k<=h:=by omega
 have toK:∀ f,f<=h->(ent (qdi T k) f k).1=(ent T f k).1:=fun f hf=>by
  rw [qgd S hk hf hk]
  rcases qd3 (ent T f k) (qwf (ent T f k) (ent T k k)) with ⟨e,q⟩ | ⟨e,q⟩
  ·rw [e]
  ·have p:=x.pos k k kl hk
   have q':(ent T f k).1 + (ent T k k).1 < (ent T f k).1:=q
   omega
 have ofK:∀ g,g < h->(ent (qdi T k) k g).1=(ent T k g).1:=fun g hg=>by
  rw [qgd S hk kl hg]
  rcases qd3 (ent T k g) (qwf (ent T k k) (ent T k g)) with ⟨e,q⟩ | ⟨e,q⟩
  ·rw [e]
  ·have p:=x.pos k k kl hk
   have q':(ent T k k).1 + (ent T k g).1 < (ent T k g).1:=q
   omega
 have bound:∀ f g,f<=h->g < h->(ent (qdi T k) f g).1<=(ent T f g).1/\(ent (qdi T k) f g).1<=(ent T f k).1 + (ent T k g).1:=fun f g hf hg=>by
  rw [qgd S hk hf hg]
  exact lesW_le _ _
 have alt:∀ f g,f<=h->g < h->(ent (qdi T k) f g).1=(ent T f g).1 ∨ (ent (qdi T k) f g).1=(ent T f k).1 + (ent T k g).1:=fun f g hf hg=>by
  rw [qgd S hk hf hg]
  rcases qd3 (ent T f g) (qwf (ent T f k) (ent T k g)) with ⟨e,q⟩ | ⟨e,q⟩
  ·rw [e];exact .inl rfl
  ·rw [e];exact .inr rfl
 refine ⟨fun f g hf hg=>?_,fun f g hf hg=>?_,fun f g hf hg=>Int.le_trans (bound f g hf hg).1 (x.le f g hf hg),fun j f g hj hf hg=>?_,fun f g hf hg=>?_⟩
 ·rw [qgd S hk hf hg]
  rcases qd3 (ent T f g) (qwf (ent T f k) (ent T k g)) with ⟨e,_⟩ | ⟨e,_⟩
  ·rw [e];exact x.way f g hf hg
  ·rw [e];exact (x.way f k hf hk).join (x.way k g kl hg)
 ·rcases alt f g hf hg with e | e
  ·rw [e];exact x.pos f g hf hg
  ·rw [e]
   have p1:=x.pos f k hf hk
   have p2:=x.pos k g kl hg
   omega
 ·by_cases hjk:j=k
  ·subst hjk
   rw [toK f hf,ofK g hg]
   exact (bound f g hf hg).2
  ·have hj':j < k:=by omega
   have jl:j<=h:=by omega
   have jh:j < h:=by omega
   have b:=bound f g hf hg
   have t1:=x.tri j f g hj' hf hg
   have t2:=x.tri j f k hj' hf hk
   have t3:=x.tri j k g hj' kl hg
   have t4:=x.pos k j kl jh
   have t5:=x.pos j k jl hk
   rcases alt f j hf jh with e1 | e1 <;> rcases alt j g jl hg with e2 | e2 <;> rw [e1,e2] <;> omega
 ·rw [qgd S hk hf hg]
  have e:2 ^ (k + 1)=2 ^ k + 2 ^ k:=by rw [Nat.pow_succ];omega
  rcases qd3 (ent T f g) (qwf (ent T f k) (ent T k g)) with ⟨q,_⟩ | ⟨q,_⟩
  ·rw [q]
   have:=x.len f g hf hg
   omega
  ·rw [q]
   have a1:=x.len f k hf hk
   have a2:=x.len k g kl hg
   show ((ent T f k).2++(ent T k g).2).length<=_
   rw [List.length_append]
   omega
theorem FW.all {h:Nat} {rss:List (List Int)} (G:qiq h rss):∀ k,k<=h->FW rss h k (fwN rss k)
 | 0,_=>FW.start G
 | k + 1,hk=>FW.step (Shp.all G k (by omega)) (FW.all G k (by omega)) (by omega)
theorem low_at {h:Nat} {rss:List (List Int)} (G:qiq h rss) {f g:Nat} (hf:f<=h) (hg:g < h):((qhk rss h).getD f []).getD g 0=(ent (fwN rss h) f g).1:=by
 have S:=Shp.all G h (Nat.le_refl _)
 have hl:f < (fwN rss h).length:=by have:=S.len;omega
 have hl2:f < (qhk rss h).length:=by unfold qhk;rw [List.length_map];exact hl
 have r:=S.rowAt hf
 rw [qax hl] at r
 unfold ent
 rw [qax hl,qax (l:=(fwN rss h)[f]) (by omega)]
 unfold qhk
 rw [qax (l:=(fwN rss h).map fun row=>row.map (·.1)) (i:=f) (by rw [List.length_map];exact hl),List.getElem_map,qax (by rw [List.length_map];omega),List.getElem_map]
theorem qi7 {h:Nat} {rss:List (List Int)} (G:qiq h rss):qiq h (qhk rss h):=by
 have S:=Shp.all G h (Nat.le_refl _)
 have F:=FW.all G h (Nat.le_refl _)
 refine ⟨by unfold qhk;rw [List.length_map];exact S.len,fun r hr=>?_⟩
 unfold qhk at hr
 obtain ⟨row,hm,rfl⟩:=List.mem_map.mp hr
 refine ⟨by rw [List.length_map];exact S.row row hm,fun v hv=>?_⟩
 obtain ⟨w,hw,rfl⟩:=List.mem_map.mp hv
 obtain ⟨f,hf,rfl⟩:=List.getElem_of_mem hm
 obtain ⟨g,hg,rfl⟩:=List.getElem_of_mem hw
 have hf':f<=h:=by have:=S.len;omega
 have hg':g < h:=by rw [<- S.row _ hm];exact hg
 have e:ent (fwN rss h) f g=(fwN rss h)[f][g]:=by unfold ent;rw [qax hf,qax hg]
 have p:=F.pos f g hf' hg'
 have l:=F.le f g hf' hg'
 rw [e] at p l
 refine ⟨p,Int.lt_of_le_of_lt l ?_⟩
 have hl:f < rss.length:=by have:=G.len;omega
 have hg2:g < rss[f].length:=by rw [(G.row _ (List.getElem_mem hl)).1];exact hg'
 rw [qgw G hf' hg',qax hl,qax hg2]
 exact ((G.row _ (List.getElem_mem hl)).2 _ (List.getElem_mem hg2)).2
end Lw
namespace Lw
theorem qji {rss:List (List Int)} {h:Nat} (G:qiq h rss):∀ (hs:List Int) (f:Nat),f<=h->(∀ x ∈ hs,0<=x/\x < (h:Int))->0<=qk4 rss (f:Int) hs
 | [],_,_,_=>Int.le_refl _
 | x::r,f,hf,ho=>by
  obtain ⟨x0,x1⟩:=ho x List.mem_cons_self
  obtain ⟨m,rfl⟩:=Int.eq_ofNat_of_zero_le x0
  have q:=qji G r m (by omega) fun y hy=>ho y (List.mem_cons_of_mem _ hy)
  have p:=qlz G hf (g:=m) (by omega)
  show 0<=rin rss f m + qk4 rss m r
  omega
theorem qlq {rss:List (List Int)} {h:Nat} (G:qiq h rss) {g:Nat} (hg:g < h):∀ (mids:List Int) (f:Nat),f<=h->(∀ x ∈ mids,0<=x/\x < (h:Int)) ->
  ∃ ms:List Int,ms.Nodup/\(∀ x ∈ ms,x ∈ mids)/\qk4 rss (f:Int) (ms++[(g:Int)])<=qk4 rss (f:Int) (mids++[(g:Int)])
 | [],_,_,_=>⟨[],List.nodup_nil,fun _ z=>z,Int.le_refl _⟩
 | x::r,f,hf,ho=>by
  obtain ⟨x0,x1⟩:=ho x List.mem_cons_self
  obtain ⟨m,rfl⟩:=Int.eq_ofNat_of_zero_le x0
  obtain ⟨ms,hn,hs,hw⟩:=qlq G hg r m (by omega) fun y hy=>ho y (List.mem_cons_of_mem _ hy)
  by_cases hm:(m:Int) ∈ ms
  ·obtain ⟨p,s,rfl⟩:=List.append_of_mem hm
   have hn2:=List.nodup_append.mp hn
   refine ⟨(m:Int)::s,hn2.2.1,fun y hy=>?_,?_⟩
   ·rcases List.mem_cons.mp hy with e | hy
    ·rw [e];exact List.mem_cons_self
    ·exact List.mem_cons_of_mem _ (hs y (List.mem_append_right _ (List.mem_cons_of_mem _ hy)))
   ·have e1:p++(m:Int)::s++[(g:Int)]=(p++[(m:Int)])++(s++[(g:Int)]):=by simp
    rw [e1,qe3 (g:=(m:Int)) (by simp)] at hw
    have nn:=qji G (p++[(m:Int)]) m (by omega) (fun y hy=>by
     rcases List.mem_append.mp hy with hy | hy
     ·exact ho y (List.mem_cons_of_mem _ (hs y (List.mem_append_left _ hy)))
     ·rw [List.mem_singleton.mp hy];exact ⟨x0,x1⟩)
    show rin rss f m + qk4 rss m (s++[(g:Int)])<=rin rss f m + qk4 rss m (r++[(g:Int)])
    omega
  ·refine ⟨(m:Int)::ms,List.nodup_cons.mpr ⟨hm,hn⟩,fun y hy=>?_,?_⟩
   ·rcases List.mem_cons.mp hy with e | hy
    ·rw [e];exact List.mem_cons_self
    ·exact List.mem_cons_of_mem _ (hs y hy)
   ·show rin rss f m + qk4 rss m (ms++[(g:Int)])<=rin rss f m + qk4 rss m (r++[(g:Int)])
    omega
def huesL (h:Nat):List Int:=(List.range h).map fun (i:Nat)=>(i:Int)
theorem mem_huesL {h:Nat} {x:Int}:x ∈ huesL h ↔ 0<=x/\x < (h:Int):=by
 unfold huesL
 constructor
 ·intro hx
  obtain ⟨i,hi,rfl⟩:=List.mem_map.mp hx
  have:=List.mem_range.mp hi
  omega
 ·intro hx
  exact List.mem_map.mpr ⟨x.toNat,List.mem_range.mpr (by omega),by omega⟩
theorem qhh {α:Type} [DecidableEq α]:∀ {ms left:List α},ms.Nodup->(∀ x ∈ ms,x ∈ left)->ms.length<=left.length
 | [],_,_,_=>Nat.zero_le _
 | x::r,left,hn,hs=>by
  have hn':=List.nodup_cons.mp hn
  have q:=qhh (ms:=r) (left:=left.erase x) hn'.2 (fun y hy=>(List.mem_erase_of_ne (fun e=>hn'.1 (by rw [e] at hy;exact hy))).mpr (hs y (List.mem_cons_of_mem _ hy)))
  have hx:=hs x List.mem_cons_self
  rw [List.length_erase_of_mem hx] at q
  have pos:0 < left.length:=List.length_pos_of_mem hx
  show r.length + 1<=_
  omega
open Mi
def qny (rss:List (List Int)) (h:Nat) (row:List Int):List Int:=(List.range h).map fun g=>minI (row.getD g 0::(List.range h).map fun a=>row.getD a 0 + (rss.getD a []).getD g 0)
def bfN (rss:List (List Int)) (h:Nat):Nat->List (List Int)
 | 0=>rss
 | k + 1=>(bfN rss h k).map (qny rss h)
theorem qnz {rss:List (List Int)} {h:Nat} (G:qiq h rss):∀ k,(bfN rss h k).length=h + 1/\∀ r ∈ bfN rss h k,r.length=h
 | 0=>⟨G.len,fun r hr=>(G.row r hr).1⟩
 | k + 1=>by
  have ih:=qnz G k
  refine ⟨by show ((bfN rss h k).map _).length=_;rw [List.length_map];exact ih.1,fun r hr=>?_⟩
  obtain ⟨q,_,rfl⟩:=List.mem_map.mp hr
  unfold qny
  rw [List.length_map,List.length_range]
def bfE (rss:List (List Int)) (h k f g:Nat):Int:=((bfN rss h k).getD f []).getD g 0
theorem qsg {rss:List (List Int)} {h:Nat} (G:qiq h rss) {k f g:Nat} (hf:f<=h) (hg:g < h):bfE rss h (k + 1) f g=minI (bfE rss h k f g::(List.range h).map fun a=>bfE rss h k f a + rin rss (a:Int) (g:Int)):=by
 have L:=qnz G k
 have hl:f < (bfN rss h k).length:=by omega
 unfold bfE
 show (((bfN rss h k).map (qny rss h)).getD f []).getD g 0=_
 rw [qax (l:=(bfN rss h k).map (qny rss h)) (i:=f) (by rw [List.length_map];exact hl),List.getElem_map,qax (l:=bfN rss h k) (i:=f) hl]
 unfold qny
 rw [qax (by rw [List.length_map,List.length_range];exact hg),List.getElem_map,List.getElem_range]
 congr 2
 refine List.map_congr_left fun a ha=>?_
 rw [qgw G (by have:=List.mem_range.mp ha;omega) hg]
theorem bf_ge {rss:List (List Int)} {h:Nat} (G:qiq h rss):∀ k f g,f<=h->g < h->(ent (fwN rss h) f g).1<=bfE rss h k f g
 | 0,f,g,hf,hg=>by
  have q:=(FW.all G h (Nat.le_refl _)).le f g hf hg
  rw [qgw G hf hg] at q
  exact q
 | k + 1,f,g,hf,hg=>by
  rw [qsg G hf hg]
  have m:=qrz (l:=bfE rss h k f g::(List.range h).map fun a=>bfE rss h k f a + rin rss (a:Int) (g:Int)) (by simp)
  rcases List.mem_cons.mp m with e | e
  ·rw [e];exact bf_ge G k f g hf hg
  ·obtain ⟨a,ha,e2⟩:=List.mem_map.mp e
   rw [<- e2]
   have ha':=List.mem_range.mp ha
   have F:=FW.all G h (Nat.le_refl _)
   have i:=bf_ge G k f a hf ha'
   have t:=F.tri a f g ha' hf hg
   have l:=F.le a g (by omega) hg
   omega
theorem bf_le {rss:List (List Int)} {h:Nat} (G:qiq h rss):∀ (k:Nat) (ms:List Int) (f g:Nat),f<=h->g < h->(∀ x ∈ ms,0<=x/\x < (h:Int))->ms.length<=k->bfE rss h k f g<=qk4 rss (f:Int) (ms++[(g:Int)])
 | 0,ms,f,g,hf,hg,_,hl=>by
  have:ms=[]:=List.length_eq_zero_iff.mp (by omega)
  subst this
  show _<=rin rss f g + 0
  rw [qgw G hf hg]
  show (rss.getD f []).getD g 0<=_
  omega
 | k + 1,ms,f,g,hf,hg,ho,hl=>by
  rw [qsg G hf hg]
  by_cases hk:ms.length<=k
  ·exact Int.le_trans (qql List.mem_cons_self) (bf_le G k ms f g hf hg ho hk)
  ·have hne:ms ≠ []:=fun z=>by rw [z] at hk;simp at hk
   have e:=List.dropLast_concat_getLast hne
   obtain ⟨x0,x1⟩:=ho (ms.getLast hne) (List.getLast_mem hne)
   obtain ⟨a,ha⟩:=Int.eq_ofNat_of_zero_le x0
   rw [ha] at x1 e
   have i:=bf_le G k ms.dropLast f a hf (by omega) (fun x hx=>ho x ((List.dropLast_sublist ms).subset hx)) (by rw [List.length_dropLast];omega)
   refine Int.le_trans (qql (List.mem_cons_of_mem _ (List.mem_map.mpr ⟨a,List.mem_range.mpr (by omega),rfl⟩))) ?_
   rw [<- e,qe3 (g:=(a:Int)) (by simp)]
   show _<=qk4 rss f (ms.dropLast++[(a:Int)]) + (rin rss a g + 0)
   omega
theorem bf_low {rss:List (List Int)} {h:Nat} (G:qiq h rss):bfN rss h h=qhk rss h:=by
 have L:=qnz G h
 have G2:=qi7 G
 have F:=FW.all G h (Nat.le_refl _)
 refine List.ext_getElem (by rw [L.1,G2.len]) fun f h1 h2=>?_
 have hf:f<=h:=by omega
 refine List.ext_getElem (by rw [L.2 _ (List.getElem_mem h1),(G2.row _ (List.getElem_mem h2)).1]) fun g g1 g2=>?_
 have hg:g < h:=by rw [L.2 _ (List.getElem_mem h1)] at g1;exact g1
 have a1:bfE rss h h f g=(bfN rss h h)[f][g]:=by unfold bfE;rw [qax h1,qax g1]
 have a2:=low_at G hf hg
 rw [qax h2,qax g2] at a2
 rw [<- a1,a2]
 refine Int.le_antisymm ?_ (bf_ge G h f g hf hg)
 have W:=F.way f g hf hg
 obtain ⟨mids,e⟩:∃ mids,(ent (fwN rss h) f g).2=mids++[(g:Int)]:=by
  have ne:(ent (fwN rss h) f g).2 ≠ []:=fun z=>by have q:=W.last;rw [z] at q;cases q
  refine ⟨(ent (fwN rss h) f g).2.dropLast,?_⟩
  have q:=List.dropLast_concat_getLast ne
  have q2:(ent (fwN rss h) f g).2.getLast ne=(g:Int):=by
   have q3:=W.last
   rw [List.getLast?_eq_some_getLast ne] at q3
   exact Option.some.inj q3
  rw [q2] at q
  exact q.symm
 have hmid:∀ x ∈ mids,0<=x/\x < (h:Int):=fun x hx=>W.ok x (by rw [e];exact List.mem_append_left _ hx)
 obtain ⟨ms,hn,hs,hw⟩:=qlq G hg mids f hf hmid
 have sub:∀ x ∈ ms,x ∈ huesL h:=fun x hx=>mem_huesL.mpr (hmid x (hs x hx))
 have lm:ms.length<=h:=by
  have q:=qhh hn sub
  unfold huesL at q
  rw [List.length_map,List.length_range] at q
  exact q
 have b:=bf_le G h ms f g hf hg (fun x hx=>hmid x (hs x hx)) lm
 have s:=W.sum
 rw [e] at s
 omega
end Lw
namespace Lw
open PySem L2 Mi
def top (i:Nat):Stmt:=PySem.Challenge.pw_rinsework_k13_done_one_behind_the_other.main.body.getD i (.Pass ⟨0,0,0,0⟩)
abbrev qh3:Stmt:=top 46
abbrev qe4:Stmt:=top 47
abbrev qlr:Stmt:=top 48
theorem qm1 {H:Hp} {p:Addr} (h:H p=none) (o:HO):Same H (upd H p o):=fun b u q=>by rw [qam (qai q h)];exact q
theorem sizes {n:Nat} (h:n<=1000):n<=sizeLine:=Nat.le_of_lt (qfl h)
def qmv:Sp:=fun vs H Q _=>∃ c k:Int,vs=[.int c,.int k]/\0<=k/\k<=100/\∀ v:Int,0<=v->v < 2147483648->Q (.int v) H
def qrl (K:PySem.W.Frag):Sp:=fun vs H Q _=>∃ (a:Addr) (ns:List Int) (k:Int),vs=[.ref a,.int k]/\SqL K H a (ns.map V.int)/\ns.length<=63/\0<=k/\k<=12 /\
 ∀ (r:Addr) (n:Int) (H':Hp),H r=none->Same H H'->H' r=some (.lst [.int n])->Q (.ref r) H'
section
variable {P:Program} {w:World} {K:PySem.W.Frag} {mg:Str->Option Value} {base:Heap} {f:Addr} {fd:FuncData}
theorem sc_take:qar ["stream", "many", "digit"] ["stream", "many"] (qab qlr):=⟨rfl,rfl,rfl,by decide +kernel,rfl,by decide +kernel,by decide +kernel⟩
theorem ok_take (F:Fun K "_law_take" "_law_take" qlr f fd):FnOk P w K mg base CX0 1 f fd ["stream", "many"] qha:=by
 refine F.ok sc_take (fun vs H Q E h=>?_) (fun cdv A outer s H vs Q E hr h=>?_)
 ·obtain ⟨a,n,m,rfl,_⟩:=h
  rfl
 obtain ⟨a,n,m,rfl,hH,hm,q⟩:=h
 refine ⟨_,(qae (qaz (i:=2) sc_take.nd rfl (Or.inl rfl) (qa8 qj2 (qbb (qja (K:=K) rfl) (pv 0) qaf (fun _ _=>rfl)) (pv 1)))
  (qae (ps_asg (qa8 qrw (qbb (qja (K:=K) rfl) (pv 0) qaf (fun _ _=>rfl)) (pv 1)) (pg_sub (pv 0) qaf set_list))
  (qag (qa5 (pv 2))))),?_⟩
 refine ⟨_,rfl,a,_,0,_,rfl,rfl,SqL.of hH,rfl,_,rfl,n,m,rfl,rfl,hm.1,?_⟩
 refine ⟨_,rfl,a,_,0,_,rfl,rfl,SqL.of hH,rfl,_,rfl,n,m,rfl,rfl,hm,?_⟩
 refine ⟨_,rfl,a,_,0,0,rfl,rfl,hH,rfl,?_⟩
 exact ⟨_,rfl,q⟩
theorem sc_mixed:qar ["cell", "k", "one"] ["cell", "k"] (qab qh3):=⟨rfl,rfl,rfl,by decide +kernel,rfl,by decide +kernel,by decide +kernel⟩
theorem ok_mixed (F:Fun K "_law_mixed" "_law_mixed" qh3 f fd):FnOk P w K mg base CX0 1 f fd ["cell", "k"] qmv:=by
 refine F.ok sc_mixed (fun vs H Q E h=>?_) (fun cdv A outer s H vs Q E hr h=>?_)
 ·obtain ⟨c,k,rfl,_⟩:=h
  rfl
 obtain ⟨c,k,rfl,k0,k1,q⟩:=h
 refine ⟨_,(qae (qaz (i:=2) sc_mixed.nd rfl (Or.inl rfl) (qa8 qj2 (qa8 ql4 (qa8 op_add (qa8 op_add (qa8 qj2 (pv 0) qaf) (qa8 ql4 qaf (pv 1))) qaf) qaf) qaf))
  (qag (qa5 (qa8 qj2 (qa8 ql4 (qa8 qj2 (qa8 ql4 (pv 2) (pv 2)) qaf) qaf) qaf)))),?_⟩
 refine ⟨_,rfl,_,_,rfl,rfl,(by show (0:Int) < 1000000007;decide),_,rfl,_,_,rfl,rfl,.inl ⟨by decide,by decide⟩,_,_,rfl,rfl,_,_,rfl,rfl,_,_,rfl,rfl,.inr ⟨by decide,by decide⟩,_,_,rfl,rfl,(by show (0:Int) < 2147483647;decide),?_⟩
 generalize hone:(c % 1000000007 + 7919 * k + 101) * 48271 % 2147483647=one
 have o0:0<=one:=by rw [<- hone];exact Int.emod_nonneg _ (by decide)
 have o1:one < 2147483647:=by rw [<- hone];exact Int.emod_lt_of_pos _ (by decide)
 refine ⟨_,rfl,_,rfl,_,_,rfl,rfl,.inl ⟨by omega,by omega⟩,_,_,rfl,rfl,(by show (0:Int) < 2147483629;decide),_,_,rfl,rfl,.inr ⟨by decide,by decide⟩,_,_,rfl,rfl,(by show (0:Int) < 2147483647;decide),?_⟩
 exact q _ (Int.emod_nonneg _ (by decide)) (Int.lt_trans (Int.emod_lt_of_pos _ (by decide)) (by decide))
end
end Lw
namespace Lw
open PySem L2 Mi
def MM:Int:=10 ^ (60:Int).toNat
theorem qsb:CPow 10 60:=⟨by decide,by decide,by decide⟩
theorem cpow18:CPow 10 18:=⟨by decide,by decide,by decide⟩
theorem qsf:Builtin.Int.intBits MM<=2 ^ 20:=by decide +kernel
def M2:Int:=MM * MM
theorem qsp:0 < M2:=by decide +kernel
theorem bitsM2:Builtin.Int.intBits M2<=2 ^ 20:=by decide +kernel
theorem qsw {M c r:Int} {i:Nat} (hM:0 < M) (h0:0<=c) (h:c < M ^ i) (r0:0<=r) (r1:r < M):0<=c * M + r/\c * M + r < M ^ (i + 1):=by
 have e:M ^ (i + 1)=M ^ i * M:=Int.pow_succ M i
 have h1:(c + 1) * M<=M ^ i * M:=Int.mul_le_mul_of_nonneg_right (by omega) (Int.le_of_lt hM)
 have h2:(c + 1) * M=c * M + M:=by rw [Int.add_mul,Int.one_mul]
 have h3:0<=c * M:=Int.mul_nonneg h0 (Int.le_of_lt hM)
 rw [e]
 omega
theorem MM_pow:∀ i:_root_.Fin 8,(M2 ^ (i:Nat)).toNat < 2 ^ 2800:=by decide +kernel
theorem bits_c {c:Int} {i:Nat} (hi:i<=7) (h0:0<=c) (h:c < M2 ^ i):Builtin.Int.intBits c<=2 ^ 20:=by
 obtain ⟨n,rfl⟩:=Int.eq_ofNat_of_zero_le h0
 have q:=MM_pow ⟨i,by omega⟩
 have q2:n < 2 ^ 2800:=by
  have q':(M2 ^ i).toNat < 2 ^ 2800:=q
  omega
 exact Nat.le_trans (PyProof.Rows.intBits_le (by rw [Int.natAbs_natCast];exact q2)) (by decide)
theorem qvd:∀ i:_root_.Fin 13,∀ j:_root_.Fin 64,Builtin.Range.small ((i:Nat):Int) ((j:Nat):Int) 12=true:=by decide +kernel
theorem qm5 {i j:Int}:Builtin.Range.rangeSize i j 12=if i < j then (j - i - 1) / 12 + 1 else 0:=rfl
theorem rng_ok {i j:Int} (h0:0<=i) (h1:i<=12) (h2:0<=j) (h3:j<=63):0<=Builtin.Range.rangeSize i j 12/\Builtin.Range.small i j 12=true/\rngN i j 12<=6/\∀ t:Nat,t < rngN i j 12->i + t * 12 < j:=by
 refine ⟨?_,?_,?_,fun t ht=>?_⟩
 ·rw [qm5];split <;> omega
 ·have q:=qvd ⟨i.toNat,by omega⟩ ⟨j.toNat,by omega⟩
  have e1:((i.toNat:Nat):Int)=i:=by omega
  have e2:((j.toNat:Nat):Int)=j:=by omega
  have q':Builtin.Range.small ((i.toNat:Nat):Int) ((j.toNat:Nat):Int) 12=true:=q
  rw [e1,e2] at q'
  exact q'
 ·unfold rngN;rw [qm5];split <;> omega
 ·unfold rngN at ht;rw [qm5] at ht;split at ht <;> omega
theorem at_int {ns:List Int} {k:Int} (h0:0<=k) (h:k < (ns.length:Int)):∃ v:Int,atI (ns.map V.int) k=some (.int v):=by
 have hk:k.toNat < ns.length:=by omega
 have ek:k=((k.toNat:Nat):Int):=by omega
 have q:atI (ns.map V.int) ((k.toNat:Nat):Int)=some (.int ns[k.toNat]):=qdx (by rw [List.getElem?_map,List.getElem?_eq_getElem hk] <;> rfl)
 rw [<- ek] at q
 exact ⟨_,q⟩
section
variable {P:Program} {w:World} {K:PySem.W.Frag} {mg:Str->Option Value} {base:Heap} {f:Addr} {fd:FuncData}
theorem sc_stream:qar ["script", "k", "cell", "j", "found"] ["script", "k"] (qab qe4):=⟨rfl,rfl,rfl,by decide +kernel,rfl,by decide +kernel,by decide +kernel⟩
theorem qtb (F:Fun K "_law_stream" "_law_stream" qe4 f fd) (c_mixed:Fn P w K mg base 1 "_law_mixed" ["cell", "k"] qmv) (m_len:mg "len"=none) (m_range:mg "range"=none) (m_sum:mg "sum"=none) :
  FnOk P w K mg base CX0 2 f fd ["script", "k"] (qrl K):=by
 refine F.ok sc_stream (fun vs H Q E h=>?_) (fun cdv A outer s H vs Q E hr h=>?_)
 ·obtain ⟨a,ns,k,rfl,_⟩:=h
  rfl
 obtain ⟨a,ns,k,rfl,hS,h63,k0,k1,q⟩:=h
 refine ⟨_,(qae (qaz (i:=2) sc_stream.nd rfl (Or.inl rfl) qaf)
  (qae (qeq PassesOwn.never rfl (qvp rfl m_range (qaa (pv 1) (qaa (qa1 (qhp (K:=K) rfl) rfl m_len PySem.boot_len (qaa (pv 0) qac)) (qaa qaf qac)))) (qa2 (i:=3) sc_stream.nd rfl (Or.inl rfl))
   (qag (qaz (i:=2) sc_stream.nd rfl (Or.inl rfl) (qa8 op_add (qa8 qni (pv 2) (qa8 qni (qa8 qev qaf qaf) (qa8 qev qaf qaf))) (qa8 qj2 (qbb (qja (K:=K) rfl) (pv 0) (pv 3) (fun _ _=>rfl)) (qa8 qni (qa8 qev qaf qaf) (qa8 qev qaf qaf)))))))
  (qae (qc7 (qbe op_ge (pv 2) (qa8 qev qaf qaf) (qbl _)) (qag (qa5 (qbx (qaa (pv 2) qac)))) qbf)
  (qae (qaz (i:=2) sc_stream.nd rfl (Or.inl rfl) (qa8 op_add (pv 2) (qa1 (qxk (K:=K) rfl rfl) rfl m_sum qxr (qaa (qbv (N':=["one"]) (cap:=[none]) (qci rfl rfl rfl) rfl (qbg (K:=K) rfl (pv 0)) (fun _ _ _ _ _ _=>(qa2 (i:=0) (by show (["one"]:List Str).Nodup;decide +kernel) rfl (Or.inl rfl))) (fun _ _ _ _ _ _=>qbm) (fun _ _ _ _ _ _=>(qa8 qj2 (pv 0) (qa8 qev qaf qaf)))) qac))))
  (qae (qaz (i:=4) sc_stream.nd rfl (Or.inl rfl) qaf)
  (qae (qeq PassesOwn.never rfl (qda rfl m_range (qaa qaf qac)) (qa2 (i:=3) sc_stream.nd rfl (Or.inl rfl))
   (qag (qaz (i:=4) sc_stream.nd rfl (Or.inl rfl) (qa8 op_add (qa8 ql4 (pv 4) qaf) (qa3 c_mixed hr (by decide) rfl (qaa (qa8 op_add (qa8 op_add (pv 2) (qa8 ql4 qaf (pv 1))) (qa1 (qhp (K:=K) rfl) rfl m_len PySem.boot_len (qaa (pv 0) qac))) (qaa (pv 3) qac)))))))
  (qag (qa5 (qbx (qaa (pv 4) qac)))))))))),?_⟩
 have hl:(((ns.map V.int).length:Nat):Int)=(ns.length:Int):=by rw [List.length_map]
 obtain ⟨z1,z2,z3,z4⟩:=rng_ok (i:=k) (j:=(((ns.map V.int).length:Nat):Int)) k0 k1 (by omega) (by omega)
 refine ⟨_,rfl,_,rfl,a,_,rfl,.inl hS,k,_,12,rfl,⟨by decide,by decide⟩,z1,z2,for_its (fun i σ H2=>∃ (c:Int) (j:Option V),σ=[some (.ref a),some (.int k),some (.int c),j,none]/\H2=H/\0<=c/\c < M2 ^ i)
  ⟨0,none,rfl,rfl,Int.le_refl 0,by decide⟩ ?_ ?_⟩
 ·rintro i σ H2 hi ⟨c,j,rfl,rfl,c0,c1⟩
  obtain ⟨v,hv⟩:=at_int (ns:=ns) (k:=k + i * 12) (by omega) (by have:=z4 i hi;omega)
  refine ⟨_,rfl,_,_,rfl,rfl,qsb,_,_,rfl,rfl,qsb,_,_,rfl,rfl,⟨qsf,qsf⟩,_,_,rfl,rfl,⟨bits_c (by omega) c0 c1,bitsM2⟩,_,rfl,_,rfl,a,_,_,_,rfl,rfl,hS,hv,
   _,_,rfl,rfl,qsb,_,_,rfl,rfl,qsb,_,_,rfl,rfl,⟨qsf,qsf⟩,_,_,rfl,rfl,qsp,_,_,rfl,rfl,?_⟩
  have sb:=qsw (i:=i) qsp c0 c1 (Int.emod_nonneg v (Ne.symm (Int.ne_of_lt qsp))) (Int.emod_lt_of_pos v qsp)
  exact ⟨_,_,rfl,rfl,sb.1,sb.2⟩
 ·rintro σ H2 ⟨c,j,rfl,rfl,c0,c1⟩
  refine ⟨_,rfl,_,_,rfl,rfl,cpow18,_,_,rfl,rfl,_,rfl,ite2 (fun _=>?_) (fun _=>?_)⟩
  ·refine ⟨_,rfl,(by show 1<=sizeLine;decide),fun p hp=>?_⟩
   exact q p c _ hp (qm1 hp _) qan
  ·refine ⟨_,rfl,_,rfl,a,rfl,⟨_,hS⟩,qxh (K:=K) (a:=a) (xs:=ns.map V.int) (fun i ys H3=>H3=H2/\∃ ms:List Int,ys=ms.map V.int/\ms.length=i) ⟨rfl,[],rfl,rfl⟩ ?_ ?_ ?_ ?_⟩
   ·rintro i ys H3 hi ⟨_,ms,rfl,rfl⟩
    rw [List.length_map] at hi ⊢
    exact sizes (by omega)
   ·rintro i ys H3 hi ⟨rfl,_⟩
    exact hS
   ·rintro i x ys H3 R hx ⟨rfl,ms,rfl,rfl⟩ hR
    rw [List.getElem?_map] at hx
    obtain ⟨v,hv,rfl⟩:=Option.map_eq_some_iff.mp hx
    refine ⟨Wk.one rfl,⟨_,rfl,_,_,rfl,rfl,cpow18,_,_,rfl,rfl,(by show (0:Int) < 10 ^ (18:Int).toNat;decide),?_⟩⟩
    exact hR _ _ ⟨rfl,ms++[_],by rw [List.map_append];rfl,by rw [List.length_append];rfl⟩
   ·rintro ys H3 ⟨rfl,ms,rfl,_⟩ D hD
    refine ⟨D,ms,rfl,SqL.of qan,_,_,rfl,rfl,?_⟩
    have g1:Same H3 (upd H3 D (.lst (ms.map V.int))):=qm1 hD _
    refine ⟨12,rfl,by decide,by decide,qwu (n:=12) (fun i σ H4=>∃ (f:Int) (j:Option V),σ=[some (.ref a),some (.int k),some (.int (c + ms.sum)),j,some (.int f)]/\H4=upd H3 D (.lst (ms.map V.int))) ⟨0,_,rfl,rfl⟩ ?_ ?_⟩
    ·rintro i σ H4 hi ⟨f,j,rfl,rfl⟩
     refine ⟨_,rfl,_,_,rfl,rfl,.inr ⟨by decide,by decide⟩,_,rfl,_,rfl,_,_,rfl,rfl,.inl ⟨by decide,by decide⟩,_,_,rfl,rfl,_,rfl,a,_,rfl,.inl (g1.seq hS),_,_,rfl,rfl,_,rfl,_,_,rfl,by omega,by omega,fun v v0 v1=>?_⟩
     exact ⟨_,_,rfl,rfl,_,_,rfl,rfl⟩
    ·rintro σ H4 ⟨f,j,rfl,rfl⟩
     refine ⟨_,rfl,(by show 1<=sizeLine;decide),fun p hp=>?_⟩
     exact q p f _ (g1.free hp) (g1.trans (qm1 hp _)) qan
end
end Lw
namespace Lw
open PySem L2 Mi
def qca (K:PySem.W.Frag):List PV->Prop:=fun xs=>∃ (ns:List Int) (k:Int),xs=[scr K ns,.at (.int k)]/\ns.length<=63/\0<=k/\k<=12
def qce:List PV->PV->Prop:=fun _ y=>∃ n:Int,y = .lst [.at (.int n)]
theorem quy {K:PySem.W.Frag} {vs:List V} {H:Hp} {Q:VK} {E:XK} (h:spN (qca K) qce vs H Q E):qrl K vs H Q E:=by
 obtain ⟨Hs,xs,sm,r,⟨ns,k,rfl,h63,k0,k1⟩,q⟩:=h
 obtain ⟨v,w,rfl,p1,p2⟩:=reps_cons.mp r
 obtain ⟨u,z,rfl,p3,p4⟩:=reps_cons.mp p2
 cases reps_nil.mp p4
 cases rep_at.mp p3
 obtain ⟨a,rfl,hS⟩:=scr_at sm p1
 exact ⟨a,ns,k,rfl,hS,h63,k0,k1,fun b n H' nb g e=>q _ b Hs H' ⟨n,rfl⟩ ⟨.refl _,g,sm.trans g,fun _ _ z=>z⟩ nb (sm.free nb) ⟨_,e,.one (rep_at.mpr rfl)⟩⟩
section
variable {P:Program} {w:World} {K:PySem.W.Frag} {mg:Str->Option Value} {base:Heap} {f:Addr} {fd:FuncData}
theorem qv0 (F:Fun K "_law_stream" "_law_stream" qe4 f fd) (c_mixed:Fn P w K mg base 1 "_law_mixed" ["cell", "k"] qmv) (m_len:mg "len"=none) (m_range:mg "range"=none) (m_sum:mg "sum"=none) :
  FnOk P w K mg base CX0 2 f fd ["script", "k"] (spN (qca K) qce):=(qtb F c_mixed m_len m_range m_sum).imp fun _ _ _ _ h=>quy h
theorem cpow40:CPow 10 40:=⟨by decide,by decide,by decide⟩
abbrev qlw:Stmt:=top 49
theorem sc_more:qar ["script"] ["script"] (qab qlw):=⟨rfl,rfl,rfl,by decide +kernel,rfl,by decide +kernel,by decide +kernel⟩
def qi2 (K:PySem.W.Frag):List PV->Prop:=fun xs=>∃ ns:List Int,xs=[scr K ns]/\ns.length<=63
theorem ok_more (F:Fun K "_law_more" "_law_more" qlw f fd) (c_stream:Fn P w K mg base 2 "_law_stream" ["script", "k"] (spN (qca K) qce)):FnOk P w K mg base CX0 3 f fd ["script"] (spN (qi2 K) qce):=by
 refine F.ok sc_more (fun vs H Q E h=>?_) (fun cdv A outer s H vs Q E hr h=>?_)
 ·obtain ⟨Hs,xs,_,r,⟨ns,rfl,_⟩,_⟩:=h
  rw [r.length];rfl
 obtain ⟨Hs,xs,sm,r,⟨ns,rfl,h63⟩,q⟩:=h
 obtain ⟨v,w,rfl,p1,p2⟩:=reps_cons.mp r
 cases reps_nil.mp p2
 refine ⟨_,(qag (qa5 (qbx (qaa (qa8 qrw (qbb (qja (K:=K) rfl) (qa3 c_stream hr (by decide) rfl (qaa (pv 0) (qaa qaf qac))) qaf (fun _ _=>rfl)) (qa8 qev qaf qaf)) qac)))),?_⟩
 refine ⟨_,rfl,Hs,[scr K ns,.at (.int 0)],sm,.cons p1 (.one (rep_at.mpr rfl)),⟨ns,0,rfl,h63,by decide,by decide⟩,fun y b Hs' H' hR x n n' t=>?_⟩
 obtain ⟨m,rfl⟩:=hR
 obtain ⟨ws,hw,rw⟩:=t
 obtain ⟨u,z,rfl,p3,p4⟩:=reps_cons.mp rw
 cases reps_nil.mp p4
 cases rep_at.mp p3
 refine ⟨b,_,0,_,rfl,rfl,SqL.of hw,rfl,_,_,rfl,rfl,cpow40,_,_,rfl,rfl,⟨by decide +kernel,by decide +kernel⟩,(by show 1<=sizeLine;decide),fun p hp=>?_⟩
 exact q _ p Hs' _ ⟨_,rfl⟩ (x.trans (.newO x.s3 hp)) (x.s2.free hp) (x.s3.free hp) ⟨_,qan,.one (rep_at.mpr rfl)⟩
end
end Lw
namespace Lw
open PySem L2 Mi
def BIG:Int:=10 ^ 30
theorem qn4:0 < BIG:=by decide +kernel
theorem cpow30':CPow 10 30:=⟨by decide,by decide,by decide⟩
theorem qs7:pPow (.at (.int 10)) (.at (.int 30))=some (.at (.int BIG)):=by
 show (if CPow 10 30 then some (V.int (10 ^ (30:Int).toNat)) else none).map PV.at=_
 rw [if_pos cpow30'];rfl
theorem log2_big {k:Int} (h0:0<=k) (h1:k<=2 * BIG):k.natAbs.log2 < 9000:=by
 have hb:(2 * BIG).toNat < 2 ^ 9000:=Nat.lt_of_lt_of_le (show (2 * BIG).toNat < 2 ^ 110 by decide +kernel) (Nat.pow_le_pow_right (by decide) (by decide))
 have:k.natAbs < 2 ^ 9000:=by omega
 by_cases hz:k.natAbs=0
 ·rw [hz];decide
 ·exact (Nat.log2_lt hz).mpr this
theorem cdiv {n k:Int} (h0:0 < k) (h1:k<=2 * BIG):CDivL n k:=⟨h0,log2_big (by omega) h1⟩
theorem qk2:(1000:Int)<=BIG:=by decide +kernel
def qd1 (rss:List (List Int)):PV:= .lst (rss.map fun r=> .lst (r.map fun n=> .at (.int n)))
def qes:List PV->Prop:=fun xs=>xs=[]
def qie:List PV->PV->Prop:=fun _ y=>∃ n:Int,y = .at (.int n)/\0<=n/\n < BIG
abbrev qh1:Stmt:=top 50
abbrev qxw (K:PySem.W.Frag):WS:=(wSeq (qis 1 (wTk 0 (wP (dC (.int 5)))))
  (wSeq (qrg (wPT (dT (qay pLt (qap 1) (dC (.int 4))))) (qpx (wTk 0 (wP (qay pIx (qff (qad (dC (.int 1)) (qad (dC (.int 4)) (qad (dC (.int 10)) (qad (dC (.int 1000)) qav))))) (qap 1))))) qir)
  (qpx (wTk 0 (wP (qay pPow (dC (.int 10)) (dC (.int 30))))))))
theorem sc_rinse:qar ["stream", "kind"] ["stream"] (qab qh1):=⟨rfl,rfl,rfl,by decide +kernel,rfl,by decide +kernel,by decide +kernel⟩
theorem qtq:∀ xs,qes xs->xs.length + 1=(["stream"]:List Str).length:=by
 rintro xs rfl;rfl
theorem qos {m k:Int} (h0:0 < k) (h1:k<=BIG):qie [] (.at (.int (m % k))):=⟨_,rfl,Int.emod_nonneg _ (by omega),Int.lt_of_lt_of_le (Int.emod_lt_of_pos _ h0) h1⟩
theorem hw_rinse {K:PySem.W.Frag}:∀ xs n,qes xs->qxw K (qe1 n::xs.map .sh++List.replicate ((["stream", "kind"]:List Str).length - (xs.length + 1)) .no) (fun _=>False) fun y ε=>qie xs y/\qug 0 ε:=by
 rintro xs n rfl
 have h0:0<=n % 5:=Int.emod_nonneg _ (by decide)
 have h5:n % 5 < 5:=Int.emod_lt_of_pos _ (by decide)
 have hB:=qk2
 refine ⟨⟨n,rfl⟩,_,rfl,n,5,rfl,rfl,⟨by decide,by decide⟩,?_⟩
 by_cases hk:n % 5 < 4
 ·refine qi0 (qe2 (v:=true) (show some (PV.at (.bl (decide (n % 5 < 4))))=_ by rw [decide_eq_true hk])) ?_
  have c:n % 5=0 ∨ n % 5=1 ∨ n % 5=2 ∨ n % 5=3:=by omega
  rcases c with e | e | e | e
  ·exact ⟨⟨n / 5,rfl⟩,_,(by show qay pIx _ (qap 1) [qe1 (n / 5),.sh (.at (.int (n % 5)))]=_;rw [e];rfl),n / 5,1,rfl,rfl,⟨by decide,by decide⟩,qos (by decide) (by omega),_,rfl⟩
  ·exact ⟨⟨n / 5,rfl⟩,_,(by show qay pIx _ (qap 1) [qe1 (n / 5),.sh (.at (.int (n % 5)))]=_;rw [e];rfl),n / 5,4,rfl,rfl,⟨by decide,by decide⟩,qos (by decide) (by omega),_,rfl⟩
  ·exact ⟨⟨n / 5,rfl⟩,_,(by show qay pIx _ (qap 1) [qe1 (n / 5),.sh (.at (.int (n % 5)))]=_;rw [e];rfl),n / 5,10,rfl,rfl,⟨by decide,by decide⟩,qos (by decide) (by omega),_,rfl⟩
  ·exact ⟨⟨n / 5,rfl⟩,_,(by show qay pIx _ (qap 1) [qe1 (n / 5),.sh (.at (.int (n % 5)))]=_;rw [e];rfl),n / 5,1000,rfl,rfl,⟨by decide,by decide⟩,qos (by decide) (by omega),_,rfl⟩
 ·refine qfj (qe2 (v:=false) (show some (PV.at (.bl (decide (n % 5 < 4))))=_ by rw [decide_eq_false hk])) ?_
  exact ⟨⟨n / 5,rfl⟩,_,qaj rfl rfl qs7,n / 5,BIG,rfl,rfl,cdiv qn4 (by omega),qos qn4 (Int.le_refl _),_,rfl⟩
theorem ok_rinse {P:Program} {w:World} {K:PySem.W.Frag} {mg:Str->Option Value} {base:Heap} {f:Addr} {fd:FuncData} (F:Fun K "_law_rinse" "_law_rinse" qh1 f fd) (c_take:Fn P w K mg base 1 "_law_take" ["stream", "many"] qha):FnOk P w K mg base CX0 2 f fd ["stream"] (spD qes qie) :=
 okD (k:=1) (b:=qxw K) F sc_rinse qtq (fun cdv A outer s H E hr=>⟨_,(@qae _ _ _ _ _ (@qaz _ _ 1 _ _ _ _ sc_rinse.nd rfl (Or.inl rfl) (qa3 c_take hr (by decide) rfl (@qaa _ _ _ _ _ (pv 0) (@qaa _ _ _ _ _ qaf qac (by rfl)) (by rfl))) (by rfl) (.inl rfl))
  (@qae _ _ _ _ _ (qc7 (qbe (op_lt) (pv 1) qaf (qbl _)) (@qag _ _ _ (qa5 (qa3 c_take hr (by decide) rfl (@qaa _ _ _ _ _ (pv 0) (@qaa _ _ _ _ _ (qbb (qao (K:=K) rfl) (@qbx _ _ _ _ (@qaa _ _ _ _ _ qaf (@qaa _ _ _ _ _ qaf (@qaa _ _ _ _ _ qaf (@qaa _ _ _ _ _ qaf qac (by rfl)) (by rfl)) (by rfl)) (by rfl))) (pv 1) (fun _ _=>rfl)) qac (by rfl)) (by rfl))))) qbf)
  (@qag _ _ _ (qa5 (qa3 c_take hr (by decide) rfl (@qaa _ _ _ _ _ (pv 0) (@qaa _ _ _ _ _ (qa8 (qev) qaf qaf) qac (by rfl)) (by rfl))))))),
  (by repeat' first | infer_instance | (refine @Mi.instSemWSTSeqWSeq _ _ _ _ ?_ ?_) | (apply @Mi.instSemWSTForWForOfSemWIOfSemWG))⟩) hw_rinse
def qdp:List PV->Prop:=fun xs=>∃ h:Nat,xs=[.at (.int h)]/\1<=h/\h<=4
def qgf:List PV->PV->Prop:=fun xs y=>∃ (h:Nat) (rss:List (List Int)),xs=[.at (.int h)]/\y=qd1 rss/\qiq h rss
abbrev qf4:Stmt:=top 51
abbrev qsh (K:PySem.W.Frag):WS:=(qpx (wComp [none,some 1,some 0] [0] (wIp (qd9 (qad (qay qd5 (qap 1) (dC (.int 1))) qav))) (qa4 0) wYes (wComp [none,some 2] [0] (wIp (qd9 (qad (qat 1) qav))) (qa4 0) wYes (quh 1 qes qie wNil))))
theorem qu6:qar ["stream", "hues"] ["stream", "hues"] (qab qf4):=⟨rfl,rfl,rfl,by decide +kernel,rfl,by decide +kernel,by decide +kernel⟩
theorem qqu:∀ xs,qdp xs->xs.length + 1=(["stream", "hues"]:List Str).length:=by
 rintro xs ⟨h,rfl,_⟩;rfl
theorem qjs {ε:ME} {a:MA} {k:Nat} (h:a ε=some [.at (.int (k:Int))]) (hk:k<=lim):qd9 a ε=some (qn5 0 k):=by
 have hlim:(lim:Int)=1000000:=rfl
 have hl:lim=1000000:=rfl
 unfold qd9
 rw [h]
 show (if -(lim:Int)<=(k:Int)/\(k:Int)<=(lim:Int) then some (qn5 0 (k:Int).toNat) else none)=_
 rw [if_pos ⟨by omega,by omega⟩,Int.toNat_natCast]
theorem qwp {K:PySem.W.Frag}:∀ xs n,qdp xs->qsh K (qe1 n::xs.map .sh++List.replicate ((["stream", "hues"]:List Str).length - (xs.length + 1)) .no) (fun _=>False) fun y ε=>qgf xs y/\qug 0 ε:=by
 rintro xs n ⟨h,rfl,h1,h4⟩
 have hl:lim=1000000:=rfl
 refine ⟨qn5 0 (h + 1),qjs rfl (by omega),rfl,by rw [qcf];omega,?_⟩
 refine qpc (fun rest ys ε=>∃ (m:Int) (rss:List (List Int)),ε=[.no,.sh (.at (.int (h:Int))),qe1 m]/\ys=rss.map (fun r=>PV.lst (r.map fun n=> .at (.int n)))/\rss.length + rest.length=h + 1/\(∀ r ∈ rss,r.length=h)/\(∀ r ∈ rss,∀ n ∈ r,0<=n/\n < BIG)) ?_ ?_ _ [] _ ⟨n,[],rfl,rfl,by rw [qcf];simp,(fun _ z=>nomatch z),(fun _ z=>nomatch z)⟩
 ·rintro ys ε ⟨m,rss,rfl,rfl,e1,e2,e3⟩
  exact ⟨fun _=>⟨_,rfl⟩,⟨h,rss,rfl,rfl,by simpa using e1,fun r hr=>⟨e2 r hr,e3 r hr⟩⟩,m,rfl⟩
 ·rintro x rest ys ε ⟨m,rss,rfl,rfl,e1,e2,e3⟩
  simp only [List.length_cons] at e1
  refine ⟨_,rfl,?_⟩
  refine ⟨qn5 0 h,qjs rfl (by omega),rfl,by rw [qcf];omega,?_⟩
  refine qpc (fun rest2 zs ε=>∃ (m:Int) (r:List Int),ε=[.no,qe1 m]/\zs=r.map (fun n=>PV.at (.int n))/\r.length + rest2.length=h/\(∀ n ∈ r,0<=n/\n < BIG)) ?_ ?_ _ [] _ ⟨m,[],rfl,rfl,by rw [qcf];simp,(fun _ z=>nomatch z)⟩
  ·rintro zs ε ⟨m2,r,rfl,rfl,g1,g2⟩
   refine ⟨(fun ⟨y,e⟩=>nomatch (show some (MSlot.sh x)=some (MSlot.ow y) from e)),⟨m2,rss++[r],rfl,by rw [List.map_append];rfl,by rw [List.length_append];simp;omega,?_,?_⟩⟩
   ·intro q hq
    rcases List.mem_append.mp hq with hq | hq
    ·exact e2 q hq
    ·rw [List.mem_singleton.mp hq];simpa using g1
   ·intro q hq
    rcases List.mem_append.mp hq with hq | hq
    ·exact e3 q hq
    ·rw [List.mem_singleton.mp hq];exact g2
  ·rintro x2 rest2 zs ε ⟨m2,r,rfl,rfl,g1,g2⟩
   simp only [List.length_cons] at g1
   refine ⟨_,rfl,⟨_,rfl⟩,⟨_,rfl⟩,rfl,?_⟩
   rintro y n' ⟨v,rfl,v0,v1⟩
   refine ⟨n',r++[v],rfl,by rw [List.map_append];rfl,by rw [List.length_append];simp;omega,fun q hq=>?_⟩
   rcases List.mem_append.mp hq with hq | hq
   ·exact g2 q hq
   ·rw [List.mem_singleton.mp hq];exact ⟨v0,v1⟩
theorem qv1 {P:Program} {w:World} {K:PySem.W.Frag} {mg:Str->Option Value} {base:Heap} {f:Addr} {fd:FuncData} (F:Fun K "_law_rinses" "_law_rinses" qf4 f fd) (c_rinse:Fn P w K mg base 2 "_law_rinse" ["stream"] (spD qes qie)) (m_range:mg "range"=none):FnOk P w K mg base CX0 3 f fd ["stream", "hues"] (spD qdp qgf) :=
 okD (k:=2) (b:=qsh K) F qu6 qqu (fun cdv A outer s H E hr=>⟨_,(@qag _ _ _ (qa5 (qbv (N':=["j", "hues", "stream"]) (cap:=[none,some 1,some 0]) (qci rfl rfl rfl) rfl (qda rfl m_range (@qaa _ _ _ _ _ (qa8 (qbj (K:=K) rfl) (pv 1) qaf) qac (by rfl))) (fun _ _ _ _ _ _=>(qa2 (i:=0) (by show (["j", "hues", "stream"]:List Str).Nodup;decide +kernel) rfl (Or.inl rfl))) (fun _ _ _ _ _ _=>qbm) (fun _ _ _ _ _ _=>(qbv (N':=["k", "stream"]) (cap:=[none,some 2]) (qci rfl rfl rfl) rfl (qda rfl m_range (@qaa _ _ _ _ _ (pv 1) qac (by rfl))) (fun _ _ _ _ _ _=>(qa2 (i:=0) (by show (["k", "stream"]:List Str).Nodup;decide +kernel) rfl (Or.inl rfl))) (fun _ _ _ _ _ _=>qbm) (fun _ _ _ _ _ _=>(qa3 c_rinse hr (by decide) rfl (@qaa _ _ _ _ _ (pv 1) qac (by rfl))))))))),
  (by repeat' first | infer_instance | (refine @Mi.instSemWSTSeqWSeq _ _ _ _ ?_ ?_) | (apply @Mi.instSemWSTForWForOfSemWIOfSemWG))⟩) qwp
end Lw
namespace Lw
open PySem L2 Mi
def qaw (ss:List Str):List PV:=ss.map fun s=> .at (.str s)
theorem qbc (ss:List Str):(qaw ss).length=ss.length:=List.length_map _
def Low (x:Str):Prop:=∀ c ∈ x.cps.toList,97<=c/\c<=122
structure qmk (x:Str):Prop where
 low:Low x
 one:1<=x.length
 eight:x.length<=8
def qga:List PV->Prop:=fun xs=>∃ ss:List Str,xs=[.lst (qaw ss)]/\ss.length<=10/\∀ s ∈ ss,qmk s
def qk0:List PV->PV->Prop:=fun xs y=>∃ (ss:List Str) (x:Str),xs=[.lst (qaw ss)]/\y = .at (.str x)/\qmk x/\x ∉ ss
abbrev qlv:Stmt:=top 52
abbrev b_name (K:PySem.W.Frag):WS:=(wSeq (qis 2 (wP (dC (.str ""))))
  (wSeq (qrg (wAnd (wPT (dT (qay pNe (qap 1) (qff qav)))) (wT (qit pEq (wTk 0 (wP (dC (.int 3)))) (wP (dC (.int 0)))))) (qis 2 (wP (dSlS (qay pIx (qap 1) (dUn pNeg (dC (.int 1)))) pNo (pSo (dC (.int 7)))))) qir)
  (wSeq (wFor (wRng1 (qit qd5 (wP (dC (.int 1))) (wTk 0 (wP (dC (.int 8)))))) (qa4 3) (qrg (wPT (dT (qay pLt (qaq qn7 (qad (qap 2) qav)) (dC (.int 8))))) (qis 2 (qit qd5 (wP (qat 2)) (qit pIx (wP (dC (.str "abcdefghijklmnopqrstuvwxyz"))) (wTk 0 (wP (dC (.int 26))))))) qir))
  (wSeq (qrg (wPT (dT (qay (pIn false) (qap 2) (qap 1)))) (qis 2 (wP (qay pIx (qba [none,some 1] [0] (dItS (dC (.str "abcdefghijk"))) (qa4 0) (dT (qay (pIn true) (qap 0) (qap 1))) (qat 0)) (dC (.int 0))))) qir)
  (qpx (wP (qat 2)))))))
theorem sc_name:qar ["stream", "names", "word", "k"] ["stream", "names"] (qab qlv):=⟨rfl,rfl,rfl,by decide +kernel,rfl,by decide +kernel,by decide +kernel⟩
theorem qwq:∀ xs,qga xs->xs.length + 1=(["stream", "names"]:List Str).length:=by
 rintro xs ⟨ss,rfl,_⟩;rfl
theorem qsn:∀ ss:List Str,ats (qaw ss)=some (ss.map V.str)
 | []=>rfl
 | s::ss=>by
  show (ats (qaw ss)).map (V.str s::·)=_
  rw [qsn ss];rfl
theorem qr5 (x:Str):∀ ss:List Str,inV (.str x) (ss.map V.str)=decide (x ∈ ss)
 | []=>by simp [inV]
 | s::ss=>by
  have ih:=qr5 x ss
  unfold inV at ih ⊢
  rw [List.map_cons,List.any_cons,ih]
  have e:eqV (.str s) (.str x)=decide (s=x):=rfl
  rw [e]
  by_cases h:s=x
  ·subst h;simp
  ·simp [h,Ne.symm h]
theorem qwv (ss:List Str):(ss.map V.str).all qbn=true:=by
 rw [List.all_eq_true]
 intro v hv
 obtain ⟨s,_,rfl⟩:=List.mem_map.mp hv
 rfl
theorem qno (neg:Bool) (x:Str) (ss:List Str):pIn neg (.at (.str x)) (.lst (qaw ss))=some (.at (.bl (if neg then !decide (x ∈ ss) else decide (x ∈ ss)))):=by
 show (ats (qaw ss)).bind _=_
 rw [qsn,Option.bind_some,if_pos ⟨rfl,qwv ss⟩,qr5]
theorem sl_low {x:Str} (h:Low x) (l u:Option Int):Low (Txt.slice x l u):=fun c hc=>by
 unfold Txt.slice at hc
 split at hc
 ·exact h c hc
 ·dsimp only at hc
  obtain ⟨i,_,e⟩:=List.mem_filterMap.mp hc
  refine h c ?_
  rw [Array.mem_toList_iff]
  exact Array.mem_of_getElem? e
theorem sl_len {z:Str} {k:Nat} (h:z.length<=k) (l u:Option Int):(Txt.slice z l u).length<=k:=Nat.le_trans (Txt.slice_le z l u) h
def eleven:List Str:=[⟨#[97]⟩,⟨#[98]⟩,⟨#[99]⟩,⟨#[100]⟩,⟨#[101]⟩,⟨#[102]⟩,⟨#[103]⟩,⟨#[104]⟩,⟨#[105]⟩,⟨#[106]⟩,⟨#[107]⟩]
theorem qt6 {x y:Str} (hx:Low x) (hy:Low y):Low (x++y):=fun c hc=>by
 have e:(x++y).cps.toList=x.cps.toList++y.cps.toList:=by show (x.cps++y.cps).toList=_;simp
 rw [e] at hc
 rcases List.mem_append.mp hc with h | h
 ·exact hx c h
 ·exact hy c h
theorem qt7 (x y:Str):(x++y).length=x.length + y.length:=by show (x.cps++y.cps).size=_;simp [Str.length]
theorem alpha_at {k:Int} (h0:0<=k) (h1:k < 26):∃ c:Nat,pIx (.at (.str "abcdefghijklmnopqrstuvwxyz")) (.at (.int k))=some (.at (.str ⟨#[c]⟩))/\97<=c/\c<=122:=by
 have q:∀ j:_root_.Fin 26,L2.atI (("abcdefghijklmnopqrstuvwxyz":Str).cps.toList) ((j:Nat):Int)=some (97 + (j:Nat)):=by decide +kernel
 have e:=q ⟨k.toNat,by omega⟩
 have e2:((k.toNat:Nat):Int)=k:=by omega
 have e':L2.atI (("abcdefghijklmnopqrstuvwxyz":Str).cps.toList) ((k.toNat:Nat):Int)=some (97 + k.toNat):=e
 rw [e2] at e'
 refine ⟨97 + k.toNat,?_,by omega,by omega⟩
 show (if ("abcdefghijklmnopqrstuvwxyz":Str).length<=lim then (L2.atI (("abcdefghijklmnopqrstuvwxyz":Str).cps.toList) k).map _ else none)=_
 rw [if_pos (by decide +kernel),e']
 rfl
theorem qt1 (ss ls:List Str):qea (qa4 0) (dT (qay (pIn true) (qap 0) (qap 1))) (qat 0) [.no,.sh (.lst (qaw ss))] (qaw ls)=some (qaw (ls.filter fun x=>!decide (x ∈ ss))) :=
 qg5 (fun s:Str=>PV.at (.str s)) (fun s:Str=>PV.at (.str s)) (fun x=>!decide (x ∈ ss)) ls fun x _=>⟨_,rfl,qe2 (qaj rfl rfl (qno true x ss)),fun _=>rfl⟩
theorem ev_slS {a:M} {ε:ME} {z:Str} {j:Int} (h:a ε=some (.at (.str z))) (hz:z.length<=lim):dSlS a pNo (pSo (dC (.int j))) ε=some (.at (.str (Txt.slice z none (some j)))):=by
 unfold dSlS
 rw [h]
 show (if z.length<=lim then some (PV.at (.str (Txt.slice z none (some j)))) else none)=_
 rw [if_pos hz]
theorem hw_name {K:PySem.W.Frag}:∀ xs n,qga xs->b_name K (qe1 n::xs.map .sh++List.replicate ((["stream", "names", "word", "k"]:List Str).length - (xs.length + 1)) .no) (fun _=>False) fun y ε=>qk0 xs y/\qug 0 ε:=by
 rintro xs n ⟨ss,rfl,h10,hok⟩
 have hl:lim=1000000:=rfl
 have hlI:(lim:Int)=1000000:=rfl
 refine ⟨_,rfl,?_⟩
 have fin:∀ (m:Int) (x:Str) (s3:MSlot),Low x->1<=x.length->x.length<=8->(wSeq (qrg (wPT (dT (qay (pIn false) (qap 2) (qap 1)))) (qis 2 (wP (qay pIx (qba [none,some 1] [0] (dItS (dC (.str "abcdefghijk"))) (qa4 0) (dT (qay (pIn true) (qap 0) (qap 1))) (qat 0)) (dC (.int 0))))) qir) (qpx (wP (qat 2)))) [qe1 m,.sh (.lst (qaw ss)),.sh (.at (.str x)),s3] (fun _=>False) fun y ε=>qk0 [.lst (qaw ss)] y/\qug 0 ε:=by
  intro m x s3 lx l1 l8
  by_cases hin:x ∈ ss
  ·refine qi0 (qe2 (v:=true) (qaj rfl rfl ((qno false x ss).trans (by simp [hin])))) ?_
   have hs:qoh "abcdefghijk"=qaw eleven:=by
    unfold qoh
    rw [show ("abcdefghijk":Str).cps.toList=[97,98,99,100,101,102,103,104,105,106,107] by decide +kernel]
    rfl
   have hne:eleven.filter (fun x=>!decide (x ∈ ss)) ≠ []:=fun z=>by
    have:eleven.length<=ss.length:=qhh (by decide +kernel) fun y hy=>by
     by_cases hys:y ∈ ss
     ·exact hys
     ·have:y ∈ eleven.filter (fun x=>!decide (x ∈ ss)):=List.mem_filter.mpr ⟨hy,by simp [hys]⟩
      rw [z] at this;exact nomatch this
    have e11:eleven.length=11:=rfl
    omega
   obtain ⟨y,rest,hy⟩:=List.exists_cons_of_ne_nil hne
   have hym:y ∈ eleven.filter (fun x=>!decide (x ∈ ss)):=by rw [hy];exact List.mem_cons_self
   obtain ⟨h1,h2⟩:=List.mem_filter.mp hym
   have hyn:y ∉ ss:=by simpa using h2
   have hyo:qmk y:=by
    have q:∀ z ∈ eleven,(z.length=1/\∀ c ∈ z.cps.toList,97<=c/\c<=122):=by decide +kernel
    exact ⟨(q y h1).2,by rw [(q y h1).1];exact Nat.le_refl _,by rw [(q y h1).1];decide⟩
   refine ⟨.at (.str y),?_,_,rfl,⟨ss,y,rfl,rfl,hyo,hyn⟩,_,rfl⟩
   refine qaj (qqw (xs:=qaw eleven) (ys:=qaw (y::rest)) ?_ rfl (by decide) ?_) rfl (qdx (j:=0) rfl)
   ·show some (qoh "abcdefghijk")=_;rw [hs]
   ·rw [<- hy];exact qt1 ss eleven
  ·refine qfj (qe2 (v:=false) (qaj rfl rfl ((qno false x ss).trans (by simp [hin])))) ?_
   exact ⟨_,rfl,⟨ss,x,rfl,rfl,⟨lx,l1,l8⟩,hin⟩,_,rfl⟩
 have loop:∀ (m:Int) (x:Str),Low x->x.length<=8->(wSeq (wFor (wRng1 (qit qd5 (wP (dC (.int 1))) (wTk 0 (wP (dC (.int 8)))))) (qa4 3) (qrg (wPT (dT (qay pLt (qaq qn7 (qad (qap 2) qav)) (dC (.int 8))))) (qis 2 (qit qd5 (wP (qat 2)) (qit pIx (wP (dC (.str "abcdefghijklmnopqrstuvwxyz"))) (wTk 0 (wP (dC (.int 26))))))) qir))
   (wSeq (qrg (wPT (dT (qay (pIn false) (qap 2) (qap 1)))) (qis 2 (wP (qay pIx (qba [none,some 1] [0] (dItS (dC (.str "abcdefghijk"))) (qa4 0) (dT (qay (pIn true) (qap 0) (qap 1))) (qat 0)) (dC (.int 0))))) qir) (qpx (wP (qat 2))))) [qe1 m,.sh (.lst (qaw ss)),.sh (.at (.str x)),.no] (fun _=>False) fun y ε=>qk0 [.lst (qaw ss)] y/\qug 0 ε:=by
  intro m x lx l8
  have c0:0<=m % 8:=Int.emod_nonneg _ (by decide)
  have c1:m % 8 < 8:=Int.emod_lt_of_pos _ (by decide)
  refine ⟨_,rfl,⟨⟨m,rfl⟩,_,rfl,m,8,rfl,rfl,⟨by decide,by decide⟩,_,rfl,1 + m % 8,rfl,by omega,by omega,?_⟩⟩
  refine qi8 (fun rest ε=>∃ (m:Int) (y:Str) (s3:MSlot),ε=[qe1 m,.sh (.lst (qaw ss)),.sh (.at (.str y)),s3]/\Low y/\y.length<=8/\(rest.length < (1 + m % 8 * 0 + 1)->True)/\(1<=y.length ∨ 1<=rest.length)) ?_ ?_ _ _ ⟨_,x,_,rfl,lx,l8,fun _=>trivial,.inr (by rw [qcf];omega)⟩
  ·rintro ε ⟨m2,y,s3,rfl,ly,y8,_,h1⟩
   exact fin m2 y s3 ly (h1.resolve_right (by simp)) y8
  ·rintro z rest ε ⟨m2,y,s3,rfl,ly,y8,_,h1⟩
   refine ⟨_,rfl,?_⟩
   have ln:qay pLt (qaq qn7 (qad (qap 2) qav)) (dC (.int 8)) [qe1 m2,.sh (.lst (qaw ss)),.sh (.at (.str y)),.sh z]=some (.at (.bl (decide ((y.length:Int) < 8)))):=by
    refine qaj (qah rfl (show (if y.length<=lim then some (PV.at (.int y.length)) else none)=_ from if_pos (by omega))) rfl rfl
   by_cases h8:y.length < 8
   ·refine qi0 (qe2 (v:=true) (ln.trans (by rw [decide_eq_true (by omega)]))) ?_
    have d0:0<=m2 % 26:=Int.emod_nonneg _ (by decide)
    have d1:m2 % 26 < 26:=Int.emod_lt_of_pos _ (by decide)
    obtain ⟨c,hc,c97,c122⟩:=alpha_at d0 d1
    have ly2:Low (y++⟨#[c]⟩):=qt6 ly fun d hd=>by
     have:d=c:=by simpa using hd
     rw [this];exact ⟨c97,c122⟩
    have len2:(y++(⟨#[c]⟩:Str)).length=y.length + 1:=qt7 _ _
    refine ⟨_,rfl,_,rfl,⟨m2,rfl⟩,_,rfl,m2,26,rfl,rfl,⟨by decide,by decide⟩,_,hc,_,(show (if y.length + (⟨#[c]⟩:Str).length<=lim then _ else none)=_ from if_pos (by show y.length + 1<=_;omega)),?_⟩
    exact ⟨_,_,_,rfl,ly2,by omega,fun _=>trivial,.inl (by omega)⟩
   ·refine qfj (qe2 (v:=false) (ln.trans (by rw [decide_eq_false (by omega)]))) ?_
    exact ⟨_,_,_,rfl,ly,y8,fun _=>trivial,.inl (by omega)⟩
 by_cases hne:ss=[]
 ·subst hne
  have e:wAnd (wPT (dT (qay pNe (qap 1) (qff qav)))) (wT (qit pEq (wTk 0 (wP (dC (.int 3)))) (wP (dC (.int 0))))) [qe1 n,.sh (.lst (qaw [])),.sh (.at (.str "")),.no]=wAnd (wPT (dT (qay pNe (qap 1) (qff qav)))) (wT (qit pEq (wTk 0 (wP (dC (.int 3)))) (wP (dC (.int 0))))) [qe1 n,.sh (.lst []),.sh (.at (.str "")),.no]:=rfl
  refine ⟨false,rfl,?_⟩
  exact loop n "" (fun c hc=>nomatch hc) (by decide)
 ·obtain ⟨s0,r0,rfl⟩:=List.exists_cons_of_ne_nil hne
  refine ⟨true,rfl,?_⟩
  have z3:0<=n % 3:=Int.emod_nonneg _ (by decide)
  refine ⟨⟨n,rfl⟩,_,rfl,n,3,rfl,rfl,⟨by decide,by decide⟩,_,rfl,?_⟩
  by_cases h3:n % 3=0
  ·refine ⟨_,(show pEq (.at (.int (n % 3))) (.at (.int 0))=some (.at (.bl true)) from ?_),true,rfl,?_⟩
   ·rw [h3];rfl
   ·have hg:(s0::r0).getLast (List.cons_ne_nil _ _) ∈ s0::r0:=List.getLast_mem _
    have hk:=hok _ hg
    have ix:pIx (.lst (qaw (s0::r0))) (.at (.int (-1)))=some (.at (.str ((s0::r0).getLast (List.cons_ne_nil _ _)))):=by
     show atI (qaw (s0::r0)) (-1)=_
     unfold atI ixN
     rw [if_neg (by decide),if_pos (by rw [qbc,List.length_cons];omega),Option.bind_some,qbc,show ((-1:Int) + ((s0::r0).length:Nat)).toNat=(s0::r0).length - 1 by rw [List.length_cons];omega]
     unfold qaw
     rw [List.getElem?_map,List.getElem?_eq_getElem (by simp),List.getLast_eq_getElem]
     rfl
    have e8:=hk.eight
    exact ⟨_,ev_slS (qaj rfl rfl ix) (by omega),loop _ _ (sl_low hk.low _ _) (sl_len hk.eight _ _)⟩
  ·refine ⟨_,(show pEq (.at (.int (n % 3))) (.at (.int 0))=some (.at (.bl false)) from ?_),false,rfl,?_⟩
   ·show some (PV.at (.bl (eqV (.int (n % 3)) (.int 0))))=_
    rw [show eqV (.int (n % 3)) (.int 0)=decide (n % 3=0) from rfl,decide_eq_false h3]
   ·exact loop _ "" (fun c hc=>nomatch hc) (by decide)
theorem ok_name {P:Program} {w:World} {K:PySem.W.Frag} {mg:Str->Option Value} {base:Heap} {f:Addr} {fd:FuncData} (F:Fun K "_law_name" "_law_name" qlv f fd) (c_take:Fn P w K mg base 1 "_law_take" ["stream", "many"] qha) (m_len:mg "len"=none) (m_range:mg "range"=none):FnOk P w K mg base CX0 2 f fd ["stream", "names"] (spD qga qk0) :=
 okD (k:=1) (b:=b_name K) F sc_name qwq (fun cdv A outer s H E hr=>⟨_,(@qae _ _ _ _ _ (@qaz _ _ 2 _ _ _ _ sc_name.nd rfl (Or.inl rfl) qjz (by rfl) (.inl rfl))
  (@qae _ _ _ _ _ (qc7 (PW.pt (qvj (qbe (qfe (K:=K) (hu6 hr) rfl) (pv 1) (@qbx _ _ _ _ qac) (qbl _)) (qqb (qbe (qik (K:=K) (hu6 hr) rfl) (qa3 c_take hr (by decide) rfl (@qaa _ _ _ _ _ (pv 0) (@qaa _ _ _ _ _ qaf qac (by rfl)) (by rfl))) qaf (qbl _))))) (@qag _ _ _ (@qaz _ _ 2 _ _ _ _ sc_name.nd rfl (Or.inl rfl) (qvs (qbb (qao (K:=K) rfl) (pv 1) (qnc qg8 qaf) (fun _ _=>rfl)) qm9 (qjx qaf)) (by rfl) (.inl rfl))) qbf)
  (@qae _ _ _ _ _ (qeq PassesOwn.never rfl (qda rfl m_range (@qaa _ _ _ _ _ (qa8 (qbj (K:=K) rfl) qaf (qa3 c_take hr (by decide) rfl (@qaa _ _ _ _ _ (pv 0) (@qaa _ _ _ _ _ qaf qac (by rfl)) (by rfl)))) qac (by rfl))) (qa2 (i:=3) sc_name.nd rfl (Or.inl rfl))
   (@qag _ _ _ (qc7 (qbe (op_lt) (qa1 (qb3 (K:=K) rfl) rfl m_len PySem.boot_len (@qaa _ _ _ _ _ (pv 2) qac (by rfl))) qaf (qbl _)) (@qag _ _ _ (@qaz _ _ 2 _ _ _ _ sc_name.nd rfl (Or.inl rfl) (qa8 (qbj (K:=K) rfl) (pv 2) (qbb (qao (K:=K) rfl) qjz (qa3 c_take hr (by decide) rfl (@qaa _ _ _ _ _ (pv 0) (@qaa _ _ _ _ _ qaf qac (by rfl)) (by rfl))) (fun _ _=>rfl))) (by rfl) (.inl rfl))) qbf)))
  (@qae _ _ _ _ _ (qc7 (qbe (ql5 (K:=K) rfl) (pv 2) (pv 1) (by with_unfolding_all rfl)) (@qag _ _ _ (@qaz _ _ 2 _ _ _ _ sc_name.nd rfl (Or.inl rfl) (qbb (qao (K:=K) rfl) (qbv (N':=["sign", "names"]) (cap:=[none,some 1]) (qci rfl rfl rfl) rfl (pi_str qjz) (fun _ _ _ _ _ _=>(qa2 (i:=0) (by show (["sign", "names"]:List Str).Nodup;decide +kernel) rfl (Or.inl rfl))) (fun _ _ _ _ _ _=>(qvl (qbe (qnh (K:=K) rfl) (pv 0) (pv 1) (by with_unfolding_all rfl)))) (fun _ _ _ _ _ _=>(pv 0))) qaf (fun _ _=>rfl)) (by rfl) (.inl rfl))) qbf)
  (@qag _ _ _ (qa5 (pv 2))))))),
  (by repeat' first | infer_instance | (refine @Mi.instSemWSTSeqWSeq _ _ _ _ ?_ ?_) | (apply @Mi.instSemWSTForWForOfSemWIOfSemWG))⟩) hw_name
end Lw
namespace Lw
open PySem L2 Mi
structure Cl where
 name:Str
 hue:Nat
 len:Int
 due:Int
 wt:Int
def Cl.pv (c:Cl):PV:= .tup [.at (.str c.name),.at (.int c.hue),.at (.int c.len),.at (.int c.due),.at (.int c.wt)]
structure Cl.Ok (h:Nat) (c:Cl):Prop where
 nm:qmk c.name
 hu:c.hue < h
 l1:1<=c.len
 l2:c.len<=BIG
 d1:-BIG<=c.due
 d2:c.due<=BIG
 w1:1<=c.wt
 w2:c.wt<=BIG
theorem qv9 {α β:Type} {f:α->β} (hf:∀ x y,f x=f y->x=y):∀ {a b:List α},a.map f=b.map f->a=b
 | [],[],_=>rfl
 | [],_::_,h=>by cases h
 | _::_,[],h=>by cases h
 | x::a,y::b,h=>by
  rw [List.map_cons,List.map_cons] at h
  injection h with h1 h2
  rw [hf x y h1,qv9 hf h2]
theorem qg9 {a b:List Str} (h:qaw a=qaw b):a=b:=qv9 (fun x y e=>by injection e with e;injection e) h
def qd4:List PV->Prop:=fun xs=>∃ (ss:List Str) (h:Nat),xs=[.lst (qaw ss),.at (.int h)]/\ss.length<=10/\(∀ s ∈ ss,qmk s)/\1<=h/\h<=4
def qif:List PV->PV->Prop:=fun xs y=>∃ (ss:List Str) (h:Nat) (c:Cl),xs=[.lst (qaw ss),.at (.int h)]/\y=c.pv/\c.Ok h/\c.name ∉ ss
abbrev qh4:Stmt:=top 53
abbrev qxy (K:PySem.W.Frag):WS:=(wSeq (qis 3 (quh 0 qga qk0 (qfh (wP (qat 1)) wNil)))
  (wSeq (qis 4 (wTk 0 (wP (qat 2))))
  (wSeq (qrg (wT (qit pGt (wTk 0 (wP (dC (.int 5)))) (wP (dC (.int 0))))) (qpx (wTup (qfh (wP (qat 3)) (qfh (wP (qat 4)) (qfh (qit qd5 (wP (dC (.int 1))) (wTk 0 (wP (dC (.int 9))))) (qfh (qit qqg (wTk 0 (wP (dC (.int 60)))) (wP (dC (.int 9)))) (qfh (qit qd5 (wP (dC (.int 1))) (wTk 0 (wP (dC (.int 9))))) wNil))))))) qir)
  (qpx (wTup (qfh (wP (qat 3)) (qfh (wP (qat 4)) (qfh (qit qd5 (wP (dC (.int 1))) (wTk 0 (wP (qay qqg (qay pPow (dC (.int 10)) (dC (.int 30))) (dC (.int 1)))))) (qfh (qit qd5 (qit qqg (wTk 0 (wP (qay qqg (qay pMul (dC (.int 2)) (qay pPow (dC (.int 10)) (dC (.int 30)))) (dC (.int 1))))) (wP (qay pPow (dC (.int 10)) (dC (.int 30))))) (wP (dC (.int 1)))) (qfh (qit qd5 (wP (dC (.int 1))) (wTk 0 (wP (qay qqg (qay pPow (dC (.int 10)) (dC (.int 30))) (dC (.int 1)))))) wNil))))))))))
theorem sc_cloth:qar ["stream", "names", "hues", "name", "hue"] ["stream", "names", "hues"] (qab qh4):=⟨rfl,rfl,rfl,by decide +kernel,rfl,by decide +kernel,by decide +kernel⟩
theorem qts:∀ xs,qd4 xs->xs.length + 1=(["stream", "names", "hues"]:List Str).length:=by
 rintro xs ⟨ss,h,rfl,_⟩;rfl
theorem bits_two:Builtin.Int.intBits 2<=2 ^ 20:=by decide +kernel
theorem bits_BIG:Builtin.Int.intBits BIG<=2 ^ 20:=by decide +kernel
theorem mul2:pMul (.at (.int 2)) (.at (.int BIG))=some (.at (.int (2 * BIG))):=by
 show (if qx1 2 BIG then some (V.int (2 * BIG)) else none).map PV.at=_
 rw [if_pos ⟨bits_two,bits_BIG⟩];rfl
theorem hw_cloth {K:PySem.W.Frag}:∀ xs n,qd4 xs->qxy K (qe1 n::xs.map .sh++List.replicate ((["stream", "names", "hues", "name", "hue"]:List Str).length - (xs.length + 1)) .no) (fun _=>False) fun y ε=>qif xs y/\qug 0 ε:=by
 rintro xs n ⟨ss,h,rfl,h10,hok,h1,h4⟩
 have hB:=qk2
 refine ⟨⟨n,rfl⟩,_,rfl,⟨n,rfl⟩,⟨ss,rfl,h10,hok⟩,?_⟩
 rintro y n1 ⟨ss',x,e,rfl,hx,hn⟩
 have e':ss'=ss:=by injection e with e _;injection e with e;exact (qg9 e).symm
 subst e'
 refine ⟨⟨n1,rfl⟩,_,rfl,n1,(h:Int),rfl,rfl,cdiv (by omega) (by omega),?_⟩
 have u0:0<=n1 % (h:Int):=Int.emod_nonneg _ (by omega)
 have u1:n1 % (h:Int) < h:=Int.emod_lt_of_pos _ (by omega)
 obtain ⟨u,hu⟩:=Int.eq_ofNat_of_zero_le u0
 rw [hu] at u1 ⊢
 generalize n1 / (h:Int)=n2
 refine ⟨⟨n2,rfl⟩,_,rfl,n2,5,rfl,rfl,⟨by decide,by decide⟩,_,rfl,_,rfl,decide (0 < n2 % 5),rfl,?_⟩
 generalize n2 / 5=n3
 by_cases h5:0 < n2 % 5
 ·rw [decide_eq_true h5,if_pos rfl]
  refine ⟨_,rfl,_,rfl,_,rfl,⟨n3,rfl⟩,_,rfl,n3,9,rfl,rfl,⟨by decide,by decide⟩,_,rfl,⟨_,rfl⟩,_,rfl,n3 / 9,60,rfl,rfl,⟨by decide,by decide⟩,_,rfl,_,rfl,_,rfl,⟨_,rfl⟩,_,rfl,n3 / 9 / 60,9,rfl,rfl,⟨by decide,by decide⟩,_,rfl,(by show 5<=lim;decide),?_,_,rfl⟩
  have a0:0<=n3 % 9:=Int.emod_nonneg _ (by decide)
  have a1:n3 % 9 < 9:=Int.emod_lt_of_pos _ (by decide)
  have b0:0<=n3 / 9 % 60:=Int.emod_nonneg _ (by decide)
  have b1:n3 / 9 % 60 < 60:=Int.emod_lt_of_pos _ (by decide)
  have c0:0<=n3 / 9 / 60 % 9:=Int.emod_nonneg _ (by decide)
  have c1:n3 / 9 / 60 % 9 < 9:=Int.emod_lt_of_pos _ (by decide)
  exact ⟨ss',h,⟨x,u,1 + n3 % 9,n3 / 9 % 60 - 9,1 + n3 / 9 / 60 % 9⟩,rfl,rfl,⟨hx,(show u < h by omega),(show (1:Int)<=1 + n3 % 9 by omega),(show 1 + n3 % 9<=BIG by omega),(show -BIG<=n3 / 9 % 60 - 9 by omega),(show n3 / 9 % 60 - 9<=BIG by omega),(show (1:Int)<=1 + n3 / 9 / 60 % 9 by omega),(show 1 + n3 / 9 / 60 % 9<=BIG by omega)⟩,hn⟩
 ·rw [decide_eq_false h5,if_neg Bool.false_ne_true]
  refine ⟨_,rfl,_,rfl,_,rfl,⟨n3,rfl⟩,_,qaj (qaj rfl rfl qs7) rfl rfl,n3,BIG - 1,rfl,rfl,cdiv (by omega) (by omega),_,rfl,⟨_,rfl⟩,_,qaj (qaj rfl (qaj rfl rfl qs7) mul2) rfl rfl,n3 / (BIG - 1),2 * BIG - 1,rfl,rfl,cdiv (by omega) (by omega),_,qaj rfl rfl qs7,_,rfl,_,rfl,_,rfl,_,rfl,⟨_,rfl⟩,_,qaj (qaj rfl rfl qs7) rfl rfl,n3 / (BIG - 1) / (2 * BIG - 1),BIG - 1,rfl,rfl,cdiv (by omega) (by omega),_,rfl,(by show 5<=lim;decide),?_,_,rfl⟩
  have a0:0<=n3 % (BIG - 1):=Int.emod_nonneg _ (by omega)
  have a1:n3 % (BIG - 1) < BIG - 1:=Int.emod_lt_of_pos _ (by omega)
  have b0:0<=n3 / (BIG - 1) % (2 * BIG - 1):=Int.emod_nonneg _ (by omega)
  have b1:n3 / (BIG - 1) % (2 * BIG - 1) < 2 * BIG - 1:=Int.emod_lt_of_pos _ (by omega)
  have c0:0<=n3 / (BIG - 1) / (2 * BIG - 1) % (BIG - 1):=Int.emod_nonneg _ (by omega)
  have c1:n3 / (BIG - 1) / (2 * BIG - 1) % (BIG - 1) < BIG - 1:=Int.emod_lt_of_pos _ (by omega)
  generalize n3 % (BIG - 1)=p1 at a0 a1 ⊢
  generalize n3 / (BIG - 1) % (2 * BIG - 1)=p2 at b0 b1 ⊢
  generalize n3 / (BIG - 1) / (2 * BIG - 1) % (BIG - 1)=p3 at c0 c1 ⊢
  exact ⟨ss',h,⟨x,u,1 + p1,p2 - BIG + 1,1 + p3⟩,rfl,rfl,⟨hx,(show u < h by omega),(show (1:Int)<=1 + p1 by omega),(show 1 + p1<=BIG by omega),(show -BIG<=p2 - BIG + 1 by omega),(show p2 - BIG + 1<=BIG by omega),(show (1:Int)<=1 + p3 by omega),(show 1 + p3<=BIG by omega)⟩,hn⟩
theorem ok_cloth {P:Program} {w:World} {K:PySem.W.Frag} {mg:Str->Option Value} {base:Heap} {f:Addr} {fd:FuncData} (F:Fun K "_law_cloth" "_law_cloth" qh4 f fd) (c_name:Fn P w K mg base 2 "_law_name" ["stream", "names"] (spD qga qk0)) (c_take:Fn P w K mg base 1 "_law_take" ["stream", "many"] qha):FnOk P w K mg base CX0 3 f fd ["stream", "names", "hues"] (spD qd4 qif) :=
 okD (k:=2) (b:=qxy K) F sc_cloth qts (fun cdv A outer s H E hr=>⟨_,(@qae _ _ _ _ _ (@qaz _ _ 3 _ _ _ _ sc_cloth.nd rfl (Or.inl rfl) (qa3 c_name hr (by decide) rfl (@qaa _ _ _ _ _ (pv 0) (@qaa _ _ _ _ _ (pv 1) qac (by rfl)) (by rfl))) (by rfl) (.inl rfl))
  (@qae _ _ _ _ _ (@qaz _ _ 4 _ _ _ _ sc_cloth.nd rfl (Or.inl rfl) (qa3 c_take hr (by decide) rfl (@qaa _ _ _ _ _ (pv 0) (@qaa _ _ _ _ _ (pv 2) qac (by rfl)) (by rfl))) (by rfl) (.inl rfl))
  (@qae _ _ _ _ _ (qc7 (qbe (op_gt) (qa3 c_take hr (by decide) rfl (@qaa _ _ _ _ _ (pv 0) (@qaa _ _ _ _ _ qaf qac (by rfl)) (by rfl))) qaf (qbl _)) (@qag _ _ _ (qa5 (@qgj _ _ _ _ _ (@qaa _ _ _ _ _ (pv 3) (@qaa _ _ _ _ _ (pv 4) (@qaa _ _ _ _ _ (qa8 (qbj (K:=K) rfl) qaf (qa3 c_take hr (by decide) rfl (@qaa _ _ _ _ _ (pv 0) (@qaa _ _ _ _ _ qaf qac (by rfl)) (by rfl)))) (@qaa _ _ _ _ _ (qa8 (qfq) (qa3 c_take hr (by decide) rfl (@qaa _ _ _ _ _ (pv 0) (@qaa _ _ _ _ _ qaf qac (by rfl)) (by rfl))) qaf) (@qaa _ _ _ _ _ (qa8 (qbj (K:=K) rfl) qaf (qa3 c_take hr (by decide) rfl (@qaa _ _ _ _ _ (pv 0) (@qaa _ _ _ _ _ qaf qac (by rfl)) (by rfl)))) qac (by rfl)) (by rfl)) (by rfl)) (by rfl)) (by rfl))))) qbf)
  (@qag _ _ _ (qa5 (@qgj _ _ _ _ _ (@qaa _ _ _ _ _ (pv 3) (@qaa _ _ _ _ _ (pv 4) (@qaa _ _ _ _ _ (qa8 (qbj (K:=K) rfl) qaf (qa3 c_take hr (by decide) rfl (@qaa _ _ _ _ _ (pv 0) (@qaa _ _ _ _ _ (qa8 (qfq) (qa8 (qev) qaf qaf) qaf) qac (by rfl)) (by rfl)))) (@qaa _ _ _ _ _ (qa8 (qbj (K:=K) rfl) (qa8 (qfq) (qa3 c_take hr (by decide) rfl (@qaa _ _ _ _ _ (pv 0) (@qaa _ _ _ _ _ (qa8 (qfq) (qa8 (qni) qaf (qa8 (qev) qaf qaf)) qaf) qac (by rfl)) (by rfl))) (qa8 (qev) qaf qaf)) qaf) (@qaa _ _ _ _ _ (qa8 (qbj (K:=K) rfl) qaf (qa3 c_take hr (by decide) rfl (@qaa _ _ _ _ _ (pv 0) (@qaa _ _ _ _ _ (qa8 (qfq) (qa8 (qev) qaf qaf) qaf) qac (by rfl)) (by rfl)))) qac (by rfl)) (by rfl)) (by rfl)) (by rfl)) (by rfl)))))))),
  (by repeat' first | infer_instance | (refine @Mi.instSemWSTSeqWSeq _ _ _ _ ?_ ?_) | (apply @Mi.instSemWSTForWForOfSemWIOfSemWG))⟩) hw_cloth
end Lw
namespace Lw
open PySem L2 Mi
structure Dr where
 h:Nat
 rss:List (List Int)
 cls:List Cl
 last:Int
 time:Int
def Dr.pv (d:Dr):PV:= .tup [qd1 d.rss,.lst (d.cls.map Cl.pv),.at (.int d.last),.at (.int d.time)]
structure Dr.Ok (d:Dr):Prop where
 h1:1<=d.h
 h4:d.h<=4
 rin:qiq d.h d.rss
 ten:d.cls.length<=10
 cl:∀ c ∈ d.cls,c.Ok d.h
 nd:(d.cls.map Cl.name).Nodup
 l1:-1<=d.last
 l2:d.last < d.h
 t1:0<=d.time
 t2:d.time < 60 * BIG
def qer (K:PySem.W.Frag):List PV->Prop:=fun xs=>∃ (ns:List Int) (m:Nat),xs=[scr K ns,.at (.int m)]/\ns.length<=63/\m<=10
def qid:List PV->PV->Prop:=fun _ y=>∃ d:Dr,y=d.pv/\d.Ok/\d.time < BIG
abbrev qhz:Stmt:=top 54
abbrev qxu (K:PySem.W.Frag):WS:=(wSeq (wSetN 2 (qca K) qce (qfh (wP (qat 0)) (qfh (wP (dC (.int 0))) wNil)))
  (wSeq (qis 3 (qit qd5 (wP (dC (.int 1))) (wTk 2 (wP (dC (.int 4))))))
  (wSeq (qis 4 (wTk 2 (wP (dC (.int 8)))))
  (wSeq (qrg (wPT (dT (qay pEq (qap 4) (dC (.int 7))))) (qis 4 (qit qd5 (wP (dC (.int 7))) (wTk 2 (wP (dC (.int 4)))))) qir)
  (wSeq (qis 5 (qit qqg (wTk 2 (wP (qay qd5 (qap 3) (dC (.int 1))))) (wP (dC (.int 1)))))
  (wSeq (qis 6 (wTk 2 (qit pIx (wP (qff (qad (dC (.int 1)) (qad (dC (.int 50)) (qad (qay pPow (dC (.int 10)) (dC (.int 30))) qav))))) (wTk 2 (wP (dC (.int 3)))))))
  (wSeq (qis 7 (qlo (qca K) qce (qad (qat 0) (qad (dC (.int 1)) qav)) qdp qgf (qad (qat 3) qav)))
  (wSeq (que 8 (qff qav))
  (wSeq (wFor (wIp (qd9 (qad (qaq qvw (qad (qap 4) (qad (qap 1) qav))) qav))) (qa4 9) (qjj 8 (qlo (qca K) qce (qad (qat 0) (qad (qay qd5 (dC (.int 2)) (qap 9)) qav)) qd4 qif (qad (qq3 [none] [0] (qfg (qap 8)) (qa4 0) qd7 (qay pIx (qap 0) (dC (.int 0)))) (qad (qat 3) qav)))))
  (wFz 8 (qpx (wP (qpb (qad (qat 7) (qad (qat 8) (qad (qat 5) (qad (qat 6) qav)))))))))))))))))
theorem sc_works:qar ["script", "most", "stream", "hues", "many", "last", "time", "rinses", "cloths", "k"] ["script", "most"] (qab qhz):=⟨rfl,rfl,rfl,by decide +kernel,rfl,by decide +kernel,by decide +kernel⟩
theorem qtp {K:PySem.W.Frag}:∀ xs,qer K xs->xs.length=(["script", "most"]:List Str).length:=by
 rintro xs ⟨ns,m,rfl,_⟩;rfl
theorem names_of (cs:List Cl):qea (qa4 0) qd7 (qay pIx (qap 0) (dC (.int 0))) [.no] (cs.map Cl.pv)=some (qaw (cs.map Cl.name)):=by
 induction cs with
 | nil=>rfl
 | cons c cs ih =>
  show Option.bind (some (PV.at (.str c.name))) (fun y=>Option.bind (qea _ _ _ _ (cs.map Cl.pv)) fun ys=>some (y::ys))=_
  rw [ih];rfl
theorem hw_works {K:PySem.W.Frag}:∀ xs,qer K xs->qxu K (xs.map .sh++List.replicate ((["script", "most", "stream", "hues", "many", "last", "time", "rinses", "cloths", "k"]:List Str).length - xs.length) .no) (fun _=>False) fun y _=>qid xs y:=by
 rintro xs ⟨ns,mo,rfl,h63,hmo⟩
 have hB:=qk2
 have hlim:lim=1000000:=rfl
 refine ⟨_,rfl,_,rfl,⟨ns,0,rfl,h63,by decide,by decide⟩,?_⟩
 rintro y ⟨n,rfl⟩
 -- hues
 refine ⟨_,rfl,⟨n,rfl⟩,_,rfl,n,4,rfl,rfl,⟨by decide,by decide⟩,_,rfl,?_⟩
 have a0:0<=n % 4:=Int.emod_nonneg _ (by decide)
 have a1:n % 4 < 4:=Int.emod_lt_of_pos _ (by decide)
 obtain ⟨h,hh⟩:=Int.eq_ofNat_of_zero_le (show 0<=1 + n % 4 by omega)
 generalize n / 4=n1
 have hh1:1<=h:=by omega
 have hh4:h<=4:=by omega
 rw [hh]
 clear a0 a1 hh
 -- many
 refine ⟨⟨n1,rfl⟩,_,rfl,n1,8,rfl,rfl,⟨by decide,by decide⟩,?_⟩
 have b0:0<=n1 % 8:=Int.emod_nonneg _ (by decide)
 have b1:n1 % 8 < 8:=Int.emod_lt_of_pos _ (by decide)
 obtain ⟨q,hq⟩:=Int.eq_ofNat_of_zero_le b0
 rw [hq] at b1 ⊢
 generalize n1 / 8=n2
 have rest:∀ (n2:Int) (q:Nat),q<=10->((wSeq (qis 5 (qit qqg (wTk 2 (wP (qay qd5 (qap 3) (dC (.int 1))))) (wP (dC (.int 1)))))
  (wSeq (qis 6 (wTk 2 (qit pIx (wP (qff (qad (dC (.int 1)) (qad (dC (.int 50)) (qad (qay pPow (dC (.int 10)) (dC (.int 30))) qav))))) (wTk 2 (wP (dC (.int 3)))))))
  (wSeq (qis 7 (qlo (qca K) qce (qad (qat 0) (qad (dC (.int 1)) qav)) qdp qgf (qad (qat 3) qav)))
  (wSeq (que 8 (qff qav))
  (wSeq (wFor (wIp (qd9 (qad (qaq qvw (qad (qap 4) (qad (qap 1) qav))) qav))) (qa4 9) (qjj 8 (qlo (qca K) qce (qad (qat 0) (qad (qay qd5 (dC (.int 2)) (qap 9)) qav)) qd4 qif (qad (qq3 [none] [0] (qfg (qap 8)) (qa4 0) qd7 (qay pIx (qap 0) (dC (.int 0)))) (qad (qat 3) qav)))))
  (wFz 8 (qpx (wP (qpb (qad (qat 7) (qad (qat 8) (qad (qat 5) (qad (qat 6) qav))))))))))))):WS) [.sh (scr K ns),.sh (.at (.int (mo:Int))),qe1 n2,.sh (.at (.int (h:Int))),.sh (.at (.int (q:Int))),.no,.no,.no,.no,.no] (fun _=>False) fun y _=>qid [scr K ns,.at (.int mo)] y:=by
  clear b0 b1 hq q n2
  intro n2 q hq10
  -- last
  refine ⟨⟨n2,rfl⟩,_,rfl,n2,(h:Int) + 1,rfl,rfl,cdiv (by omega) (by omega),_,rfl,_,rfl,?_⟩
  have c0:0<=n2 % ((h:Int) + 1):=Int.emod_nonneg _ (by omega)
  have c1:n2 % ((h:Int) + 1) < (h:Int) + 1:=Int.emod_lt_of_pos _ (by omega)
  generalize n2 % ((h:Int) + 1)=la at c0 c1
  generalize n2 / ((h:Int) + 1)=n3
  -- time
  refine ⟨⟨n3,rfl⟩,_,qdu (qau rfl (qau rfl (qau (qaj rfl rfl qs7) rfl))) (by decide),⟨n3,rfl⟩,_,rfl,n3,3,rfl,rfl,⟨by decide,by decide⟩,?_⟩
  have d0:0<=n3 % 3:=Int.emod_nonneg _ (by decide)
  have d1:n3 % 3 < 3:=Int.emod_lt_of_pos _ (by decide)
  have ixt:∃ k:Int,pIx (.lst [.at (.int 1),.at (.int 50),.at (.int BIG)]) (.at (.int (n3 % 3)))=some (.at (.int k))/\0 < k/\k<=BIG:=by
   have c:n3 % 3=0 ∨ n3 % 3=1 ∨ n3 % 3=2:=by omega
   rcases c with e | e | e <;> rw [e]
   ·exact ⟨1,rfl,by decide,by omega⟩
   ·exact ⟨50,rfl,by decide,by omega⟩
   ·exact ⟨BIG,rfl,qn4,Int.le_refl _⟩
  obtain ⟨k,ek,k0,k1⟩:=ixt
  refine ⟨_,ek,n3 / 3,k,rfl,rfl,cdiv k0 (by omega),?_⟩
  have t0:0<=n3 / 3 % k:=Int.emod_nonneg _ (by omega)
  have t1:n3 / 3 % k < k:=Int.emod_lt_of_pos _ k0
  generalize n3 / 3 % k=ti at t0 t1
  generalize n3 / 3 / k=n4
  -- rinses
  refine ⟨_,_,rfl,rfl,⟨ns,1,rfl,h63,by decide,by decide⟩,fun y hy=>hy,⟨h,rfl,hh1,hh4⟩,?_⟩
  rintro y ⟨h',rss,e,rfl,hr⟩
  have e':h'=h:=by injection e with e _;injection e with e;injection e with e;omega
  subst e'
  -- cloths
  refine ⟨_,rfl,?_⟩
  have mn:qd9 (qad (qaq qvw (qad (qap 4) (qad (qap 1) qav))) qav) [.sh (scr K ns),.sh (.at (.int (mo:Int))),qe1 n4,.sh (.at (.int (h':Int))),.sh (.at (.int (q:Int))),.sh (.at (.int (la - 1))),.sh (.at (.int ti)),.sh (qd1 rss),.ow (.lst []),.no]=some (qn5 0 (min q mo)):=by
   refine qjs (qau (qah rfl ?_) rfl) (by omega)
   show some (PV.at (.int (if (mo:Int) < (q:Int) then (mo:Int) else (q:Int))))=_
   rw [show (if (mo:Int) < (q:Int) then (mo:Int) else (q:Int))=((min q mo:Nat):Int) by split <;> omega]
  refine ⟨_,mn,?_⟩
  refine qi8 (fun rest ε=>∃ (cs:List Cl) (s9:MSlot),ε=[.sh (scr K ns),.sh (.at (.int (mo:Int))),qe1 n4,.sh (.at (.int (h':Int))),.sh (.at (.int (q:Int))),.sh (.at (.int (la - 1))),.sh (.at (.int ti)),.sh (qd1 rss),.ow (.lst (cs.map Cl.pv)),s9]/\(∃ m0:Nat,rest=(qn5 0 (min q mo)).drop m0/\cs.length=m0/\m0<=min q mo)/\(∀ c ∈ cs,c.Ok h')/\(cs.map Cl.name).Nodup) ?_ ?_ _ _ ⟨[],_,rfl,⟨0,rfl,rfl,Nat.zero_le _⟩,(fun _ z=>nomatch z),List.nodup_nil⟩
  ·rintro ε ⟨cs,s9,rfl,⟨m0,e1,e2,e3⟩,g1,g2⟩
   exact ⟨_,rfl,⟨h',rss,cs,la - 1,ti⟩,rfl,⟨hh1,hh4,hr,(by show cs.length<=10;omega),g1,g2,(by show -1<=la - 1;omega),(by show la - 1 < (h':Int);omega),t0,(by have:=qn4;show ti < 60 * BIG;omega)⟩,(by show ti < BIG;omega)⟩
  ·rintro x rest ε ⟨cs,s9,rfl,⟨m0,e1,e2,e3⟩,g1,g2⟩
   have hm:m0 < min q mo:=by
    have e5:(x::rest).length=((qn5 0 (min q mo)).drop m0).length:=by rw [<- e1]
    rw [List.length_drop,qcf,List.length_cons] at e5
    omega
   have ex:x = .at (.int ((0:Int) + m0)):=by
    have q0:(qn5 0 (min q mo))[m0]?=some x:=by
     have:((qn5 0 (min q mo)).drop m0)[0]?=some x:=by rw [<- e1];rfl
     rw [List.getElem?_drop] at this
     simpa using this
    exact (qrp q0).2
   have er:rest=(qn5 0 (min q mo)).drop (m0 + 1):=by
    have:((qn5 0 (min q mo)).drop m0).tail=rest:=by rw [<- e1];rfl
    rw [<- this,List.tail_drop]
   subst ex
   refine ⟨_,rfl,⟨_,rfl⟩,?_⟩
   refine ⟨[scr K ns,.at (.int (2 + (0 + (m0:Int))))],[.lst (qaw (cs.map Cl.name)),.at (.int (h':Int))],rfl,?_,⟨ns,2 + (0 + (m0:Int)),rfl,h63,by omega,by omega⟩,fun y hy=>hy,⟨cs.map Cl.name,h',rfl,by rw [List.length_map];omega,?_,hh1,hh4⟩,?_⟩
   ·refine qau (x:= .lst (qaw (cs.map Cl.name))) ?_ rfl
    show Option.bind (some (cs.map Cl.pv)) (fun xs=>if capB [none] [0]=true/\xs.length<=lim then (qea _ _ _ _ xs).bind fun ys=>some (PV.lst ys) else none)=_
    rw [Option.bind_some,if_pos ⟨rfl,by rw [List.length_map];omega⟩]
    show (qea (qa4 0) qd7 (qay pIx (qap 0) (dC (.int 0))) [.no] (cs.map Cl.pv)).bind _=_
    rw [names_of];rfl
   ·intro s hs
    obtain ⟨c,hc,rfl⟩:=List.mem_map.mp hs
    exact (g1 c hc).nm
   ·rintro y ⟨ss,h2,c,e6,rfl,ok,hn⟩
    injection e6 with e6 e7
    injection e6 with e6
    injection e7 with e7 _
    injection e7 with e7
    injection e7 with e7
    have e8:=qg9 e6
    have e9:h'=h2:=by omega
    subst e8 e9
    refine ⟨_,rfl,by rw [List.length_map];omega,cs++[c],.sh (.at (.int (0 + (m0:Int)))),?_,⟨m0 + 1,er,by rw [List.length_append];simp;omega,hm⟩,?_,?_⟩
    ·show [MSlot.sh (scr K ns),_,_,_,_,_,_,_,.ow (.lst (cs.map Cl.pv++[c.pv])),_]=_
     rw [List.map_append];rfl
    ·intro d hd
     rcases List.mem_append.mp hd with hd | hd
     ·exact g1 d hd
     ·rw [List.mem_singleton.mp hd];exact ok
    ·rw [List.map_append]
     refine List.nodup_append.mpr ⟨g2,(List.nodup_cons.mpr ⟨by simp,List.nodup_nil⟩),fun a ha b hb=>?_⟩
     rw [List.mem_singleton.mp hb]
     exact fun e=>hn (e ▸ ha)
 by_cases h7:q=7
 ·subst h7
  refine qi0 (qe2 (v:=true) rfl) ?_
  have d0:0<=n2 % 4:=Int.emod_nonneg _ (by decide)
  have d1:n2 % 4 < 4:=Int.emod_lt_of_pos _ (by decide)
  refine ⟨_,rfl,⟨n2,rfl⟩,_,rfl,n2,4,rfl,rfl,⟨by decide,by decide⟩,_,rfl,?_⟩
  obtain ⟨q,hq⟩:=Int.eq_ofNat_of_zero_le (show 0<=7 + n2 % 4 by omega)
  rw [hq]
  exact rest _ q (by omega)
 ·refine qfj (qe2 (v:=false) ?_) (rest _ q (by omega))
  show some (PV.at (.bl (decide ((q:Int)=7))))=_
  rw [decide_eq_false (by omega)]
theorem ok_works {P:Program} {w:World} {K:PySem.W.Frag} {mg:Str->Option Value} {base:Heap} {f:Addr} {fd:FuncData} (F:Fun K "_law_works" "_law_works" qhz f fd) (c_cloth:Fn P w K mg base 3 "_law_cloth" ["stream", "names", "hues"] (spD qd4 qif)) (c_rinses:Fn P w K mg base 3 "_law_rinses" ["stream", "hues"] (spD qdp qgf)) (c_stream:Fn P w K mg base 2 "_law_stream" ["script", "k"] (spN (qca K) qce)) (c_take:Fn P w K mg base 1 "_law_take" ["stream", "many"] qha) (m_min:mg "min"=none) (m_range:mg "range"=none):FnOk P w K mg base CX0 4 f fd ["script", "most"] (spV (qer K) qid) :=
 okV (k:=3) (b:=qxu K) F sc_works qtp (fun cdv A outer s H E hr=>⟨_,(@qae _ _ _ _ _ (@qaz _ _ 2 _ _ _ _ sc_works.nd rfl (Or.inl rfl) (qa3 c_stream hr (by decide) rfl (@qaa _ _ _ _ _ (pv 0) (@qaa _ _ _ _ _ qaf qac (by rfl)) (by rfl))) (by rfl) (.inl rfl))
  (@qae _ _ _ _ _ (@qaz _ _ 3 _ _ _ _ sc_works.nd rfl (Or.inl rfl) (qa8 (qbj (K:=K) rfl) qaf (qa3 c_take hr (by decide) rfl (@qaa _ _ _ _ _ (pv 2) (@qaa _ _ _ _ _ qaf qac (by rfl)) (by rfl)))) (by rfl) (.inl rfl))
  (@qae _ _ _ _ _ (@qaz _ _ 4 _ _ _ _ sc_works.nd rfl (Or.inl rfl) (qa3 c_take hr (by decide) rfl (@qaa _ _ _ _ _ (pv 2) (@qaa _ _ _ _ _ qaf qac (by rfl)) (by rfl))) (by rfl) (.inl rfl))
  (@qae _ _ _ _ _ (qc7 (qbe (qik (K:=K) (hu6 hr) rfl) (pv 4) qaf (qbl _)) (@qag _ _ _ (@qaz _ _ 4 _ _ _ _ sc_works.nd rfl (Or.inl rfl) (qa8 (qbj (K:=K) rfl) qaf (qa3 c_take hr (by decide) rfl (@qaa _ _ _ _ _ (pv 2) (@qaa _ _ _ _ _ qaf qac (by rfl)) (by rfl)))) (by rfl) (.inl rfl))) qbf)
  (@qae _ _ _ _ _ (@qaz _ _ 5 _ _ _ _ sc_works.nd rfl (Or.inl rfl) (qa8 (qfq) (qa3 c_take hr (by decide) rfl (@qaa _ _ _ _ _ (pv 2) (@qaa _ _ _ _ _ (qa8 (qbj (K:=K) rfl) (pv 3) qaf) qac (by rfl)) (by rfl))) qaf) (by rfl) (.inl rfl))
  (@qae _ _ _ _ _ (@qaz _ _ 6 _ _ _ _ sc_works.nd rfl (Or.inl rfl) (qa3 c_take hr (by decide) rfl (@qaa _ _ _ _ _ (pv 2) (@qaa _ _ _ _ _ (qbb (qao (K:=K) rfl) (@qbx _ _ _ _ (@qaa _ _ _ _ _ qaf (@qaa _ _ _ _ _ qaf (@qaa _ _ _ _ _ (qa8 (qev) qaf qaf) qac (by rfl)) (by rfl)) (by rfl))) (qa3 c_take hr (by decide) rfl (@qaa _ _ _ _ _ (pv 2) (@qaa _ _ _ _ _ qaf qac (by rfl)) (by rfl))) (fun _ _=>rfl)) qac (by rfl)) (by rfl))) (by rfl) (.inl rfl))
  (@qae _ _ _ _ _ (@qaz _ _ 7 _ _ _ _ sc_works.nd rfl (Or.inl rfl) (qa3 c_rinses hr (by decide) rfl (@qaa _ _ _ _ _ (qa3 c_stream hr (by decide) rfl (@qaa _ _ _ _ _ (pv 0) (@qaa _ _ _ _ _ qaf qac (by rfl)) (by rfl))) (@qaa _ _ _ _ _ (pv 3) qac (by rfl)) (by rfl))) (by rfl) (.inl rfl))
  (@qae _ _ _ _ _ (@qaz _ _ 8 _ _ _ _ sc_works.nd rfl (Or.inl rfl) (@qbx _ _ _ _ qac) (by rfl) (.inl rfl))
  (@qae _ _ _ _ _ (qeq PassesOwn.never rfl (qda rfl m_range (@qaa _ _ _ _ _ (qa1 (qt3 rfl) rfl m_min qpk (@qaa _ _ _ _ _ (pv 4) (@qaa _ _ _ _ _ (pv 1) qac (by rfl)) (by rfl))) qac (by rfl))) (qa2 (i:=9) sc_works.nd rfl (Or.inl rfl))
   (@qag _ _ _ (qc9 (qgk (K:=K) rfl PySem.F.plainAttrs_list PySem.F.slot_list_append PySem.F.type_list_append qdb (pv 8) (qaa (qa3 c_cloth hr (by decide) rfl (@qaa _ _ _ _ _ (qa3 c_stream hr (by decide) rfl (@qaa _ _ _ _ _ (pv 0) (@qaa _ _ _ _ _ (qa8 (qbj (K:=K) rfl) qaf (pv 9)) qac (by rfl)) (by rfl))) (@qaa _ _ _ _ _ (qbv (N':=["cloth"]) (cap:=[none]) (qci rfl rfl rfl) rfl (@qbg _ K _ _ _ rfl (pv 8)) (fun _ _ _ _ _ _=>(qa2 (i:=0) (by show (["cloth"]:List Str).Nodup;decide +kernel) rfl (Or.inl rfl))) (fun _ _ _ _ _ _=>qbm) (fun _ _ _ _ _ _=>(qbb (qao (K:=K) rfl) (pv 0) qaf (fun _ _=>rfl)))) (@qaa _ _ _ _ _ (pv 3) qac (by rfl)) (by rfl)) (by rfl))) qac)))))
  (@qag _ _ _ (qa5 (@qgj _ _ _ _ _ (@qaa _ _ _ _ _ (pv 7) (@qaa _ _ _ _ _ (pv 8) (@qaa _ _ _ _ _ (pv 5) (@qaa _ _ _ _ _ (pv 6) qac (by rfl)) (by rfl)) (by rfl)) (by rfl)))))))))))))),
  (by repeat' first | infer_instance | (refine @Mi.instSemWSTSeqWSeq _ _ _ _ ?_ ?_) | (apply @Mi.instSemWSTForWForOfSemWIOfSemWG))⟩) hw_works
end Lw
namespace Lw
open PySem L2 Mi
def qet:List PV->Prop:=fun xs=>∃ ss:List Str,xs=[.lst (qaw ss)]/\ss.length<=10
def qkz:List PV->PV->Prop:=fun xs y=>∃ ss os:List Str,xs=[.lst (qaw ss)]/\y = .lst (qaw os)/\os.Perm ss
abbrev qh2:Stmt:=top 58
abbrev qxx (K:PySem.W.Frag):WS:=(wSeq (que 2 (qaq qe7 (qad (qap 1) qav)))
  (wSeq (que 3 (qff qav))
  (wSeq (qln (wPT (dT (qay pNe (qap 2) (qff qav)))) (qjj 3 (wPop 2 (wTk 0 (wP (qaq qn7 (qad (qap 2) qav)))))) 11)
  (wFz 3 (qpx (wP (qat 3)))))))
theorem sc_order:qar ["stream", "names", "left", "found"] ["stream", "names"] (qab qh2):=⟨rfl,rfl,rfl,by decide +kernel,rfl,by decide +kernel,by decide +kernel⟩
theorem qtr:∀ xs,qet xs->xs.length + 1=(["stream", "names"]:List Str).length:=by
 rintro xs ⟨ss,rfl,_⟩;rfl
theorem qo7 {α β:Type} (f:α->β):∀ (l:List α) (i:Nat),(l.map f).eraseIdx i=(l.eraseIdx i).map f
 | [],_=>rfl
 | _::_,0=>rfl
 | x::l,i + 1=>by simp [qo7 f l i]
theorem ne_nil (ss:List Str):pNe (.lst (qaw ss)) (.lst [])=some (.at (.bl (!ss.isEmpty))):=by
 cases ss with
 | nil=>rfl
 | cons s ss=>rfl
theorem ql3 {α:Type}:∀ {ss:List α} {j:Nat} (h:j < ss.length),(ss[j]::ss.eraseIdx j).Perm ss
 | x::ss,0,_=>List.Perm.refl _
 | x::ss,j + 1,h=>by
  have hj:j < ss.length:=by simpa using h
  have ih:=ql3 hj
  show (ss[j]::x::ss.eraseIdx j).Perm (x::ss)
  exact (List.Perm.swap _ _ _).trans (ih.cons x)
theorem hw_order {K:PySem.W.Frag}:∀ xs n,qet xs->qxx K (qe1 n::xs.map .sh++List.replicate ((["stream", "names", "left", "found"]:List Str).length - (xs.length + 1)) .no) (fun _=>False) fun y ε=>qkz xs y/\qug 0 ε:=by
 rintro xs n ⟨ss,rfl,h10⟩
 have hlim:lim=1000000:=rfl
 have hB:=qk2
 refine ⟨_,rfl,_,rfl,?_⟩
 refine qn8 (fun m ε=>∃ (k:Int) (left found:List Str),ε=[qe1 k,.sh (.lst (qaw ss)),.ow (.lst (qaw left)),.ow (.lst (qaw found))]/\left.length=m/\(found++left).Perm ss) ?_ 11 ss.length _ ⟨n,ss,[],rfl,rfl,List.Perm.refl _⟩ (by omega)
 rintro m ε ⟨k,left,found,rfl,hl,hp⟩
 refine ⟨!left.isEmpty,qe2 (qaj rfl rfl (ne_nil left)),?_⟩
 have hlen:=hp.length_eq
 rw [List.length_append] at hlen
 cases left with
 | nil =>
  show if false=true then _ else _
  rw [if_neg Bool.false_ne_true]
  rw [List.append_nil] at hp
  exact ⟨_,rfl,⟨ss,found,rfl,rfl,hp⟩,_,rfl⟩
 | cons s0 r0 =>
  show if true=true then _ else _
  rw [if_pos rfl]
  generalize hL:s0::r0=left at hl hp hlen ⊢
  have hpos:0 < left.length:=by rw [<- hL];simp
  have c0:0<=k % (((qaw left).length:Nat):Int):=Int.emod_nonneg _ (by rw [qbc];omega)
  have c1:k % (((qaw left).length:Nat):Int) < (((qaw left).length:Nat):Int):=Int.emod_lt_of_pos _ (by rw [qbc];omega)
  refine ⟨m - 1,by omega,⟨_,rfl⟩,⟨_,rfl⟩,⟨k,rfl⟩,_,rfl,k,(((qaw left).length:Nat):Int),rfl,rfl,cdiv (by rw [qbc];omega) (by rw [qbc];omega),?_⟩
  generalize hj:k % (((qaw left).length:Nat):Int)=j at c0 c1
  rw [qbc] at c1
  have hjl:j.toNat < left.length:=by omega
  refine ⟨qaw left,j,.at (.str left[j.toNat]),rfl,rfl,c0,by rw [qbc];exact c1,by rw [qbc];omega,?_,qaw found,rfl,by rw [qbc];omega,?_⟩
  ·unfold qaw
   rw [List.getElem?_map,List.getElem?_eq_getElem hjl]
   rfl
  ·refine ⟨k / (((qaw left).length:Nat):Int),left.eraseIdx j.toNat,found++[left[j.toNat]],?_,by rw [List.length_eraseIdx_of_lt hjl];omega,?_⟩
   ·show [qe1 _,MSlot.sh (.lst (qaw ss)),MSlot.ow (.lst ((qaw left).eraseIdx j.toNat)),MSlot.ow (.lst (qaw found++[.at (.str left[j.toNat])]))]=_
    unfold qaw
    rw [qo7,List.map_append]
    rfl
   ·rw [List.append_assoc]
    exact ((ql3 hjl).append_left found).trans hp
theorem ok_order {P:Program} {w:World} {K:PySem.W.Frag} {mg:Str->Option Value} {base:Heap} {f:Addr} {fd:FuncData} (F:Fun K "_law_order" "_law_order" qh2 f fd) (c_take:Fn P w K mg base 1 "_law_take" ["stream", "many"] qha) (m_len:mg "len"=none) (m_list:mg "list"=none):FnOk P w K mg base CX0 2 f fd ["stream", "names"] (spD qet qkz) :=
 okD (k:=1) (b:=qxx K) F sc_order qtr (fun cdv A outer s H E hr=>⟨_,(@qae _ _ _ _ _ (@qaz _ _ 2 _ _ _ _ sc_order.nd rfl (Or.inl rfl) (qeu (qdy (K:=K) rfl) rfl m_list qc5 (@qaa _ _ _ _ _ (pv 1) qac (by rfl))) (by rfl) (.inl rfl))
  (@qae _ _ _ _ _ (@qaz _ _ 3 _ _ _ _ sc_order.nd rfl (Or.inl rfl) (@qbx _ _ _ _ qac) (by rfl) (.inl rfl))
  (@qae _ _ _ _ _ (ps_while PassesOwn.never (qbe (qfe (K:=K) (hu6 hr) rfl) (pv 2) (@qbx _ _ _ _ qac) (qbl _))
   (@qag _ _ _ (qc9 (qgk (K:=K) rfl PySem.F.plainAttrs_list PySem.F.slot_list_append PySem.F.type_list_append qdb (pv 3) (qaa (qgk (K:=K) rfl PySem.F.plainAttrs_list PySem.F.slot_list_pop PySem.F.type_list_pop mt_popAt (pv 2) (qaa (qa3 c_take hr (by decide) rfl (@qaa _ _ _ _ _ (pv 0) (@qaa _ _ _ _ _ (qa1 (qb3 (K:=K) rfl) rfl m_len PySem.boot_len (@qaa _ _ _ _ _ (pv 2) qac (by rfl))) qac (by rfl)) (by rfl))) qac)) qac)))))
  (@qag _ _ _ (qa5 (pv 3)))))),
  (by repeat' first | infer_instance | (refine @Mi.instSemWSTSeqWSeq _ _ _ _ ?_ ?_) | (apply @Mi.instSemWSTForWForOfSemWIOfSemWG))⟩) hw_order
end Lw
namespace Lw
open PySem L2 Mi
abbrev qdz:Stmt:=top 4
abbrev qmh:MS:=(qeh (qia (qaq qi5 (qad (qap 0) (qad (dC (.ty "int")) qav))) (qw9 (qaq qi5 (qad (qap 0) (qad (dC (.ty "bool")) qav))))))
def qcr:List PV->Option PV:=dFn 1 1 qmh
theorem qp6:qar ["thing"] ["thing"] (qab qdz):=⟨rfl,rfl,rfl,by decide +kernel,rfl,by decide +kernel,by decide +kernel⟩
theorem qqh {P:Program} {w:World} {K:PySem.W.Frag} {mg:Str->Option Value} {base:Heap} {f:Addr} {fd:FuncData} (F:Fun K "is_whole" "is_whole" qdz f fd) (m_bool:mg "bool"=none) (m_int:mg "int"=none) (m_isinstance:mg "isinstance"=none):FnOk P w K mg base CX0 1 f fd ["thing"] (spP qcr) :=
 okP (k:=0) (b:=qmh) F qp6 rfl fun cdv A outer s H E hr=>⟨_,(@qag _ _ _ (qa5 (qgl (qa1 (qb4 (K:=K) rfl) rfl m_isinstance qa7 (@qaa _ _ _ _ _ (pv 0) (@qaa _ _ _ _ _ (qdw (v:= .ty "int") rfl m_int qpl rfl) qac (by rfl)) (by rfl))) (qij (pe_not (qa1 (qb4 (K:=K) rfl) rfl m_isinstance qa7 (@qaa _ _ _ _ _ (pv 0) (@qaa _ _ _ _ _ (qdw (v:= .ty "bool") rfl m_bool qmg rfl) qac (by rfl)) (by rfl)))))))),
  by first | infer_instance | (repeat' first | infer_instance | refine @Mi.instSemSTSeqDSeq _ _ _ _ _ ?_ ?_)⟩
abbrev qem:Stmt:=top 7
abbrev qpr:MS:=(qeh (qay pIx (qap 0) (dC (.int 0))))
def qcu:List PV->Option PV:=dFn 1 1 qpr
theorem qs0:qar ["cloth"] ["cloth"] (qab qem):=⟨rfl,rfl,rfl,by decide +kernel,rfl,by decide +kernel,by decide +kernel⟩
theorem qtd {P:Program} {w:World} {K:PySem.W.Frag} {mg:Str->Option Value} {base:Heap} {f:Addr} {fd:FuncData} (F:Fun K "name_of" "name_of" qem f fd) :FnOk P w K mg base CX0 1 f fd ["cloth"] (spP qcu) :=
 okP (k:=0) (b:=qpr) F qs0 rfl fun cdv A outer s H E hr=>⟨_,(@qag _ _ _ (qa5 (qbb (qao (K:=K) rfl) (pv 0) qaf (fun _ _=>rfl)))),
  by first | infer_instance | (repeat' first | infer_instance | refine @Mi.instSemSTSeqDSeq _ _ _ _ _ ?_ ?_)⟩
abbrev qf7:Stmt:=top 8
abbrev qsk:MS:=(qeh (qay pIx (qap 0) (dC (.int 1))))
def qcs:List PV->Option PV:=dFn 1 1 qsk
theorem qu9:qar ["cloth"] ["cloth"] (qab qf7):=⟨rfl,rfl,rfl,by decide +kernel,rfl,by decide +kernel,by decide +kernel⟩
theorem qv4 {P:Program} {w:World} {K:PySem.W.Frag} {mg:Str->Option Value} {base:Heap} {f:Addr} {fd:FuncData} (F:Fun K "hue_of" "hue_of" qf7 f fd) :FnOk P w K mg base CX0 1 f fd ["cloth"] (spP qcs) :=
 okP (k:=0) (b:=qsk) F qu9 rfl fun cdv A outer s H E hr=>⟨_,(@qag _ _ _ (qa5 (qbb (qao (K:=K) rfl) (pv 0) qaf (fun _ _=>rfl)))),
  by first | infer_instance | (repeat' first | infer_instance | refine @Mi.instSemSTSeqDSeq _ _ _ _ _ ?_ ?_)⟩
abbrev qdm:Stmt:=top 9
abbrev qkv:MS:=(qeh (qay pIx (qap 0) (dC (.int 2))))
def qcy:List PV->Option PV:=dFn 1 1 qkv
theorem qoj:qar ["cloth"] ["cloth"] (qab qdm):=⟨rfl,rfl,rfl,by decide +kernel,rfl,by decide +kernel,by decide +kernel⟩
theorem qop {P:Program} {w:World} {K:PySem.W.Frag} {mg:Str->Option Value} {base:Heap} {f:Addr} {fd:FuncData} (F:Fun K "length_of" "length_of" qdm f fd) :FnOk P w K mg base CX0 1 f fd ["cloth"] (spP qcy) :=
 okP (k:=0) (b:=qkv) F qoj rfl fun cdv A outer s H E hr=>⟨_,(@qag _ _ _ (qa5 (qbb (qao (K:=K) rfl) (pv 0) qaf (fun _ _=>rfl)))),
  by first | infer_instance | (repeat' first | infer_instance | refine @Mi.instSemSTSeqDSeq _ _ _ _ _ ?_ ?_)⟩
abbrev qf9:Stmt:=top 10
abbrev qsm:MS:=(qeh (qay pIx (qap 0) (dC (.int 3))))
def qi6:List PV->Option PV:=dFn 1 1 qsm
theorem qva:qar ["cloth"] ["cloth"] (qab qf9):=⟨rfl,rfl,rfl,by decide +kernel,rfl,by decide +kernel,by decide +kernel⟩
theorem qv6 {P:Program} {w:World} {K:PySem.W.Frag} {mg:Str->Option Value} {base:Heap} {f:Addr} {fd:FuncData} (F:Fun K "due_of" "due_of" qf9 f fd) :FnOk P w K mg base CX0 1 f fd ["cloth"] (spP qi6) :=
 okP (k:=0) (b:=qsm) F qva rfl fun cdv A outer s H E hr=>⟨_,(@qag _ _ _ (qa5 (qbb (qao (K:=K) rfl) (pv 0) qaf (fun _ _=>rfl)))),
  by first | infer_instance | (repeat' first | infer_instance | refine @Mi.instSemSTSeqDSeq _ _ _ _ _ ?_ ?_)⟩
abbrev qdl:Stmt:=top 11
abbrev qku:MS:=(qeh (qay pIx (qap 0) (dC (.int 4))))
def qe9:List PV->Option PV:=dFn 1 1 qku
theorem qoi:qar ["cloth"] ["cloth"] (qab qdl):=⟨rfl,rfl,rfl,by decide +kernel,rfl,by decide +kernel,by decide +kernel⟩
theorem qoo {P:Program} {w:World} {K:PySem.W.Frag} {mg:Str->Option Value} {base:Heap} {f:Addr} {fd:FuncData} (F:Fun K "weight_of" "weight_of" qdl f fd) :FnOk P w K mg base CX0 1 f fd ["cloth"] (spP qe9) :=
 okP (k:=0) (b:=qku) F qoi rfl fun cdv A outer s H E hr=>⟨_,(@qag _ _ _ (qa5 (qbb (qao (K:=K) rfl) (pv 0) qaf (fun _ _=>rfl)))),
  by first | infer_instance | (repeat' first | infer_instance | refine @Mi.instSemSTSeqDSeq _ _ _ _ _ ?_ ?_)⟩
abbrev qeo:Stmt:=top 12
abbrev qpt:MS:=(qeh (qia (qaq qcr (qad (qat 0) qav)) (qay pGe (qap 0) (qap 1))))
def qcg:List PV->Option PV:=dFn 2 2 qpt
theorem qs2:qar ["thing", "least"] ["thing", "least"] (qab qeo):=⟨rfl,rfl,rfl,by decide +kernel,rfl,by decide +kernel,by decide +kernel⟩
theorem qtf {P:Program} {w:World} {K:PySem.W.Frag} {mg:Str->Option Value} {base:Heap} {f:Addr} {fd:FuncData} (F:Fun K "is_from" "is_from" qeo f fd) (c_is_whole:Fn P w K mg base 1 "is_whole" ["thing"] (spP qcr)):FnOk P w K mg base CX0 2 f fd ["thing", "least"] (spP qcg) :=
 okP (k:=1) (b:=qpt) F qs2 rfl fun cdv A outer s H E hr=>⟨_,(@qag _ _ _ (qa5 (qgl (qa3 c_is_whole hr (by decide) rfl (@qaa _ _ _ _ _ (pv 0) qac (by rfl))) (qij (qh6 (op_ge) (pv 0) (pv 1) (qbl _)))))),
  by first | infer_instance | (repeat' first | infer_instance | refine @Mi.instSemSTSeqDSeq _ _ _ _ _ ?_ ?_)⟩
abbrev qen:Stmt:=top 3
abbrev qps:MS:=(dSeq (qh9 (dOr (qjg (qk3 (qaq qi5 (qad (qap 0) (qad (dC (.ty "str")) qav))))) (qjg (dT (qkq pLe pLe (dC (.int 1)) (qaq qn7 (qad (qap 0) qav)) (dC (.int 8)))))) (qeh (dC (.bl false))) qd8)
  (qeh (qaq pAll (qad (qba [none] [0] (dItS (qat 0)) (qa4 0) qd7 (qkq pLeS pLeS (dC (.str "a")) (qap 0) (dC (.str "z")))) qav))))
def qft:List PV->Option PV:=dFn 1 1 qps
theorem qs1:qar ["thing"] ["thing"] (qab qen):=⟨rfl,rfl,rfl,by decide +kernel,rfl,by decide +kernel,by decide +kernel⟩
theorem qte {P:Program} {w:World} {K:PySem.W.Frag} {mg:Str->Option Value} {base:Heap} {f:Addr} {fd:FuncData} (F:Fun K "is_name" "is_name" qen f fd) (m_all:mg "all"=none) (m_isinstance:mg "isinstance"=none) (m_len:mg "len"=none) (m_str:mg "str"=none) {t_LONGEST_NAME:Tok} (g_LONGEST_NAME:mg "LONGEST_NAME"=some (.int 8 t_LONGEST_NAME)):FnOk P w K mg base CX0 1 f fd ["thing"] (spP qft) :=
 okP (k:=0) (b:=qps) F qs1 rfl fun cdv A outer s H E hr=>⟨_,(@qae _ _ _ _ _ (qc7 (PW.pt (qjv (qc8 (qcd (K:=K) rfl (qa1 (qb4 (K:=K) rfl) rfl m_isinstance qa7 (@qaa _ _ _ _ _ (pv 0) (@qaa _ _ _ _ _ (qdw (v:= .ty "str") rfl m_str qpi rfl) qac (by rfl)) (by rfl))) (fun _=>rfl))) (qhd (qc8 (qrs (op_le) (op_le) qaf (qa1 (qb3 (K:=K) rfl) rfl m_len PySem.boot_len (@qaa _ _ _ _ _ (pv 0) qac (by rfl))) (qne (v:= .int 8) rfl g_LONGEST_NAME ⟨_,rfl⟩)))))) (@qag _ _ _ (qa5 qj1)) qbf)
  (@qag _ _ _ (qa5 (qa1 (qfz (K:=K) rfl rfl) rfl m_all qf0 (@qaa _ _ _ _ _ (qbv (N':=["sign"]) (cap:=[none]) (qci rfl rfl rfl) rfl (pi_str (pv 0)) (fun _ _ _ _ _ _=>(qa2 (i:=0) (by show (["sign"]:List Str).Nodup;decide +kernel) rfl (Or.inl rfl))) (fun _ _ _ _ _ _=>qbm) (fun _ _ _ _ _ _=>(pe_chain (op_leS) (op_leS) qjz (pv 0) qjz))) qac (by rfl)))))),
  by first | infer_instance | (repeat' first | infer_instance | refine @Mi.instSemSTSeqDSeq _ _ _ _ _ ?_ ?_)⟩
abbrev qd0:Stmt:=top 13
abbrev qmi:MS:=(dSeq (qh9 (dOr (qjg (qk3 (qaq qi5 (qad (qap 0) (qad (dC (.ty "tuple")) qav))))) (dT (qay pNe (qaq qn7 (qad (qap 0) qav)) (dC (.int 5))))) (qeh (dC (.bl false))) qd8)
  (dSeq (qh9 (dOr (qjg (qk3 (qaq qft (qad (qaq qcu (qad (qat 0) qav)) qav)))) (dOr (qjg (qk3 (qaq qcg (qad (qaq qcs (qad (qat 0) qav)) (qad (dC (.int 0)) qav))))) (dT (qay pGe (qaq qcs (qad (qat 0) qav)) (qap 1))))) (qeh (dC (.bl false))) qd8)
  (qeh (qia (qaq qcg (qad (qaq qcy (qad (qat 0) qav)) (qad (dC (.int 1)) qav))) (qia (qaq qcr (qad (qaq qi6 (qad (qat 0) qav)) qav)) (qaq qcg (qad (qaq qe9 (qad (qat 0) qav)) (qad (dC (.int 1)) qav))))))))
def qew:List PV->Option PV:=dFn 2 2 qmi
theorem qp7:qar ["thing", "hues"] ["thing", "hues"] (qab qd0):=⟨rfl,rfl,rfl,by decide +kernel,rfl,by decide +kernel,by decide +kernel⟩
theorem qqi {P:Program} {w:World} {K:PySem.W.Frag} {mg:Str->Option Value} {base:Heap} {f:Addr} {fd:FuncData} (F:Fun K "is_cloth" "is_cloth" qd0 f fd) (c_due_of:Fn P w K mg base 1 "due_of" ["cloth"] (spP qi6)) (c_hue_of:Fn P w K mg base 1 "hue_of" ["cloth"] (spP qcs)) (c_is_from:Fn P w K mg base 2 "is_from" ["thing", "least"] (spP qcg)) (c_is_name:Fn P w K mg base 1 "is_name" ["thing"] (spP qft)) (c_is_whole:Fn P w K mg base 1 "is_whole" ["thing"] (spP qcr)) (c_length_of:Fn P w K mg base 1 "length_of" ["cloth"] (spP qcy)) (c_name_of:Fn P w K mg base 1 "name_of" ["cloth"] (spP qcu)) (c_weight_of:Fn P w K mg base 1 "weight_of" ["cloth"] (spP qe9)) (m_isinstance:mg "isinstance"=none) (m_len:mg "len"=none) (m_tuple:mg "tuple"=none) {t_PARTS:Tok} (g_PARTS:mg "PARTS"=some (.int 5 t_PARTS)):FnOk P w K mg base CX0 3 f fd ["thing", "hues"] (spP qew) :=
 okP (k:=2) (b:=qmi) F qp7 rfl fun cdv A outer s H E hr=>⟨_,(@qae _ _ _ _ _ (qc7 (PW.pt (qjv (qc8 (qcd (K:=K) rfl (qa1 (qb4 (K:=K) rfl) rfl m_isinstance qa7 (@qaa _ _ _ _ _ (pv 0) (@qaa _ _ _ _ _ (qdw (v:= .ty "tuple") rfl m_tuple qks rfl) qac (by rfl)) (by rfl))) (fun _=>rfl))) (qhd (qbe (qfe (K:=K) (hu6 hr) rfl) (qa1 (qb3 (K:=K) rfl) rfl m_len PySem.boot_len (@qaa _ _ _ _ _ (pv 0) qac (by rfl))) (qne (v:= .int 5) rfl g_PARTS ⟨_,rfl⟩) (qbl _))))) (@qag _ _ _ (qa5 qj1)) qbf)
  (@qae _ _ _ _ _ (qc7 (PW.pt (qjv (qc8 (qcd (K:=K) rfl (qa3 c_is_name hr (by decide) rfl (@qaa _ _ _ _ _ (qa3 c_name_of hr (by decide) rfl (@qaa _ _ _ _ _ (pv 0) qac (by rfl))) qac (by rfl))) (fun _=>rfl))) (qjv (qc8 (qcd (K:=K) rfl (qa3 c_is_from hr (by decide) rfl (@qaa _ _ _ _ _ (qa3 c_hue_of hr (by decide) rfl (@qaa _ _ _ _ _ (pv 0) qac (by rfl))) (@qaa _ _ _ _ _ qaf qac (by rfl)) (by rfl))) (fun _=>rfl))) (qhd (qbe (op_ge) (qa3 c_hue_of hr (by decide) rfl (@qaa _ _ _ _ _ (pv 0) qac (by rfl))) (pv 1) (qbl _)))))) (@qag _ _ _ (qa5 qj1)) qbf)
  (@qag _ _ _ (qa5 (qgl (qa3 c_is_from hr (by decide) rfl (@qaa _ _ _ _ _ (qa3 c_length_of hr (by decide) rfl (@qaa _ _ _ _ _ (pv 0) qac (by rfl))) (@qaa _ _ _ _ _ qaf qac (by rfl)) (by rfl))) (qgl (qa3 c_is_whole hr (by decide) rfl (@qaa _ _ _ _ _ (qa3 c_due_of hr (by decide) rfl (@qaa _ _ _ _ _ (pv 0) qac (by rfl))) qac (by rfl))) (qij (qa3 c_is_from hr (by decide) rfl (@qaa _ _ _ _ _ (qa3 c_weight_of hr (by decide) rfl (@qaa _ _ _ _ _ (pv 0) qac (by rfl))) (@qaa _ _ _ _ _ qaf qac (by rfl)) (by rfl)))))))))),
  by first | infer_instance | (repeat' first | infer_instance | refine @Mi.instSemSTSeqDSeq _ _ _ _ _ ?_ ?_)⟩
abbrev qb7:Stmt:=top 31
abbrev qgp:MS:=(dSeq (qh9 (dOr (qjg (qk3 (qaq qi5 (qad (qap 0) (qad (dC (.ty "list")) qav))))) (dT (qay pNe (qaq qn7 (qad (qap 0) qav)) (qap 1)))) (qeh (dC (.bl false))) qd8)
  (qeh (qaq pAll (qad (qba [none] [0] (qfg (qat 0)) (qa4 0) qd7 (qia (qaq qcr (qad (qat 0) qav)) (qay pGe (qap 0) (dC (.int 0))))) qav))))
def qcb:List PV->Option PV:=dFn 2 2 qgp
theorem qjr:qar ["row", "hues"] ["row", "hues"] (qab qb7):=⟨rfl,rfl,rfl,by decide +kernel,rfl,by decide +kernel,by decide +kernel⟩
theorem qj5 {P:Program} {w:World} {K:PySem.W.Frag} {mg:Str->Option Value} {base:Heap} {f:Addr} {fd:FuncData} (F:Fun K "is_rinse_row" "is_rinse_row" qb7 f fd) (c_is_whole:Fn P w K mg base 1 "is_whole" ["thing"] (spP qcr)) (m_all:mg "all"=none) (m_isinstance:mg "isinstance"=none) (m_len:mg "len"=none) (m_list:mg "list"=none):FnOk P w K mg base CX0 2 f fd ["row", "hues"] (spP qcb) :=
 okP (k:=1) (b:=qgp) F qjr rfl fun cdv A outer s H E hr=>⟨_,(@qae _ _ _ _ _ (qc7 (PW.pt (qjv (qc8 (qcd (K:=K) rfl (qa1 (qb4 (K:=K) rfl) rfl m_isinstance qa7 (@qaa _ _ _ _ _ (pv 0) (@qaa _ _ _ _ _ (qdw (v:= .ty "list") rfl m_list qc5 rfl) qac (by rfl)) (by rfl))) (fun _=>rfl))) (qhd (qbe (qfe (K:=K) (hu6 hr) rfl) (qa1 (qb3 (K:=K) rfl) rfl m_len PySem.boot_len (@qaa _ _ _ _ _ (pv 0) qac (by rfl))) (pv 1) (qbl _))))) (@qag _ _ _ (qa5 qj1)) qbf)
  (@qag _ _ _ (qa5 (qa1 (qfz (K:=K) rfl rfl) rfl m_all qf0 (@qaa _ _ _ _ _ (qbv (N':=["number"]) (cap:=[none]) (qci rfl rfl rfl) rfl (@qbg _ K _ _ _ rfl (pv 0)) (fun _ _ _ _ _ _=>(qa2 (i:=0) (by show (["number"]:List Str).Nodup;decide +kernel) rfl (Or.inl rfl))) (fun _ _ _ _ _ _=>qbm) (fun _ _ _ _ _ _=>(qgl (qa3 c_is_whole hr (by decide) rfl (@qaa _ _ _ _ _ (pv 0) qac (by rfl))) (qij (qh6 (op_ge) (pv 0) qaf (qbl _)))))) qac (by rfl)))))),
  by first | infer_instance | (repeat' first | infer_instance | refine @Mi.instSemSTSeqDSeq _ _ _ _ _ ?_ ?_)⟩
abbrev qb8:Stmt:=top 32
abbrev qgq:MS:=(dSeq (qh9 (qjg (qk3 (qaq qi5 (qad (qap 0) (qad (dC (.ty "list")) qav))))) qe0 qd8)
  (dSeq (qdk 1 (qay qqg (qaq qn7 (qad (qap 0) qav)) (dC (.int 1))))
  (dSeq (qh9 (qjg (dT (qkq pLe pLe (dC (.int 1)) (qap 1) (dC (.int 4))))) qe0 qd8)
  (qh9 (qjg (qk3 (qaq pAll (qad (qba [none,some 1] [0] (qfg (qat 0)) (qa4 0) qd7 (qaq qcb (qad (qat 0) (qad (qat 1) qav)))) qav)))) qe0 qd8))))
def qcw:List PV->Option PV:=dFn 2 1 qgq
theorem sc_check_rinses:qar ["rinses", "hues"] ["rinses"] (qab qb8):=⟨rfl,rfl,rfl,by decide +kernel,rfl,by decide +kernel,by decide +kernel⟩
theorem qj6 {P:Program} {w:World} {K:PySem.W.Frag} {mg:Str->Option Value} {base:Heap} {f:Addr} {fd:FuncData} (F:Fun K "check_rinses" "check_rinses" qb8 f fd) (c_is_rinse_row:Fn P w K mg base 2 "is_rinse_row" ["row", "hues"] (spP qcb)) (m_all:mg "all"=none) (m_isinstance:mg "isinstance"=none) (m_len:mg "len"=none) (m_list:mg "list"=none) {t_MOST_HUES:Tok} (g_MOST_HUES:mg "MOST_HUES"=some (.int 4 t_MOST_HUES)):FnOk P w K mg base CX0 3 f fd ["rinses"] (spP qcw) :=
 okP (k:=2) (b:=qgq) F sc_check_rinses rfl fun cdv A outer s H E hr=>⟨_,(@qae _ _ _ _ _ (qc7 (qc8 (qcd (K:=K) rfl (qa1 (qb4 (K:=K) rfl) rfl m_isinstance qa7 (@qaa _ _ _ _ _ (pv 0) (@qaa _ _ _ _ _ (qdw (v:= .ty "list") rfl m_list qc5 rfl) qac (by rfl)) (by rfl))) (fun _=>rfl))) (@qag _ _ _ qdr) qbf)
  (@qae _ _ _ _ _ (@qaz _ _ 1 _ _ _ _ sc_check_rinses.nd rfl (Or.inr rfl) (qa8 (qfq) (qa1 (qb3 (K:=K) rfl) rfl m_len PySem.boot_len (@qaa _ _ _ _ _ (pv 0) qac (by rfl))) qaf) (by rfl) (.inl rfl))
  (@qae _ _ _ _ _ (qc7 (qc8 (qrs (op_le) (op_le) qaf (pv 1) (qne (v:= .int 4) rfl g_MOST_HUES ⟨_,rfl⟩))) (@qag _ _ _ qdr) qbf)
  (@qag _ _ _ (qc7 (qc8 (qcd (K:=K) rfl (qa1 (qfz (K:=K) rfl rfl) rfl m_all qf0 (@qaa _ _ _ _ _ (qbv (N':=["row", "hues"]) (cap:=[none,some 1]) (qci rfl rfl rfl) rfl (@qbg _ K _ _ _ rfl (pv 0)) (fun _ _ _ _ _ _=>(qa2 (i:=0) (by show (["row", "hues"]:List Str).Nodup;decide +kernel) rfl (Or.inl rfl))) (fun _ _ _ _ _ _=>qbm) (fun _ _ _ _ _ _=>(qa3 c_is_rinse_row hr (by decide) rfl (@qaa _ _ _ _ _ (pv 0) (@qaa _ _ _ _ _ (pv 1) qac (by rfl)) (by rfl))))) qac (by rfl))) (fun _=>rfl))) (@qag _ _ _ qdr) qbf))))),
  by first | infer_instance | (repeat' first | infer_instance | refine @Mi.instSemSTSeqDSeq _ _ _ _ _ ?_ ?_)⟩
abbrev qbu:Stmt:=top 33
abbrev qf1:MS:=(qeh (qba [none,none] [0,1] (dEnum (qad (qat 0) qav)) (mTup 2 (qfb (qa4 0) (qfb (qa4 1) mNil))) qd7 (qpb (qad (qat 1) (qad (qff (qad (qat 0) qav)) qav)))))
def qbw:List PV->Option PV:=quc 1 1 qf1
theorem qix:qar ["row"] ["row"] (qab qbu):=⟨rfl,rfl,rfl,by decide +kernel,rfl,by decide +kernel,by decide +kernel⟩
theorem qiy {P:Program} {w:World} {K:PySem.W.Frag} {mg:Str->Option Value} {base:Heap} {f:Addr} {fd:FuncData} (F:Fun K "straight_ways" "straight_ways" qbu f fd) (m_enumerate:mg "enumerate"=none):FnOk P w K mg base CX0 1 f fd ["row"] (spO qbw) :=
 okO (k:=0) (b:=qf1) F qix rfl fun cdv A outer s H E hr=>⟨_,(@qag _ _ _ (qa5 (qbv (N':=["hue", "number"]) (cap:=[none,none]) (qci rfl rfl rfl) rfl (qrt (K:=K) rfl rfl m_enumerate (@qaa _ _ _ _ _ (pv 0) qac (by rfl))) (fun _ _ _ _ _ _=>(qnb (K:=K) (n:=2) rfl rfl (qds (qa2 (i:=0) (by show (["hue", "number"]:List Str).Nodup;decide +kernel) rfl (Or.inl rfl)) (qds (qa2 (i:=1) (by show (["hue", "number"]:List Str).Nodup;decide +kernel) rfl (Or.inl rfl)) qna)))) (fun _ _ _ _ _ _=>qbm) (fun _ _ _ _ _ _=>(@qgj _ _ _ _ _ (@qaa _ _ _ _ _ (pv 1) (@qaa _ _ _ _ _ (@qbx _ _ _ _ (@qaa _ _ _ _ _ (pv 0) qac (by rfl))) qac (by rfl)) (by rfl))))))),
  by first | infer_instance | (repeat' first | infer_instance | refine @Mi.instSemSTSeqDSeq _ _ _ _ _ ?_ ?_)⟩
abbrev qf6:Stmt:=top 34
abbrev qsj:MS:=(qeh (qpb (qad (qay qd5 (qay pIx (qap 0) (dC (.int 0))) (qay pIx (qap 1) (dC (.int 0)))) (qad (qay qd5 (qay pIx (qap 0) (dC (.int 1))) (qay pIx (qap 1) (dC (.int 1)))) qav))))
def qgc:List PV->Option PV:=dFn 2 2 qsj
theorem qu8:qar ["way", "onward"] ["way", "onward"] (qab qf6):=⟨rfl,rfl,rfl,by decide +kernel,rfl,by decide +kernel,by decide +kernel⟩
theorem qv3 {P:Program} {w:World} {K:PySem.W.Frag} {mg:Str->Option Value} {base:Heap} {f:Addr} {fd:FuncData} (F:Fun K "joined" "joined" qf6 f fd) :FnOk P w K mg base CX0 1 f fd ["way", "onward"] (spP qgc) :=
 okP (k:=0) (b:=qsj) F qu8 rfl fun cdv A outer s H E hr=>⟨_,(@qag _ _ _ (qa5 (@qgj _ _ _ _ _ (@qaa _ _ _ _ _ (qa8 (qbj (K:=K) rfl) (qbb (qao (K:=K) rfl) (pv 0) qaf (fun _ _=>rfl)) (qbb (qao (K:=K) rfl) (pv 1) qaf (fun _ _=>rfl))) (@qaa _ _ _ _ _ (qa8 (qbj (K:=K) rfl) (qbb (qao (K:=K) rfl) (pv 0) qaf (fun _ _=>rfl)) (qbb (qao (K:=K) rfl) (pv 1) qaf (fun _ _=>rfl))) qac (by rfl)) (by rfl))))),
  by first | infer_instance | (repeat' first | infer_instance | refine @Mi.instSemSTSeqDSeq _ _ _ _ _ ?_ ?_)⟩
abbrev qf5:Stmt:=top 35
abbrev qsi:MS:=(qeh (dIf (dT (qay pLt (qay pIx (qap 1) (dC (.int 0))) (qay pIx (qap 0) (dC (.int 0))))) (qat 1) (qat 0)))
def qgb:List PV->Option PV:=dFn 2 2 qsi
theorem qu7:qar ["way", "other"] ["way", "other"] (qab qf5):=⟨rfl,rfl,rfl,by decide +kernel,rfl,by decide +kernel,by decide +kernel⟩
theorem qv2 {P:Program} {w:World} {K:PySem.W.Frag} {mg:Str->Option Value} {base:Heap} {f:Addr} {fd:FuncData} (F:Fun K "lesser" "lesser" qf5 f fd) :FnOk P w K mg base CX0 1 f fd ["way", "other"] (spP qgb) :=
 okP (k:=0) (b:=qsi) F qu7 rfl fun cdv A outer s H E hr=>⟨_,(@qag _ _ _ (qa5 (qi4 (qbe (op_lt) (qbb (qao (K:=K) rfl) (pv 1) qaf (fun _ _=>rfl)) (qbb (qao (K:=K) rfl) (pv 0) qaf (fun _ _=>rfl)) (qbl _)) (pv 1) (pv 0)))),
  by first | infer_instance | (repeat' first | infer_instance | refine @Mi.instSemSTSeqDSeq _ _ _ _ _ ?_ ?_)⟩
abbrev qb5:Stmt:=top 36
abbrev qgn:MS:=(qeh (qba [none,none,some 0,some 1] [0,1] (dZip (qad (qat 0) (qad (qat 2) qav))) (mTup 2 (qfb (qa4 0) (qfb (qa4 1) mNil))) qd7 (qaq qgb (qad (qat 0) (qad (qaq qgc (qad (qay pIx (qap 2) (qap 3)) (qad (qat 1) qav))) qav)))))
def qbr:List PV->Option PV:=quc 3 3 qgn
theorem qjp:qar ["ways", "hue", "onward"] ["ways", "hue", "onward"] (qab qb5):=⟨rfl,rfl,rfl,by decide +kernel,rfl,by decide +kernel,by decide +kernel⟩
theorem qj3 {P:Program} {w:World} {K:PySem.W.Frag} {mg:Str->Option Value} {base:Heap} {f:Addr} {fd:FuncData} (F:Fun K "ways_through" "ways_through" qb5 f fd) (c_joined:Fn P w K mg base 1 "joined" ["way", "onward"] (spP qgc)) (c_lesser:Fn P w K mg base 1 "lesser" ["way", "other"] (spP qgb)) (m_zip:mg "zip"=none):FnOk P w K mg base CX0 2 f fd ["ways", "hue", "onward"] (spO qbr) :=
 okO (k:=1) (b:=qgn) F qjp rfl fun cdv A outer s H E hr=>⟨_,(@qag _ _ _ (qa5 (qbv (N':=["way", "more", "ways", "hue"]) (cap:=[none,none,some 0,some 1]) (qci rfl rfl rfl) rfl (pi_zipK (K:=K) rfl rfl m_zip (@qaa _ _ _ _ _ (pv 0) (@qaa _ _ _ _ _ (pv 2) qac (by rfl)) (by rfl))) (fun _ _ _ _ _ _=>(qnb (K:=K) (n:=2) rfl rfl (qds (qa2 (i:=0) (by show (["way", "more", "ways", "hue"]:List Str).Nodup;decide +kernel) rfl (Or.inl rfl)) (qds (qa2 (i:=1) (by show (["way", "more", "ways", "hue"]:List Str).Nodup;decide +kernel) rfl (Or.inl rfl)) qna)))) (fun _ _ _ _ _ _=>qbm) (fun _ _ _ _ _ _=>(qa3 c_lesser hr (by decide) rfl (@qaa _ _ _ _ _ (pv 0) (@qaa _ _ _ _ _ (qa3 c_joined hr (by decide) rfl (@qaa _ _ _ _ _ (qbb (qao (K:=K) rfl) (pv 2) (pv 3) (fun _ _=>rfl)) (@qaa _ _ _ _ _ (pv 1) qac (by rfl)) (by rfl))) qac (by rfl)) (by rfl))))))),
  by first | infer_instance | (repeat' first | infer_instance | refine @Mi.instSemSTSeqDSeq _ _ _ _ _ ?_ ?_)⟩
abbrev qc0:Stmt:=top 37
abbrev qio:MS:=(dSeq (qdk 1 (qba [none] [0] (qfg (qat 0)) (qa4 0) qd7 (qaq qbw (qad (qat 0) qav))))
  (dSeq (qxc (qd9 (qad (qay qqg (qaq qn7 (qad (qap 0) qav)) (dC (.int 1))) qav)) (qa4 2) (dSeq (qdk 3 (qay pIx (qap 1) (qap 2)))
  (qdk 1 (qba [none,some 2,some 3] [0] (qfg (qat 1)) (qa4 0) qd7 (qaq qbr (qad (qat 0) (qad (qat 1) (qad (qat 2) qav))))))))
  (qeh (qat 1))))
def qdt:List PV->Option PV:=dFn 4 1 qio
theorem sc_least_ways:qar ["rinses", "table", "hue", "onward"] ["rinses"] (qab qc0):=⟨rfl,rfl,rfl,by decide +kernel,rfl,by decide +kernel,by decide +kernel⟩
theorem qnj {P:Program} {w:World} {K:PySem.W.Frag} {mg:Str->Option Value} {base:Heap} {f:Addr} {fd:FuncData} (F:Fun K "least_ways" "least_ways" qc0 f fd) (c_straight_ways:Fn P w K mg base 1 "straight_ways" ["row"] (spO qbw)) (c_ways_through:Fn P w K mg base 2 "ways_through" ["ways", "hue", "onward"] (spO qbr)) (m_len:mg "len"=none) (m_range:mg "range"=none):FnOk P w K mg base CX0 3 f fd ["rinses"] (spP qdt) :=
 okP (k:=2) (b:=qio) F sc_least_ways rfl fun cdv A outer s H E hr=>⟨_,(@qae _ _ _ _ _ (qqc (i:=1) (N':=["row"]) (cap:=[none]) (qci rfl rfl rfl) rfl sc_least_ways.nd rfl rfl (@qbg _ K _ _ _ rfl (pv 0)) (fun _ _ _ _ _ _=>(qa2 (i:=0) (by show (["row"]:List Str).Nodup;decide +kernel) rfl (Or.inl rfl))) (fun _ _ _ _ _ _=>qbm) (fun _ _ _ _ _ _=>(qa3 c_straight_ways hr (by decide) rfl (@qaa _ _ _ _ _ (pv 0) qac (by rfl)))))
  (@qae _ _ _ _ _ (qeq PassesOwn.never rfl (qda rfl m_range (@qaa _ _ _ _ _ (qa8 (qfq) (qa1 (qb3 (K:=K) rfl) rfl m_len PySem.boot_len (@qaa _ _ _ _ _ (pv 0) qac (by rfl))) qaf) qac (by rfl))) (qa2 (i:=2) sc_least_ways.nd rfl (Or.inr rfl))
   (@qae _ _ _ _ _ (@qaz _ _ 3 _ _ _ _ sc_least_ways.nd rfl (Or.inr rfl) (qbb (qao (K:=K) rfl) (pv 1) (pv 2) (fun _ _=>rfl)) (by rfl) (.inl rfl))
  (@qag _ _ _ (qqc (i:=1) (N':=["ways", "hue", "onward"]) (cap:=[none,some 2,some 3]) (qci rfl rfl rfl) rfl sc_least_ways.nd rfl rfl (@qbg _ K _ _ _ rfl (pv 1)) (fun _ _ _ _ _ _=>(qa2 (i:=0) (by show (["ways", "hue", "onward"]:List Str).Nodup;decide +kernel) rfl (Or.inl rfl))) (fun _ _ _ _ _ _=>qbm) (fun _ _ _ _ _ _=>(qa3 c_ways_through hr (by decide) rfl (@qaa _ _ _ _ _ (pv 0) (@qaa _ _ _ _ _ (pv 1) (@qaa _ _ _ _ _ (pv 2) qac (by rfl)) (by rfl)) (by rfl))))))))
  (@qag _ _ _ (qa5 (pv 1))))),
  by first | infer_instance | (repeat' first | infer_instance | refine @Mi.instSemSTSeqDSeq _ _ _ _ _ ?_ ?_)⟩
abbrev qek:Stmt:=top 38
abbrev qpq:MS:=(qeh (qba [none] [0] (qfg (qat 0)) (qa4 0) qd7 (qay pIx (qap 0) (dC (.int 0)))))
def qfs:List PV->Option PV:=quc 1 1 qpq
theorem qsz:qar ["ways"] ["ways"] (qab qek):=⟨rfl,rfl,rfl,by decide +kernel,rfl,by decide +kernel,by decide +kernel⟩
theorem qta {P:Program} {w:World} {K:PySem.W.Frag} {mg:Str->Option Value} {base:Heap} {f:Addr} {fd:FuncData} (F:Fun K "sums_of" "sums_of" qek f fd) :FnOk P w K mg base CX0 1 f fd ["ways"] (spO qfs) :=
 okO (k:=0) (b:=qpq) F qsz rfl fun cdv A outer s H E hr=>⟨_,(@qag _ _ _ (qa5 (qbv (N':=["way"]) (cap:=[none]) (qci rfl rfl rfl) rfl (@qbg _ K _ _ _ rfl (pv 0)) (fun _ _ _ _ _ _=>(qa2 (i:=0) (by show (["way"]:List Str).Nodup;decide +kernel) rfl (Or.inl rfl))) (fun _ _ _ _ _ _=>qbm) (fun _ _ _ _ _ _=>(qbb (qao (K:=K) rfl) (pv 0) qaf (fun _ _=>rfl)))))),
  by first | infer_instance | (repeat' first | infer_instance | refine @Mi.instSemSTSeqDSeq _ _ _ _ _ ?_ ?_)⟩
abbrev qb6:Stmt:=top 39
abbrev qgo:MS:=(dSeq (qnt (qaq qcw (qad (qat 0) qav)))
  (qeh (qba [none] [0] (qfg (qaq qdt (qad (qat 0) qav))) (qa4 0) qd7 (qaq qfs (qad (qat 0) qav)))))
def qcv:List PV->Option PV:=quc 1 1 qgo
theorem qjq:qar ["rinses"] ["rinses"] (qab qb6):=⟨rfl,rfl,rfl,by decide +kernel,rfl,by decide +kernel,by decide +kernel⟩
theorem qj4 {P:Program} {w:World} {K:PySem.W.Frag} {mg:Str->Option Value} {base:Heap} {f:Addr} {fd:FuncData} (F:Fun K "least_rinses" "least_rinses" qb6 f fd) (c_check_rinses:Fn P w K mg base 3 "check_rinses" ["rinses"] (spP qcw)) (c_least_ways:Fn P w K mg base 3 "least_ways" ["rinses"] (spP qdt)) (c_sums_of:Fn P w K mg base 1 "sums_of" ["ways"] (spO qfs)):FnOk P w K mg base CX0 4 f fd ["rinses"] (spO qcv) :=
 okO (k:=3) (b:=qgo) F qjq rfl fun cdv A outer s H E hr=>⟨_,(@qae _ _ _ _ _ (qc9 (qa3 c_check_rinses hr (by decide) rfl (@qaa _ _ _ _ _ (pv 0) qac (by rfl))))
  (@qag _ _ _ (qa5 (qbv (N':=["ways"]) (cap:=[none]) (qci rfl rfl rfl) rfl (@qbg _ K _ _ _ rfl (qa3 c_least_ways hr (by decide) rfl (@qaa _ _ _ _ _ (pv 0) qac (by rfl)))) (fun _ _ _ _ _ _=>(qa2 (i:=0) (by show (["ways"]:List Str).Nodup;decide +kernel) rfl (Or.inl rfl))) (fun _ _ _ _ _ _=>qbm) (fun _ _ _ _ _ _=>(qa3 c_sums_of hr (by decide) rfl (@qaa _ _ _ _ _ (pv 0) qac (by rfl)))))))),
  by first | infer_instance | (repeat' first | infer_instance | refine @Mi.instSemSTSeqDSeq _ _ _ _ _ ?_ ?_)⟩
abbrev qcl:Stmt:=top 42
abbrev qhq:MS:=(dSeq (qh9 (dAnd (dT (qay pNotN (qap 0) (dC .non))) (qjg (dAnd (qk3 (qaq qcg (qad (qat 0) (qad (dUn pNeg (dC (.int 1))) qav)))) (dT (qay pLt (qap 0) (qap 2)))))) qe0 qd8)
  (qh9 (qjg (qk3 (qaq qcg (qad (qat 1) (qad (dC (.int 0)) qav))))) qe0 qd8))
def qdc:List PV->Option PV:=dFn 3 3 qhq
theorem qk9:qar ["last", "time", "hues"] ["last", "time", "hues"] (qab qcl):=⟨rfl,rfl,rfl,by decide +kernel,rfl,by decide +kernel,by decide +kernel⟩
theorem qlf {P:Program} {w:World} {K:PySem.W.Frag} {mg:Str->Option Value} {base:Heap} {f:Addr} {fd:FuncData} (F:Fun K "check_start" "check_start" qcl f fd) (c_is_from:Fn P w K mg base 2 "is_from" ["thing", "least"] (spP qcg)):FnOk P w K mg base CX0 3 f fd ["last", "time", "hues"] (spP qdc) :=
 okP (k:=2) (b:=qhq) F qk9 rfl fun cdv A outer s H E hr=>⟨_,(@qae _ _ _ _ _ (qc7 (PW.pt (qvj (qbe (op_notNU) (pv 0) qvt (qbl _)) (qqb (qc8 (PW.pt (qvj (qcd (K:=K) rfl (qa3 c_is_from hr (by decide) rfl (@qaa _ _ _ _ _ (pv 0) (@qaa _ _ _ _ _ (qnc qg8 qaf) qac (by rfl)) (by rfl))) (fun _=>rfl)) (qqb (qbe (op_lt) (pv 0) (pv 2) (qbl _))))))))) (@qag _ _ _ qdr) qbf)
  (@qag _ _ _ (qc7 (qc8 (qcd (K:=K) rfl (qa3 c_is_from hr (by decide) rfl (@qaa _ _ _ _ _ (pv 1) (@qaa _ _ _ _ _ qaf qac (by rfl)) (by rfl))) (fun _=>rfl))) (@qag _ _ _ qdr) qbf))),
  by first | infer_instance | (repeat' first | infer_instance | refine @Mi.instSemSTSeqDSeq _ _ _ _ _ ?_ ?_)⟩
abbrev qb9:Stmt:=top 43
abbrev qgr:MS:=(dSeq (qh9 (dT (qay pGt (qaq qn7 (qad (qap 0) qav)) (dC (.int 10)))) qe0 qd8)
  (dSeq (qq1 2 dNewK)
  (qxc (qfg (qat 0)) (qa4 3) (dSeq (qh9 (qjg (qk3 (qaq qew (qad (qat 3) (qad (qat 1) qav))))) qe0 qd8)
  (dSeq (qh9 (dT (dDIn (qaq qcu (qad (qat 3) qav)) (qap 2))) qe0 qd8)
  (dPut 2 (qaq qcu (qad (qat 3) qav)) (dC (.bl true))))))))
def qcx:List PV->Option PV:=dFn 4 2 qgr
theorem sc_check_cloths:qar ["cloths", "hues", "seen", "cloth"] ["cloths", "hues"] (qab qb9):=⟨rfl,rfl,rfl,by decide +kernel,rfl,by decide +kernel,by decide +kernel⟩
theorem qj7 {P:Program} {w:World} {K:PySem.W.Frag} {mg:Str->Option Value} {base:Heap} {f:Addr} {fd:FuncData} (F:Fun K "check_cloths" "check_cloths" qb9 f fd) (c_is_cloth:Fn P w K mg base 3 "is_cloth" ["thing", "hues"] (spP qew)) (c_name_of:Fn P w K mg base 1 "name_of" ["cloth"] (spP qcu)) (m_len:mg "len"=none) {t_MOST_CLOTHS:Tok} (g_MOST_CLOTHS:mg "MOST_CLOTHS"=some (.int 10 t_MOST_CLOTHS)):FnOk P w K mg base CX0 4 f fd ["cloths", "hues"] (spP qcx) :=
 okP (k:=3) (b:=qgr) F sc_check_cloths rfl fun cdv A outer s H E hr=>⟨_,(@qae _ _ _ _ _ (qc7 (qbe (op_gt) (qa1 (qb3 (K:=K) rfl) rfl m_len PySem.boot_len (@qaa _ _ _ _ _ (pv 0) qac (by rfl))) (qne (v:= .int 10) rfl g_MOST_CLOTHS ⟨_,rfl⟩) (qbl _)) (@qag _ _ _ qdr) qbf)
  (@qae _ _ _ _ _ (@qaz _ _ 2 _ _ _ _ sc_check_cloths.nd rfl (Or.inl rfl) qrv (by rfl) (.inl rfl))
  (@qag _ _ _ (qeq PassesOwn.never rfl (@qbg _ K _ _ _ rfl (pv 0)) (qa2 (i:=3) sc_check_cloths.nd rfl (Or.inl rfl))
   (@qae _ _ _ _ _ (qc7 (qc8 (qcd (K:=K) rfl (qa3 c_is_cloth hr (by decide) rfl (@qaa _ _ _ _ _ (pv 3) (@qaa _ _ _ _ _ (pv 1) qac (by rfl)) (by rfl))) (fun _=>rfl))) (@qag _ _ _ qdr) qbf)
  (@qae _ _ _ _ _ (qc7 (pt_cmp (pc_din (qqt hr) (qa3 c_name_of hr (by decide) rfl (@qaa _ _ _ _ _ (pv 3) qac (by rfl))) (pv 2))) (@qag _ _ _ qdr) qbf)
  (@qag _ _ _ (qvm (qqt hr) (pv 2) (qa3 c_name_of hr (by decide) rfl (@qaa _ _ _ _ _ (pv 3) qac (by rfl))) qj1 rfl)))))))),
  by first | infer_instance | (repeat' first | infer_instance | refine @Mi.instSemSTSeqDSeq _ _ _ _ _ ?_ ?_)⟩
abbrev qc1:Stmt:=qg3 (top 44) 1
abbrev qip (C_Works:Addr):MS:=(qeh (qay qqg (qaq qn7 (qad (qud C_Works "least" (qat 0)) qav)) (dC (.int 1))))
def qc3 (C_Works:Addr):List PV->Option PV:=dFn 1 1 (qip C_Works)
theorem qm0:qar ["self"] ["self"] (qab qc1):=⟨rfl,rfl,rfl,by decide +kernel,rfl,by decide +kernel,by decide +kernel⟩
theorem qnl {P:Program} {w:World} {K:PySem.W.Frag} {mg:Str->Option Value} {base:Heap} {f:Addr} {fd:FuncData} {C_Works:Addr} (F:Fun K "hues" "Works.hues" qc1 f fd) (m_len:mg "len"=none) [ClsI K C_Works] [NoA K C_Works "least"]:FnOk P w K mg base CX0 1 f fd ["self"] (spP (qc3 C_Works)) :=
 okP (k:=0) (b:=(qip C_Works)) F qm0 rfl fun cdv A outer s H E hr=>⟨_,(@qag _ _ _ (qa5 (qa8 (qfq) (qa1 (qb3 (K:=K) rfl) rfl m_len PySem.boot_len (@qaa _ _ _ _ _ (qgz (K:=K) rfl (pv 0) rfl) qac (by rfl))) qaf))),
  by first | infer_instance | (repeat' first | infer_instance | refine @Mi.instSemSTSeqDSeq _ _ _ _ _ ?_ ?_)⟩
abbrev qbh:Stmt:=qg3 (top 44) 4
abbrev qed (C_Works:Addr):MS:=(qeh (qay pIx (qay pIx (qud C_Works "least" (qat 0)) (qap 1)) (qap 2)))
def qbp (C_Works:Addr):List PV->Option PV:=dFn 3 3 (qed C_Works)
theorem qgt:qar ["self", "first", "then"] ["self", "first", "then"] (qab qbh):=⟨rfl,rfl,rfl,by decide +kernel,rfl,by decide +kernel,by decide +kernel⟩
theorem qg0 {P:Program} {w:World} {K:PySem.W.Frag} {mg:Str->Option Value} {base:Heap} {f:Addr} {fd:FuncData} {C_Works:Addr} (F:Fun K "tray_rinse" "Works.tray_rinse" qbh f fd) [ClsI K C_Works] [NoA K C_Works "least"]:FnOk P w K mg base CX0 1 f fd ["self", "first", "then"] (spP (qbp C_Works)) :=
 okP (k:=0) (b:=(qed C_Works)) F qgt rfl fun cdv A outer s H E hr=>⟨_,(@qag _ _ _ (qa5 (qbb (qao (K:=K) rfl) (qbb (qao (K:=K) rfl) (qgz (K:=K) rfl (pv 0) rfl) (pv 1) (fun _ _=>rfl)) (pv 2) (fun _ _=>rfl)))),
  by first | infer_instance | (repeat' first | infer_instance | refine @Mi.instSemSTSeqDSeq _ _ _ _ _ ?_ ?_)⟩
abbrev qco:Stmt:=qg3 (top 44) 3
abbrev qht (C_Works:Addr):MS:=(qeh (dIf (dT (qay pEq (qap 1) (qap 2))) (dC (.int 0)) (qgi C_Works "tray_rinse" (qbp C_Works) (qat 0) (qad (qat 1) (qad (qat 2) qav)))))
def qct (C_Works:Addr):List PV->Option PV:=dFn 3 3 (qht C_Works)
theorem qlc:qar ["self", "first", "then"] ["self", "first", "then"] (qab qco):=⟨rfl,rfl,rfl,by decide +kernel,rfl,by decide +kernel,by decide +kernel⟩
theorem qli {P:Program} {w:World} {K:PySem.W.Frag} {mg:Str->Option Value} {base:Heap} {f:Addr} {fd:FuncData} {C_Works:Addr} (F:Fun K "rinse" "Works.rinse" qco f fd) (t_Works_tray_rinse:Mt P w K mg base 1 C_Works "tray_rinse" ["self", "first", "then"] (spP (qbp C_Works))):FnOk P w K mg base CX0 2 f fd ["self", "first", "then"] (spP (qct C_Works)) :=
 okP (k:=1) (b:=(qht C_Works)) F qlc rfl fun cdv A outer s H E hr=>⟨_,(@qag _ _ _ (qa5 (qi4 (qbe (qik (K:=K) (hu6 hr) rfl) (pv 1) (pv 2) (qbl _)) qaf (qru t_Works_tray_rinse hr (by decide) (pv 0) (@qaa _ _ _ _ _ (pv 1) (@qaa _ _ _ _ _ (pv 2) qac (by rfl)) (by rfl)))))),
  by first | infer_instance | (repeat' first | infer_instance | refine @Mi.instSemSTSeqDSeq _ _ _ _ _ ?_ ?_)⟩
abbrev qcn:Stmt:=qg3 (top 44) 5
abbrev qhs (C_Works:Addr):MS:=(qeh (qpb (qad (qud C_Works "last" (qat 0)) (qad (qud C_Works "time" (qat 0)) qav))))
def qb0 (C_Works:Addr):List PV->Option PV:=dFn 1 1 (qhs C_Works)
theorem qlb:qar ["self"] ["self"] (qab qcn):=⟨rfl,rfl,rfl,by decide +kernel,rfl,by decide +kernel,by decide +kernel⟩
theorem qlh {P:Program} {w:World} {K:PySem.W.Frag} {mg:Str->Option Value} {base:Heap} {f:Addr} {fd:FuncData} {C_Works:Addr} (F:Fun K "start" "Works.start" qcn f fd) [ClsI K C_Works] [NoA K C_Works "last"] [NoA K C_Works "time"]:FnOk P w K mg base CX0 1 f fd ["self"] (spP (qb0 C_Works)) :=
 okP (k:=0) (b:=(qhs C_Works)) F qlb rfl fun cdv A outer s H E hr=>⟨_,(@qag _ _ _ (qa5 (@qgj _ _ _ _ _ (@qaa _ _ _ _ _ (qgz (K:=K) rfl (pv 0) rfl) (@qaa _ _ _ _ _ (qgz (K:=K) rfl (pv 0) rfl) qac (by rfl)) (by rfl))))),
  by first | infer_instance | (repeat' first | infer_instance | refine @Mi.instSemSTSeqDSeq _ _ _ _ _ ?_ ?_)⟩
abbrev qcp:Stmt:=qg3 (top 44) 6
abbrev qhu (C_Works:Addr):MS:=(qeh (qaq qvv (qad (qud C_Works "held" (qat 0)) qav)))
def qdd (C_Works:Addr):List PV->Option PV:=quc 1 1 (qhu C_Works)
theorem qld:qar ["self"] ["self"] (qab qcp):=⟨rfl,rfl,rfl,by decide +kernel,rfl,by decide +kernel,by decide +kernel⟩
theorem qlj {P:Program} {w:World} {K:PySem.W.Frag} {mg:Str->Option Value} {base:Heap} {f:Addr} {fd:FuncData} {C_Works:Addr} (F:Fun K "names" "Works.names" qcp f fd) (m_sorted:mg "sorted"=none) [ClsI K C_Works] [NoA K C_Works "held"]:FnOk P w K mg base CX0 1 f fd ["self"] (spO (qdd C_Works)) :=
 okO (k:=0) (b:=(qhu C_Works)) F qld rfl fun cdv A outer s H E hr=>⟨_,(@qag _ _ _ (qa5 (qa1 (qt2 (K:=K) rfl rfl) rfl m_sorted qpj (@qaa _ _ _ _ _ (qgz (K:=K) rfl (pv 0) rfl) qac (by rfl))))),
  by first | infer_instance | (repeat' first | infer_instance | refine @Mi.instSemSTSeqDSeq _ _ _ _ _ ?_ ?_)⟩
abbrev qcq:Stmt:=qg3 (top 44) 7
abbrev qhv (C_Works:Addr):MS:=(dSeq (qh9 (dOr (qjg (qk3 (qaq qi5 (qad (qap 1) (qad (dC (.ty "str")) qav))))) (dT (qnu (qap 1) (qud C_Works "held" (qat 0))))) qe0 qd8)
  (qeh (qiz (qud C_Works "held" (qat 0)) (qap 1))))
def qbk (C_Works:Addr):List PV->Option PV:=dFn 2 2 (qhv C_Works)
theorem qle:qar ["self", "name"] ["self", "name"] (qab qcq):=⟨rfl,rfl,rfl,by decide +kernel,rfl,by decide +kernel,by decide +kernel⟩
theorem qlk {P:Program} {w:World} {K:PySem.W.Frag} {mg:Str->Option Value} {base:Heap} {f:Addr} {fd:FuncData} {C_Works:Addr} (F:Fun K "cloth" "Works.cloth" qcq f fd) (m_isinstance:mg "isinstance"=none) (m_str:mg "str"=none) [ClsI K C_Works] [NoA K C_Works "held"]:FnOk P w K mg base CX0 1 f fd ["self", "name"] (spP (qbk C_Works)) :=
 okP (k:=0) (b:=(qhv C_Works)) F qle rfl fun cdv A outer s H E hr=>⟨_,(@qae _ _ _ _ _ (qc7 (PW.pt (qjv (qc8 (qcd (K:=K) rfl (qa1 (qb4 (K:=K) rfl) rfl m_isinstance qa7 (@qaa _ _ _ _ _ (pv 1) (@qaa _ _ _ _ _ (qdw (v:= .ty "str") rfl m_str qpi rfl) qac (by rfl)) (by rfl))) (fun _=>rfl))) (qhd (pt_cmp (qvu (qqt hr) (pv 1) (qgz (K:=K) rfl (pv 0) rfl)))))) (@qag _ _ _ qdr) qbf)
  (@qag _ _ _ (qa5 (qqf (qqt hr) (qgz (K:=K) rfl (pv 0) rfl) (pv 1) (fun _ _=>rfl))))),
  by first | infer_instance | (repeat' first | infer_instance | refine @Mi.instSemSTSeqDSeq _ _ _ _ _ ?_ ?_)⟩
abbrev qdo:Stmt:=top 24
abbrev qkx (C_Works:Addr):MS:=(dSeq (qh9 (qjg (qk3 (qaq qi5 (qad (qap 1) (qad (dC (.ty "list")) qav))))) (qeh (dC (.bl false))) qd8)
  (dSeq (qdk 2 (qgi C_Works "names" (qdd C_Works) (qat 0) qav))
  (qeh (qia (qaq pAll (qad (qba [none,some 2] [0] (qfg (qat 1)) (qa4 0) qd7 (qay (pIn false) (qap 0) (qap 1))) qav)) (qay pEq (qxa (qap 1)) (qaq qn7 (qad (qap 1) qav)))))))
def qcz (C_Works:Addr):List PV->Option PV:=dFn 3 2 (qkx C_Works)
theorem sc_are_names:qar ["works", "names", "known"] ["works", "names"] (qab qdo):=⟨rfl,rfl,rfl,by decide +kernel,rfl,by decide +kernel,by decide +kernel⟩
theorem qor {P:Program} {w:World} {K:PySem.W.Frag} {mg:Str->Option Value} {base:Heap} {f:Addr} {fd:FuncData} {C_Works:Addr} (F:Fun K "are_names" "are_names" qdo f fd) (m_all:mg "all"=none) (m_isinstance:mg "isinstance"=none) (m_len:mg "len"=none) (m_list:mg "list"=none) (m_set:mg "set"=none) (t_Works_names:Mt P w K mg base 1 C_Works "names" ["self"] (spO (qdd C_Works))):FnOk P w K mg base CX0 2 f fd ["works", "names"] (spP (qcz C_Works)) :=
 okP (k:=1) (b:=(qkx C_Works)) F sc_are_names rfl fun cdv A outer s H E hr=>⟨_,(@qae _ _ _ _ _ (qc7 (qc8 (qcd (K:=K) rfl (qa1 (qb4 (K:=K) rfl) rfl m_isinstance qa7 (@qaa _ _ _ _ _ (pv 1) (@qaa _ _ _ _ _ (qdw (v:= .ty "list") rfl m_list qc5 rfl) qac (by rfl)) (by rfl))) (fun _=>rfl))) (@qag _ _ _ (qa5 qj1)) qbf)
  (@qae _ _ _ _ _ (@qaz _ _ 2 _ _ _ _ sc_are_names.nd rfl (Or.inr rfl) (qj0 t_Works_names hr (by decide) (pv 0)) (by rfl) (.inl rfl))
  (@qag _ _ _ (qa5 (qgl (qa1 (qfz (K:=K) rfl rfl) rfl m_all qf0 (@qaa _ _ _ _ _ (qbv (N':=["thing", "known"]) (cap:=[none,some 2]) (qci rfl rfl rfl) rfl (@qbg _ K _ _ _ rfl (pv 1)) (fun _ _ _ _ _ _=>(qa2 (i:=0) (by show (["thing", "known"]:List Str).Nodup;decide +kernel) rfl (Or.inl rfl))) (fun _ _ _ _ _ _=>qbm) (fun _ _ _ _ _ _=>(qh6 (ql5 (K:=K) rfl) (pv 0) (pv 1) (by with_unfolding_all rfl)))) qac (by rfl))) (qij (qh6 (qik (K:=K) (hu6 hr) rfl) (qa1 qph rfl m_len PySem.boot_len (@qaa _ _ _ _ _ (qeu (qxm (K:=K) rfl rfl) rfl m_set qxs (@qaa _ _ _ _ _ (pv 1) qac (by rfl))) qac (by rfl))) (qa1 (qb3 (K:=K) rfl) rfl m_len PySem.boot_len (@qaa _ _ _ _ _ (pv 1) qac (by rfl))) (qbl _)))))))),
  by first | infer_instance | (repeat' first | infer_instance | refine @Mi.instSemSTSeqDSeq _ _ _ _ _ ?_ ?_)⟩
abbrev qcm:Stmt:=top 25
abbrev qhr (C_Works:Addr):MS:=(qh9 (qjg (qk3 (qaq (qcz C_Works) (qad (qat 0) (qad (qat 1) qav))))) qe0 qd8)
def qbz (C_Works:Addr):List PV->Option PV:=dFn 2 2 (qhr C_Works)
theorem qla:qar ["works", "names"] ["works", "names"] (qab qcm):=⟨rfl,rfl,rfl,by decide +kernel,rfl,by decide +kernel,by decide +kernel⟩
theorem qlg {P:Program} {w:World} {K:PySem.W.Frag} {mg:Str->Option Value} {base:Heap} {f:Addr} {fd:FuncData} {C_Works:Addr} (F:Fun K "check_names" "check_names" qcm f fd) (c_are_names:Fn P w K mg base 2 "are_names" ["works", "names"] (spP (qcz C_Works))):FnOk P w K mg base CX0 3 f fd ["works", "names"] (spP (qbz C_Works)) :=
 okP (k:=2) (b:=(qhr C_Works)) F qla rfl fun cdv A outer s H E hr=>⟨_,(@qag _ _ _ (qc7 (qc8 (qcd (K:=K) rfl (qa3 c_are_names hr (by decide) rfl (@qaa _ _ _ _ _ (pv 0) (@qaa _ _ _ _ _ (pv 1) qac (by rfl)) (by rfl))) (fun _=>rfl))) (@qag _ _ _ qdr) qbf)),
  by first | infer_instance | (repeat' first | infer_instance | refine @Mi.instSemSTSeqDSeq _ _ _ _ _ ?_ ?_)⟩
abbrev qdn:Stmt:=top 26
abbrev qkw (C_Works:Addr):MS:=(dSeq (qnt (qaq (qbz C_Works) (qad (qat 0) (qad (qat 1) qav))))
  (dSeq (qdk 2 (qgi C_Works "start" (qb0 C_Works) (qat 0) qav))
  (dSeq (qdk 3 (qay pIx (qap 2) (dC (.int 0))))
  (dSeq (qdk 4 (qay pIx (qap 2) (dC (.int 1))))
  (dSeq (qq1 5 (qff qav))
  (dSeq (qxc (qfg (qat 1)) (qa4 6) (dSeq (qdk 7 (qgi C_Works "cloth" (qbk C_Works) (qat 0) (qad (qat 6) qav)))
  (dSeq (qdk 8 (qay qd5 (qap 4) (qgi C_Works "rinse" (qct C_Works) (qat 0) (qad (qat 3) (qad (qaq qcs (qad (qat 7) qav)) qav)))))
  (dSeq (qdk 4 (qay qd5 (qap 8) (qaq qcy (qad (qat 7) qav))))
  (dSeq (qdk 3 (qaq qcs (qad (qat 7) qav)))
  (qfx 5 (qpb (qad (qat 6) (qad (qat 8) (qad (qat 4) qav))))))))))
  (qeh (oVar 5))))))))
def qbs (C_Works:Addr):List PV->Option PV:=quc 9 2 (qkw C_Works)
theorem sc_done_rows:qar ["works", "names", "start", "last", "time", "rows", "name", "cloth", "begin"] ["works", "names"] (qab qdn):=⟨rfl,rfl,rfl,by decide +kernel,rfl,by decide +kernel,by decide +kernel⟩
theorem qoq {P:Program} {w:World} {K:PySem.W.Frag} {mg:Str->Option Value} {base:Heap} {f:Addr} {fd:FuncData} {C_Works:Addr} (F:Fun K "done_rows" "done_rows" qdn f fd) (c_check_names:Fn P w K mg base 3 "check_names" ["works", "names"] (spP (qbz C_Works))) (c_hue_of:Fn P w K mg base 1 "hue_of" ["cloth"] (spP qcs)) (c_length_of:Fn P w K mg base 1 "length_of" ["cloth"] (spP qcy)) (t_Works_cloth:Mt P w K mg base 1 C_Works "cloth" ["self", "name"] (spP (qbk C_Works))) (t_Works_rinse:Mt P w K mg base 2 C_Works "rinse" ["self", "first", "then"] (spP (qct C_Works))) (t_Works_start:Mt P w K mg base 1 C_Works "start" ["self"] (spP (qb0 C_Works))):FnOk P w K mg base CX0 4 f fd ["works", "names"] (spO (qbs C_Works)) :=
 okO (k:=3) (b:=(qkw C_Works)) F sc_done_rows rfl fun cdv A outer s H E hr=>⟨_,(@qae _ _ _ _ _ (qc9 (qa3 c_check_names hr (by decide) rfl (@qaa _ _ _ _ _ (pv 0) (@qaa _ _ _ _ _ (pv 1) qac (by rfl)) (by rfl))))
  (@qae _ _ _ _ _ (@qaz _ _ 2 _ _ _ _ sc_done_rows.nd rfl (Or.inl rfl) (qj0 t_Works_start hr (by decide) (pv 0)) (by rfl) (.inl rfl))
  (@qae _ _ _ _ _ (@qaz _ _ 3 _ _ _ _ sc_done_rows.nd rfl (Or.inl rfl) (qbb (qao (K:=K) rfl) (pv 2) qaf (fun _ _=>rfl)) (by rfl) (.inl rfl))
  (@qae _ _ _ _ _ (@qaz _ _ 4 _ _ _ _ sc_done_rows.nd rfl (Or.inl rfl) (qbb (qao (K:=K) rfl) (pv 2) qaf (fun _ _=>rfl)) (by rfl) (.inl rfl))
  (@qae _ _ _ _ _ (@qaz _ _ 5 _ _ _ _ sc_done_rows.nd rfl (Or.inl rfl) (@qbx _ _ _ _ qac) (by rfl) (.inl rfl))
  (@qae _ _ _ _ _ (qeq PassesOwn.never rfl (@qbg _ K _ _ _ rfl (pv 1)) (qa2 (i:=6) sc_done_rows.nd rfl (Or.inl rfl))
   (@qae _ _ _ _ _ (@qaz _ _ 7 _ _ _ _ sc_done_rows.nd rfl (Or.inl rfl) (qru t_Works_cloth hr (by decide) (pv 0) (@qaa _ _ _ _ _ (pv 6) qac (by rfl))) (by rfl) (.inl rfl))
  (@qae _ _ _ _ _ (@qaz _ _ 8 _ _ _ _ sc_done_rows.nd rfl (Or.inl rfl) (qa8 (qbj (K:=K) rfl) (pv 4) (qru t_Works_rinse hr (by decide) (pv 0) (@qaa _ _ _ _ _ (pv 3) (@qaa _ _ _ _ _ (qa3 c_hue_of hr (by decide) rfl (@qaa _ _ _ _ _ (pv 7) qac (by rfl))) qac (by rfl)) (by rfl)))) (by rfl) (.inl rfl))
  (@qae _ _ _ _ _ (@qaz _ _ 4 _ _ _ _ sc_done_rows.nd rfl (Or.inl rfl) (qa8 (qbj (K:=K) rfl) (pv 8) (qa3 c_length_of hr (by decide) rfl (@qaa _ _ _ _ _ (pv 7) qac (by rfl)))) (by rfl) (.inl rfl))
  (@qae _ _ _ _ _ (@qaz _ _ 3 _ _ _ _ sc_done_rows.nd rfl (Or.inl rfl) (qa3 c_hue_of hr (by decide) rfl (@qaa _ _ _ _ _ (pv 7) qac (by rfl))) (by rfl) (.inl rfl))
  (@qag _ _ _ (qc9 (qgk (K:=K) rfl PySem.F.plainAttrs_list PySem.F.slot_list_append PySem.F.type_list_append qdb (pv 5) (qaa (@qgj _ _ _ _ _ (@qaa _ _ _ _ _ (pv 6) (@qaa _ _ _ _ _ (pv 8) (@qaa _ _ _ _ _ (pv 4) qac (by rfl)) (by rfl)) (by rfl))) qac)))))))))
  (@qag _ _ _ (qa5 (pv 5))))))))),
  by first | infer_instance | (repeat' first | infer_instance | refine @Mi.instSemSTSeqDSeq _ _ _ _ _ ?_ ?_)⟩

abbrev qf8:Stmt:=top 27
abbrev qsl (C_Works:Addr):MS:=(dSeq (qdk 2 (qaq (qbs C_Works) (qad (qat 0) (qad (qat 1) qav))))
  (qeh (dIf (qk3 (qap 2)) (qay pIx (qay pIx (qap 2) (dUn pNeg (dC (.int 1)))) (dC (.int 2))) (qay pIx (qgi C_Works "start" (qb0 C_Works) (qat 0) qav) (dC (.int 1))))))
def qhj (C_Works:Addr):List PV->Option PV:=dFn 3 2 (qsl C_Works)
theorem sc_end_of:qar ["works", "names", "rows"] ["works", "names"] (qab qf8):=⟨rfl,rfl,rfl,by decide +kernel,rfl,by decide +kernel,by decide +kernel⟩
theorem qv5 {P:Program} {w:World} {K:PySem.W.Frag} {mg:Str->Option Value} {base:Heap} {f:Addr} {fd:FuncData} {C_Works:Addr} (F:Fun K "end_of" "end_of" qf8 f fd) (c_done_rows:Fn P w K mg base 4 "done_rows" ["works", "names"] (spO (qbs C_Works))) (t_Works_start:Mt P w K mg base 1 C_Works "start" ["self"] (spP (qb0 C_Works))):FnOk P w K mg base CX0 5 f fd ["works", "names"] (spP (qhj C_Works)) :=
 okP (k:=4) (b:=(qsl C_Works)) F sc_end_of rfl fun cdv A outer s H E hr=>⟨_,(@qae _ _ _ _ _ (@qaz _ _ 2 _ _ _ _ sc_end_of.nd rfl (Or.inl rfl) (qa3 c_done_rows hr (by decide) rfl (@qaa _ _ _ _ _ (pv 0) (@qaa _ _ _ _ _ (pv 1) qac (by rfl)) (by rfl))) (by rfl) (.inl rfl))
  (@qag _ _ _ (qa5 (qi4 (qcd (K:=K) rfl (pv 2) (fun _=>rfl)) (qbb (qao (K:=K) rfl) (qbb (qao (K:=K) rfl) (pv 2) (qnc qg8 qaf) (fun _ _=>rfl)) qaf (fun _ _=>rfl)) (qbb (qao (K:=K) rfl) (qj0 t_Works_start hr (by decide) (pv 0)) qaf (fun _ _=>rfl)))))),
  by first | infer_instance | (repeat' first | infer_instance | refine @Mi.instSemSTSeqDSeq _ _ _ _ _ ?_ ?_)⟩

end Lw
namespace Lw
open PySem L2 Mi
abbrev qbo:Stmt:=qg3 (top 44) 0
abbrev qee (C_Works:Addr):MS:=(dSeq (qgm C_Works "least" (qaq qcv (qad (qat 1) qav)))
  (dSeq (qnt (qaq qdc (qad (qat 3) (qad (qat 4) (qad (qmd C_Works "hues" (qc3 C_Works) 0 qav) qav)))))
  (dSeq (qnt (qaq qcx (qad (qat 2) (qad (qmd C_Works "hues" (qc3 C_Works) 0 qav) qav))))
  (dSeq (qgm C_Works "given" (qba [none] [0] (qfg (qat 1)) (qa4 0) qd7 (qaq qe7 (qad (qap 0) qav))))
  (dSeq (qgm C_Works "held" (qaq qng (qad (qba [none] [0] (qfg (qat 2)) (qa4 0) qd7 (qpb (qad (qaq qcu (qad (qat 0) qav)) (qad (qat 0) qav)))) qav)))
  (dSeq (qgm C_Works "last" (dIf (dT (qay pIsN (qap 3) (dC .non))) (dUn pNeg (dC (.int 1))) (qat 3)))
  (qgm C_Works "time" (qat 4))))))))
def qc2 (C_Works:Addr):List PV->Option PV:=qxb 5 5 C_Works (qee C_Works)
theorem qmz:qar ["self", "rinses", "cloths", "last", "time"] ["self", "rinses", "cloths", "last", "time"] (qab qbo):=⟨rfl,rfl,rfl,by decide +kernel,rfl,by decide +kernel,by decide +kernel⟩
theorem qnk {P:Program} {w:World} {K:PySem.W.Frag} {mg:Str->Option Value} {base:Heap} {f:Addr} {fd:FuncData} {C_Works:Addr} (F:FunD K "__init__" "Works.__init__" qbo f fd) (c_check_cloths:Fn P w K mg base 4 "check_cloths" ["cloths", "hues"] (spP qcx)) (c_check_start:Fn P w K mg base 3 "check_start" ["last", "time", "hues"] (spP qdc)) (c_least_rinses:Fn P w K mg base 4 "least_rinses" ["rinses"] (spO qcv)) (c_name_of:Fn P w K mg base 1 "name_of" ["cloth"] (spP qcu)) (m_dict:mg "dict"=none) (m_list:mg "list"=none) [ClsI K C_Works] [NoA K C_Works "given"] [NoA K C_Works "held"] [NoA K C_Works "last"] [NoA K C_Works "least"] [NoA K C_Works "time"] (t_Works_hues:Mt P w K mg base 1 C_Works "hues" ["self"] (spP (qc3 C_Works))):FnOk P w K mg base CX0 5 f fd ["self", "rinses", "cloths", "last", "time"] (spI C_Works (qc2 C_Works)) :=
 okID (k:=4) (b:=qee C_Works) F qmz rfl (fun cdv A outer s H E hr=>⟨_,(@qae _ _ _ _ _ (qjw (K:=K) rfl (pv 0) (qa3 c_least_rinses hr (by decide) rfl (@qaa _ _ _ _ _ (pv 1) qac (by rfl))))
  (@qae _ _ _ _ _ (qc9 (qa3 c_check_start hr (by decide) rfl (@qaa _ _ _ _ _ (pv 3) (@qaa _ _ _ _ _ (pv 4) (@qaa _ _ _ _ _ (qj0 t_Works_hues hr (by decide) (pv 0)) qac (by rfl)) (by rfl)) (by rfl))))
  (@qae _ _ _ _ _ (qc9 (qa3 c_check_cloths hr (by decide) rfl (@qaa _ _ _ _ _ (pv 2) (@qaa _ _ _ _ _ (qj0 t_Works_hues hr (by decide) (pv 0)) qac (by rfl)) (by rfl))))
  (@qae _ _ _ _ _ (qjw (K:=K) rfl (pv 0) (qbv (N':=["row"]) (cap:=[none]) (qci rfl rfl rfl) rfl (@qbg _ K _ _ _ rfl (pv 1)) (fun _ _ _ _ _ _=>(qa2 (i:=0) (by show (["row"]:List Str).Nodup;decide +kernel) rfl (Or.inl rfl))) (fun _ _ _ _ _ _=>qbm) (fun _ _ _ _ _ _=>(qeu (qdy (K:=K) rfl) rfl m_list qc5 (@qaa _ _ _ _ _ (pv 0) qac (by rfl))))))
  (@qae _ _ _ _ _ (qjw (K:=K) rfl (pv 0) (qeu (qt4 (K:=K) rfl rfl) rfl m_dict qt5 (@qaa _ _ _ _ _ (qbv (N':=["cloth"]) (cap:=[none]) (qci rfl rfl rfl) rfl (@qbg _ K _ _ _ rfl (pv 2)) (fun _ _ _ _ _ _=>(qa2 (i:=0) (by show (["cloth"]:List Str).Nodup;decide +kernel) rfl (Or.inl rfl))) (fun _ _ _ _ _ _=>qbm) (fun _ _ _ _ _ _=>(@qgj _ _ _ _ _ (@qaa _ _ _ _ _ (qa3 c_name_of hr (by decide) rfl (@qaa _ _ _ _ _ (pv 0) qac (by rfl))) (@qaa _ _ _ _ _ (pv 0) qac (by rfl)) (by rfl))))) qac (by rfl))))
  (@qae _ _ _ _ _ (qjw (K:=K) rfl (pv 0) (qi4 (qbe (op_isNU) (pv 3) qvt (qbl _)) (qnc qg8 qaf) (pv 3)))
  (@qag _ _ _ (qjw (K:=K) rfl (pv 0) (pv 4))))))))),
  (by repeat' first | infer_instance | (refine @Mi.qsy _ _ _ _ ?_ ?_))⟩)
end Lw
namespace Lw
open PySem L2 Mi
abbrev qh0:Stmt:=top 55
abbrev qxv:MS:=(qeh (qia (qaq qi5 (qad (qap 0) (qad (dC (.ty "int")) qav))) (qw9 (qaq qi5 (qad (qap 0) (qad (dC (.ty "bool")) qav))))))
def qfr:List PV->Option PV:=dFn 1 1 qxv
theorem sc_whole:qar ["found"] ["found"] (qab qh0):=⟨rfl,rfl,rfl,by decide +kernel,rfl,by decide +kernel,by decide +kernel⟩
theorem ok_whole {P:Program} {w:World} {K:PySem.W.Frag} {mg:Str->Option Value} {base:Heap} {f:Addr} {fd:FuncData} (F:Fun K "_law_whole" "_law_whole" qh0 f fd) (m_bool:mg "bool"=none) (m_int:mg "int"=none) (m_isinstance:mg "isinstance"=none):FnOk P w K mg base CX0 1 f fd ["found"] (spP qfr) :=
 okP (k:=0) (b:=qxv) F sc_whole rfl fun cdv A outer s H E hr=>⟨_,(@qag _ _ _ (qa5 (qgl (qa1 (qb4 (K:=K) rfl) rfl m_isinstance qa7 (@qaa _ _ _ _ _ (pv 0) (@qaa _ _ _ _ _ (qdw (v:= .ty "int") rfl m_int qpl rfl) qac (by rfl)) (by rfl))) (qij (pe_not (qa1 (qb4 (K:=K) rfl) rfl m_isinstance qa7 (@qaa _ _ _ _ _ (pv 0) (@qaa _ _ _ _ _ (qdw (v:= .ty "bool") rfl m_bool qmg rfl) qac (by rfl)) (by rfl)))))))),
  by first | infer_instance | (repeat' first | infer_instance | refine @Mi.instSemSTSeqDSeq _ _ _ _ _ ?_ ?_)⟩
abbrev qls:Stmt:=top 56
abbrev b_sums:MS:=(dSeq (qdk 1 (qay qqg (qaq qn7 (qad (qap 0) qav)) (dC (.int 1))))
  (dSeq (qdk 2 (qba [none] [0] (qfg (qat 0)) (qa4 0) qd7 (qaq qe7 (qad (qap 0) qav))))
  (dSeq (qxc (qd9 (qad (qat 1) qav)) (qa4 3) (qdk 2 (qba [none,some 1,some 0] [0] (qfg (qat 2)) (qa4 0) qd7 (qba [none,some 0,some 1,some 2] [0] (qd9 (qad (qat 1) qav)) (qa4 0) qd7 (qaq qs9 (qad (qay qd5 (qff (qad (qay pIx (qap 1) (qap 0)) qav)) (qba [none,some 1,some 3,some 0] [0] (qd9 (qad (qat 2) qav)) (qa4 0) qd7 (qay qd5 (qay pIx (qap 1) (qap 0)) (qay pIx (qay pIx (qap 2) (qap 0)) (qap 3))))) qav))))))
  (qeh (qat 2)))))
def qot:List PV->Option PV:=dFn 4 1 b_sums
theorem sc_sums:qar ["rinses", "hues", "found", "turn"] ["rinses"] (qab qls):=⟨rfl,rfl,rfl,by decide +kernel,rfl,by decide +kernel,by decide +kernel⟩
theorem ok_sums {P:Program} {w:World} {K:PySem.W.Frag} {mg:Str->Option Value} {base:Heap} {f:Addr} {fd:FuncData} (F:Fun K "_law_sums" "_law_sums" qls f fd) (m_len:mg "len"=none) (m_list:mg "list"=none) (m_min:mg "min"=none) (m_range:mg "range"=none):FnOk P w K mg base CX0 1 f fd ["rinses"] (spP qot) :=
 okP (k:=0) (b:=b_sums) F sc_sums rfl fun cdv A outer s H E hr=>⟨_,(@qae _ _ _ _ _ (@qaz _ _ 1 _ _ _ _ sc_sums.nd rfl (Or.inr rfl) (qa8 (qfq) (qa1 (qb3 (K:=K) rfl) rfl m_len PySem.boot_len (@qaa _ _ _ _ _ (pv 0) qac (by rfl))) qaf) (by rfl) (.inl rfl))
  (@qae _ _ _ _ _ (qqc (i:=2) (N':=["row"]) (cap:=[none]) (qci rfl rfl rfl) rfl sc_sums.nd rfl rfl (@qbg _ K _ _ _ rfl (pv 0)) (fun _ _ _ _ _ _=>(qa2 (i:=0) (by show (["row"]:List Str).Nodup;decide +kernel) rfl (Or.inl rfl))) (fun _ _ _ _ _ _=>qbm) (fun _ _ _ _ _ _=>(qeu (qdy (K:=K) rfl) rfl m_list qc5 (@qaa _ _ _ _ _ (pv 0) qac (by rfl)))))
  (@qae _ _ _ _ _ (qeq PassesOwn.never rfl (qda rfl m_range (@qaa _ _ _ _ _ (pv 1) qac (by rfl))) (qa2 (i:=3) sc_sums.nd rfl (Or.inl rfl))
   (@qag _ _ _ (ps_setCC (i:=2) (N':=["row", "hues", "rinses"]) (cap:=[none,some 1,some 0]) (qxi rfl rfl rfl) rfl sc_sums.nd rfl rfl (@qbg _ K _ _ _ rfl (pv 2)) (fun _ _ _ _ _ _=>(qa2 (i:=0) (by show (["row", "hues", "rinses"]:List Str).Nodup;decide +kernel) rfl (Or.inr rfl))) (fun _ _ _ _ _ _=>qbm) (fun _ _ _ _ _ _=>(pe_compC (N':=["last", "row", "hues", "rinses"]) (cap:=[none,some 0,some 1,some 2]) (qxi rfl rfl rfl) rfl (qda rfl m_range (@qaa _ _ _ _ _ (pv 1) qac (by rfl))) (fun _ _ _ _ _ _=>(qa2 (i:=0) (by show (["last", "row", "hues", "rinses"]:List Str).Nodup;decide +kernel) rfl (Or.inr rfl))) (fun _ _ _ _ _ _=>qbm) (fun _ _ _ _ _ _=>(qa1 (qxn (K:=K) rfl rfl) rfl m_min qpk (@qaa _ _ _ _ _ (qa8 (qbj (K:=K) rfl) (@qbx _ _ _ _ (@qaa _ _ _ _ _ (qbb (qao (K:=K) rfl) (pv 1) (pv 0) (fun _ _=>rfl)) qac (by rfl))) (qbv (N':=["amid", "row", "rinses", "last"]) (cap:=[none,some 1,some 3,some 0]) (qci rfl rfl rfl) rfl (qda rfl m_range (@qaa _ _ _ _ _ (pv 2) qac (by rfl))) (fun _ _ _ _ _ _=>(qa2 (i:=0) (by show (["amid", "row", "rinses", "last"]:List Str).Nodup;decide +kernel) rfl (Or.inl rfl))) (fun _ _ _ _ _ _=>qbm) (fun _ _ _ _ _ _=>(qa8 (qbj (K:=K) rfl) (qbb (qao (K:=K) rfl) (pv 1) (pv 0) (fun _ _=>rfl)) (qbb (qao (K:=K) rfl) (qbb (qao (K:=K) rfl) (pv 2) (pv 0) (fun _ _=>rfl)) (pv 3) (fun _ _=>rfl)))))) qac (by rfl)))))))))
  (@qag _ _ _ (qa5 (pv 2)))))),
  by first | infer_instance | (repeat' first | infer_instance | refine @Mi.instSemSTSeqDSeq _ _ _ _ _ ?_ ?_)⟩
abbrev qlu:Stmt:=top 57
abbrev b_rows:MS:=(dSeq (dAsg (mTup 4 (qfb (qa4 2) (qfb (qa4 3) (qfb (qa4 4) (qfb (qa4 5) mNil))))) (qat 0))
  (dSeq (qdk 6 (qaq qot (qad (qat 2) qav)))
  (dSeq (qq1 7 (qff qav))
  (dSeq (qxc (qfg (qat 1)) (qa4 8) (dSeq (qdk 9 (qay pIx (qba [none,some 8] [0] (qfg (qat 3)) (qa4 0) (dT (qay pEq (qay pIx (qap 0) (dC (.int 0))) (qap 1))) (qat 0)) (dC (.int 0))))
  (dSeq (qdk 10 (qat 5))
  (dSeq (qh9 (dT (qay pNe (qay pIx (qap 9) (dC (.int 1))) (qap 4))) (qdk 10 (qay qd5 (qap 5) (qay pIx (qay pIx (qap 6) (qap 4)) (qay pIx (qap 9) (dC (.int 1)))))) qd8)
  (dSeq (qdk 5 (qay qd5 (qap 10) (qay pIx (qap 9) (dC (.int 2)))))
  (dSeq (qdk 4 (qay pIx (qap 9) (dC (.int 1))))
  (qfx 7 (qpb (qad (qat 8) (qad (qat 10) (qad (qat 5) qav)))))))))))
  (qeh (oVar 7))))))
def qou:List PV->Option PV:=quc 11 2 b_rows
theorem sc_rows:qar ["works", "names", "rinses", "cloths", "last", "time", "sums", "rows", "name", "cloth", "begin"] ["works", "names"] (qab qlu):=⟨rfl,rfl,rfl,by decide +kernel,rfl,by decide +kernel,by decide +kernel⟩
theorem ok_rows {P:Program} {w:World} {K:PySem.W.Frag} {mg:Str->Option Value} {base:Heap} {f:Addr} {fd:FuncData} (F:Fun K "_law_rows" "_law_rows" qlu f fd) (c_sums:Fn P w K mg base 1 "_law_sums" ["rinses"] (spP qot)):FnOk P w K mg base CX0 2 f fd ["works", "names"] (spO qou) :=
 okO (k:=1) (b:=b_rows) F sc_rows rfl fun cdv A outer s H E hr=>⟨_,(@qae _ _ _ _ _ (ps_asg (pv 0) (qnb (K:=K) (n:=4) rfl rfl (qds (qa2 (i:=2) sc_rows.nd rfl (Or.inl rfl)) (qds (qa2 (i:=3) sc_rows.nd rfl (Or.inl rfl)) (qds (qa2 (i:=4) sc_rows.nd rfl (Or.inl rfl)) (qds (qa2 (i:=5) sc_rows.nd rfl (Or.inl rfl)) qna))))))
  (@qae _ _ _ _ _ (@qaz _ _ 6 _ _ _ _ sc_rows.nd rfl (Or.inl rfl) (qa3 c_sums hr (by decide) rfl (@qaa _ _ _ _ _ (pv 2) qac (by rfl))) (by rfl) (.inl rfl))
  (@qae _ _ _ _ _ (@qaz _ _ 7 _ _ _ _ sc_rows.nd rfl (Or.inl rfl) (@qbx _ _ _ _ qac) (by rfl) (.inl rfl))
  (@qae _ _ _ _ _ (qeq PassesOwn.never rfl (@qbg _ K _ _ _ rfl (pv 1)) (qa2 (i:=8) sc_rows.nd rfl (Or.inr rfl))
   (@qae _ _ _ _ _ (@qaz _ _ 9 _ _ _ _ sc_rows.nd rfl (Or.inl rfl) (qbb (qao (K:=K) rfl) (qbv (N':=["one", "name"]) (cap:=[none,some 8]) (qci rfl rfl rfl) rfl (@qbg _ K _ _ _ rfl (pv 3)) (fun _ _ _ _ _ _=>(qa2 (i:=0) (by show (["one", "name"]:List Str).Nodup;decide +kernel) rfl (Or.inl rfl))) (fun _ _ _ _ _ _=>(qvl (qbe (qik (K:=K) (hu6 hr) rfl) (qbb (qao (K:=K) rfl) (pv 0) qaf (fun _ _=>rfl)) (pv 1) (qbl _)))) (fun _ _ _ _ _ _=>(pv 0))) qaf (fun _ _=>rfl)) (by rfl) (.inl rfl))
  (@qae _ _ _ _ _ (@qaz _ _ 10 _ _ _ _ sc_rows.nd rfl (Or.inl rfl) (pv 5) (by rfl) (.inl rfl))
  (@qae _ _ _ _ _ (qc7 (qbe (qfe (K:=K) (hu6 hr) rfl) (qbb (qao (K:=K) rfl) (pv 9) qaf (fun _ _=>rfl)) (pv 4) (qbl _)) (@qag _ _ _ (@qaz _ _ 10 _ _ _ _ sc_rows.nd rfl (Or.inl rfl) (qa8 (qbj (K:=K) rfl) (pv 5) (qbb (qao (K:=K) rfl) (qbb (qao (K:=K) rfl) (pv 6) (pv 4) (fun _ _=>rfl)) (qbb (qao (K:=K) rfl) (pv 9) qaf (fun _ _=>rfl)) (fun _ _=>rfl))) (by rfl) (.inl rfl))) qbf)
  (@qae _ _ _ _ _ (@qaz _ _ 5 _ _ _ _ sc_rows.nd rfl (Or.inl rfl) (qa8 (qbj (K:=K) rfl) (pv 10) (qbb (qao (K:=K) rfl) (pv 9) qaf (fun _ _=>rfl))) (by rfl) (.inl rfl))
  (@qae _ _ _ _ _ (@qaz _ _ 4 _ _ _ _ sc_rows.nd rfl (Or.inl rfl) (qbb (qao (K:=K) rfl) (pv 9) qaf (fun _ _=>rfl)) (by rfl) (.inl rfl))
  (@qag _ _ _ (qc9 (qgk (K:=K) rfl PySem.F.plainAttrs_list PySem.F.slot_list_append PySem.F.type_list_append qdb (pv 7) (qaa (@qgj _ _ _ _ _ (@qaa _ _ _ _ _ (pv 8) (@qaa _ _ _ _ _ (pv 10) (@qaa _ _ _ _ _ (pv 5) qac (by rfl)) (by rfl)) (by rfl))) qac))))))))))
  (@qag _ _ _ (qa5 (pv 7))))))),
  by first | infer_instance | (repeat' first | infer_instance | refine @Mi.instSemSTSeqDSeq _ _ _ _ _ ?_ ?_)⟩
abbrev qlt:Stmt:=top 59
abbrev b_runs:MS:=(dSeq (qq1 2 dNewK)
  (dSeq (qxc (qfg (qay pIx (qap 0) (dC (.int 1)))) (qa4 3) (dPut 2 (qay pIx (qap 3) (dC (.int 0))) (qay pIx (qap 3) (dC (.int 1)))))
  (dSeq (qdk 4 (qff qav))
  (dSeq (qxc (dEnum (qad (qat 1) qav)) (mTup 2 (qfb (qa4 5) (qfb (qa4 6) mNil))) (qh9 (dOr (dT (qay pEq (qap 5) (dC (.int 0)))) (dT (qay pNe (qiz (qap 2) (qay pIx (qap 1) (qay qqg (qap 5) (dC (.int 1))))) (qiz (qap 2) (qap 6))))) (qdk 4 (qay qd5 (qap 4) (qff (qad (qff (qad (qat 6) qav)) qav)))) (qdk 4 (qay qd5 (dSlL (qap 4) pNo (pSo (dUn pNeg (dC (.int 1))))) (qff (qad (qay qd5 (qay pIx (qap 4) (dUn pNeg (dC (.int 1)))) (qff (qad (qat 6) qav))) qav))))))
  (qeh (qat 4))))))
def qj9:List PV->Option PV:=dFn 7 2 b_runs
theorem sc_runs:qar ["works", "names", "hues", "cloth", "found", "at", "name"] ["works", "names"] (qab qlt):=⟨rfl,rfl,rfl,by decide +kernel,rfl,by decide +kernel,by decide +kernel⟩
theorem ok_runs {P:Program} {w:World} {K:PySem.W.Frag} {mg:Str->Option Value} {base:Heap} {f:Addr} {fd:FuncData} (F:Fun K "_law_runs" "_law_runs" qlt f fd) (m_enumerate:mg "enumerate"=none):FnOk P w K mg base CX0 1 f fd ["works", "names"] (spP qj9) :=
 okP (k:=0) (b:=b_runs) F sc_runs rfl fun cdv A outer s H E hr=>⟨_,(@qae _ _ _ _ _ (@qaz _ _ 2 _ _ _ _ sc_runs.nd rfl (Or.inl rfl) qrv (by rfl) (.inl rfl))
  (@qae _ _ _ _ _ (qeq PassesOwn.never rfl (@qbg _ K _ _ _ rfl (qbb (qao (K:=K) rfl) (pv 0) qaf (fun _ _=>rfl))) (qa2 (i:=3) sc_runs.nd rfl (Or.inl rfl))
   (@qag _ _ _ (qvm (qqt hr) (pv 2) (qbb (qao (K:=K) rfl) (pv 3) qaf (fun _ _=>rfl)) (qbb (qao (K:=K) rfl) (pv 3) qaf (fun _ _=>rfl)) rfl)))
  (@qae _ _ _ _ _ (@qaz _ _ 4 _ _ _ _ sc_runs.nd rfl (Or.inl rfl) (@qbx _ _ _ _ qac) (by rfl) (.inl rfl))
  (@qae _ _ _ _ _ (qeq PassesOwn.never rfl (qrt (K:=K) rfl rfl m_enumerate (@qaa _ _ _ _ _ (pv 1) qac (by rfl))) (qnb (K:=K) (n:=2) rfl rfl (qds (qa2 (i:=5) sc_runs.nd rfl (Or.inl rfl)) (qds (qa2 (i:=6) sc_runs.nd rfl (Or.inl rfl)) qna)))
   (@qag _ _ _ (qc7 (PW.pt (qjv (qbe (qik (K:=K) (hu6 hr) rfl) (pv 5) qaf (qbl _)) (qhd (qbe (qfe (K:=K) (hu6 hr) rfl) (qqf (qqt hr) (pv 2) (qbb (qao (K:=K) rfl) (pv 1) (qa8 (qfq) (pv 5) qaf) (fun _ _=>rfl)) (fun _ _=>rfl)) (qqf (qqt hr) (pv 2) (pv 6) (fun _ _=>rfl)) (qbl _))))) (@qag _ _ _ (@qaz _ _ 4 _ _ _ _ sc_runs.nd rfl (Or.inl rfl) (qa8 (qbj (K:=K) rfl) (pv 4) (@qbx _ _ _ _ (@qaa _ _ _ _ _ (@qbx _ _ _ _ (@qaa _ _ _ _ _ (pv 6) qac (by rfl))) qac (by rfl)))) (by rfl) (.inl rfl))) (@qag _ _ _ (@qaz _ _ 4 _ _ _ _ sc_runs.nd rfl (Or.inl rfl) (qa8 (qbj (K:=K) rfl) (qnd (qmy (K:=K) rfl) (pv 4) qm9 (qjx (qnc qg8 qaf))) (@qbx _ _ _ _ (@qaa _ _ _ _ _ (qa8 (qbj (K:=K) rfl) (qbb (qao (K:=K) rfl) (pv 4) (qnc qg8 qaf) (fun _ _=>rfl)) (@qbx _ _ _ _ (@qaa _ _ _ _ _ (pv 6) qac (by rfl)))) qac (by rfl)))) (by rfl) (.inl rfl))))))
  (@qag _ _ _ (qa5 (pv 4))))))),
  by first | infer_instance | (repeat' first | infer_instance | refine @Mi.instSemSTSeqDSeq _ _ _ _ _ ?_ ?_)⟩
abbrev qlx:Stmt:=top 60
abbrev b_done:MS:=(dSeq (qh9 (dOr (qjg (qk3 (qaq qi5 (qad (qap 0) (qad (dC (.ty "list")) qav))))) (dT (qay pNe (qap 0) (qap 1)))) (qeh (dC (.bl false))) qd8)
  (qeh (qaq pAll (qad (qba [none] [0] (qfg (qat 0)) (qa4 0) qd7 (qia (qaq qi5 (qad (qap 0) (qad (dC (.ty "tuple")) qav))) (qia (qaq qfr (qad (qay pIx (qap 0) (dC (.int 1))) qav)) (qaq qfr (qad (qay pIx (qap 0) (dC (.int 2))) qav))))) qav))))
def qov:List PV->Option PV:=dFn 2 2 b_done
theorem sc_done:qar ["found", "due"] ["found", "due"] (qab qlx):=⟨rfl,rfl,rfl,by decide +kernel,rfl,by decide +kernel,by decide +kernel⟩
theorem ok_done {P:Program} {w:World} {K:PySem.W.Frag} {mg:Str->Option Value} {base:Heap} {f:Addr} {fd:FuncData} (F:Fun K "_law_done" "_law_done" qlx f fd) (c_whole:Fn P w K mg base 1 "_law_whole" ["found"] (spP qfr)) (m_all:mg "all"=none) (m_isinstance:mg "isinstance"=none) (m_list:mg "list"=none) (m_tuple:mg "tuple"=none):FnOk P w K mg base CX0 2 f fd ["found", "due"] (spP qov) :=
 okP (k:=1) (b:=b_done) F sc_done rfl fun cdv A outer s H E hr=>⟨_,(@qae _ _ _ _ _ (qc7 (PW.pt (qjv (qc8 (qcd (K:=K) rfl (qa1 (qb4 (K:=K) rfl) rfl m_isinstance qa7 (@qaa _ _ _ _ _ (pv 0) (@qaa _ _ _ _ _ (qdw (v:= .ty "list") rfl m_list qc5 rfl) qac (by rfl)) (by rfl))) (fun _=>rfl))) (qhd (qbe (qfe (K:=K) (hu6 hr) rfl) (pv 0) (pv 1) (qbl _))))) (@qag _ _ _ (qa5 qj1)) qbf)
  (@qag _ _ _ (qa5 (qa1 (qfz (K:=K) rfl rfl) rfl m_all qf0 (@qaa _ _ _ _ _ (qbv (N':=["row"]) (cap:=[none]) (qci rfl rfl rfl) rfl (@qbg _ K _ _ _ rfl (pv 0)) (fun _ _ _ _ _ _=>(qa2 (i:=0) (by show (["row"]:List Str).Nodup;decide +kernel) rfl (Or.inl rfl))) (fun _ _ _ _ _ _=>qbm) (fun _ _ _ _ _ _=>(qgl (qa1 (qb4 (K:=K) rfl) rfl m_isinstance qa7 (@qaa _ _ _ _ _ (pv 0) (@qaa _ _ _ _ _ (qdw (v:= .ty "tuple") rfl m_tuple qks rfl) qac (by rfl)) (by rfl))) (qgl (qa3 c_whole hr (by decide) rfl (@qaa _ _ _ _ _ (qbb (qao (K:=K) rfl) (pv 0) qaf (fun _ _=>rfl)) qac (by rfl))) (qij (qa3 c_whole hr (by decide) rfl (@qaa _ _ _ _ _ (qbb (qao (K:=K) rfl) (pv 0) qaf (fun _ _=>rfl)) qac (by rfl)))))))) qac (by rfl)))))),
  by first | infer_instance | (repeat' first | infer_instance | refine @Mi.instSemSTSeqDSeq _ _ _ _ _ ?_ ?_)⟩
end Lw
namespace Lw
open PySem L2 Mi
theorem qpy (n:Int):qcr [.at (.int n)]=some (.at (.bl true)):=qef rfl (qb2 (qeg (qah rfl qwl) (qwx (v:=false) (qah rfl qr4))))
theorem v_from (n k:Int):qcg [.at (.int n),.at (.int k)]=some (.at (.bl (decide (k<=n)))):=qef rfl (qb2 (qeg (qah rfl (qpy n)) rfl))
theorem qjm {n k:Int} (h:k<=n):qcg [.at (.int n),.at (.int k)]=some (.at (.bl true)):=(v_from n k).trans (by rw [decide_eq_true h])
theorem qum {s:Str} (h:qmk s):qft [.at (.str s)]=some (.at (.bl true)):=by
 have hl:lim=1000000:=rfl
 have l1:=h.one
 have l8:=h.eight
 have ln:qn7 [.at (.str s)]=some (.at (.int s.length)):=if_pos (by omega)
 refine qef rfl (qa6 (qdj (qko (qde (qdv (qah rfl qwk))) (qde (qe2 (qnr (r:=true) rfl (qah rfl ln) ?_ rfl ?_)))) qch) (qb2 (qah (qau (qfc (fun c:Nat=>PV.at (.str ⟨#[c]⟩)) (fun _=>PV.at (.bl true)) s.cps.toList rfl rfl ?_ ?_) rfl) (qhw _))))
 ·show some (PV.at (.bl (decide ((1:Int)<=(s.length:Int)))))=_
  rw [decide_eq_true (by omega)]
 ·show some (PV.at (.bl (decide ((s.length:Int)<=8))))=_
  rw [decide_eq_true (by omega)]
 ·have:s.cps.toList.length=s.length:=by simp [Str.length]
  omega
 ·intro c hc
  obtain ⟨c1,c2⟩:=h.low c hc
  refine ⟨_,rfl,qnr rfl rfl ?_ rfl ?_⟩
  ·show some (PV.at (.bl (!decide ([c] < ("a":Str).cps.toList))))=_
   have e:¬ ([c] < [97]):=by rw [List.cons_lt_cons_iff];simp;omega
   rw [show ("a":Str).cps.toList=[97] by decide +kernel,decide_eq_false e];rfl
  ·show some (PV.at (.bl (!decide (("z":Str).cps.toList < [c]))))=_
   have e:¬ ([122] < [c]):=by rw [List.cons_lt_cons_iff];simp;omega
   rw [show ("z":Str).cps.toList=[122] by decide +kernel,decide_eq_false e];rfl
theorem qss {h:Nat} {c:Cl} (ok:c.Ok h):qew [c.pv,.at (.int h)]=some (.at (.bl true)):=by
 refine qef rfl (qa6 (qdj (qko (qde (qdv (qah rfl qwj))) (qe2 (v:=false) rfl)) qch) (qa6 (qdj (qko (qde (qdv (qah (qau (qah rfl rfl) rfl) (qum ok.nm)))) (qko (qde (qdv (qah (qau (qah rfl rfl) rfl) (qjm (n:=(c.hue:Int)) (k:=0) (by omega))))) (qe2 (v:=false) (qaj (qah rfl rfl) rfl ?_)))) qch) (qb2 (qeg (qah (qau (qah rfl rfl) rfl) (qjm ok.l1)) (qeg (qah (qau (qah rfl rfl) rfl) (qpy _)) (qah (qau (qah rfl rfl) rfl) (qjm ok.w1)))))))
 show some (PV.at (.bl (decide ((h:Int)<=(c.hue:Int)))))=_
 have:=ok.hu
 rw [decide_eq_false (by omega)]
theorem qms {l t:Int} {h:Nat} (h1:-1<=l) (h2:l < (h:Int)) (h3:0<=t):qdc [.at (.int l),.at (.int t),.at (.int h)]=some (.at .non):=by
 refine qr8 rfl (qa6 (qdj (dAnd_r (v:=false) (qe2 (v:=true) rfl) (qde (dAnd_r (v:=true) (qdv (qah rfl (qjm h1))) (qe2 (v:=true) ?_)))) qch) (qdj (qde (qdv (qah rfl (qjm h3)))) qch))
 show some (PV.at (.bl (decide (l < (h:Int)))))=_
 rw [decide_eq_true h2]
def keysOf (cs:List Cl):List Key:=cs.map fun c=>Sum.inr c.name
theorem qqm {x:Str} {α:Type} (f:Cl->PV):∀ {cs:List Cl},x ∉ cs.map Cl.name->qey (.inr x) (keysOf cs) (cs.map f)=none
 | [],_=>rfl
 | c::cs,h=>by
  rw [List.map_cons] at h
  show (if (Sum.inr c.name:Key) = .inr x then _ else qey (.inr x) (keysOf cs) (cs.map f))=_
  rw [if_neg (fun e=>h (by injection e with e;rw [e];exact List.mem_cons_self)),qqm (α:=α) f fun z=>h (List.mem_cons_of_mem _ z)]
theorem qnm (f:Cl->PV):∀ {cs:List Cl},(cs.map Cl.name).Nodup->∀ c ∈ cs,qey (.inr c.name) (keysOf cs) (cs.map f)=some (f c)
 | [],_,_,h=>nomatch h
 | d::cs,nd,c,h=>by
  rw [List.map_cons] at nd
  have nd':=List.nodup_cons.mp nd
  show (if (Sum.inr d.name:Key) = .inr c.name then some (f d) else qey (.inr c.name) (keysOf cs) (cs.map f))=_
  rcases List.mem_cons.mp h with rfl | h
  ·rw [if_pos rfl]
  ·rw [if_neg (fun e=>nd'.1 (by injection e with e;rw [e];exact List.mem_map.mpr ⟨c,h,rfl⟩)),qnm f nd'.2 c h]
theorem qk7 {cls:List Cl} {h:Nat} (hok:∀ c ∈ cls,c.Ok h) (nd:(cls.map Cl.name).Nodup) (ten:cls.length<=10):qcx [.lst (cls.map Cl.pv),.at (.int h)]=some (.at .non):=by
 have hl:lim=1000000:=rfl
 refine qr8 rfl (qa6 (qdj (qe2 (v:=false) (qaj (qah rfl rfl) rfl ?_)) qch) (qa6 (qnp rfl) (qkk rfl (qeb Cl.pv (fun l ε=>∃ (done:List Cl) (s3:MSlot),done++l=cls/\ε=[.sh (.lst (cls.map Cl.pv)),.sh (.at (.int h)),.ow (.dk (keysOf done) (done.map fun _=>PV.at (.bl true))),s3]) ?_ cls _ ⟨[],.no,rfl,rfl⟩).choose_spec.1)))
 ·show some (PV.at (.bl (decide ((10:Int) < ((cls.map Cl.pv).length:Int)))))=_
  rw [List.length_map,decide_eq_false (by omega)]
 ·rintro c l ε ⟨done,s3,e,rfl⟩
  have hc:c ∈ cls:=by rw [<- e];exact List.mem_append_right _ List.mem_cons_self
  have hn:c.name ∉ done.map Cl.name:=fun z=>by
   rw [<- e,List.map_append,List.map_cons] at nd
   exact (List.nodup_append.mp nd).2.2 _ z _ List.mem_cons_self rfl
  have ln:=qqm (α:=Unit) (fun _=>PV.at (.bl true)) hn
  have hd:done.length<=10:=by rw [<- e] at ten;rw [List.length_append] at ten;omega
  refine ⟨_,_,rfl,qa6 (qdj (qde (qdv (qah rfl (qss (hok c hc))))) qch) (qa6 (qdj (qe2 (v:=false) ?_) qch) ?_),done++[c],.sh c.pv,by rw [<- e,List.append_assoc];rfl,rfl⟩
  ·show some (PV.at (.bl (qey (.inr c.name) (keysOf done) (done.map fun _=>PV.at (.bl true))).isSome))=_
   rw [ln];rfl
  ·show (if (keysOf done).length<=lim then some (Out.nx [_,_,.ow (qs6 (.inr c.name) (.at (.bl true)) (keysOf done) (done.map fun _=>PV.at (.bl true))),_]) else none)=_
   unfold qs6
   rw [if_pos (by unfold keysOf;rw [List.length_map];omega),ln]
   simp only [Option.isSome_none,Bool.false_eq_true,if_false]
   unfold keysOf
   rw [List.map_append,List.map_append]
   rfl
end Lw
namespace Lw
open PySem L2 Mi
def qqr (n:Int):PV:= .at (.int n)
def qgh (r:List Int):PV:= .lst (r.map qqr)
def wyP (w:Wy):PV:= .tup [.at (.int w.1),.lst (w.2.map qqr)]
def wrP (ws:List Wy):PV:= .lst (ws.map wyP)
theorem qpz {r:List Int} {h:Nat} (hl:r.length=h) (h4:h<=4) (hv:∀ v ∈ r,0<=v):qcb [qgh r,.at (.int h)]=some (.at (.bl true)):=by
 have hlim:lim=1000000:=rfl
 refine qef rfl (qa6 (qdj (qko (qde (qdv (qah rfl qjc))) (qe2 (v:=false) (qaj (qah rfl rfl) rfl ?_))) qch) (qb2 (qah (qau (qfc qqr (fun _=>PV.at (.bl true)) r rfl rfl (by omega) fun v hvm=>?_) rfl) (qhw _))))
 ·show (peq 6 (.at (.int ((r.map qqr).length:Int))) (.at (.int (h:Int)))).bind _=_
  rw [List.length_map,hl]
  exact qhg (x:= .at (.int (h:Int))) rfl
 ·refine ⟨_,rfl,qeg (qah rfl (qpy v)) ?_⟩
  show some (PV.at (.bl (decide ((0:Int)<=v))))=_
  rw [decide_eq_true (hv v hvm)]
theorem qk6 {rss:List (List Int)} {h:Nat} (G:qiq h rss) (h1:1<=h) (h4:h<=4):qcw [qd1 rss]=some (.at .non):=by
 have hlim:lim=1000000:=rfl
 have hlen:=G.len
 have eh:((rss.map qgh).length:Int) - 1=(h:Int):=by rw [List.length_map,hlen];omega
 have step:∀ (k:Int),k=(h:Int)->dSeq (qh9 (qjg (dT (qkq pLe pLe (dC (.int 1)) (qap 1) (dC (.int 4))))) qe0 qd8)
  (qh9 (qjg (qk3 (qaq pAll (qad (qba [none,some 1] [0] (qfg (qat 0)) (qa4 0) qd7 (qaq qcb (qad (qat 0) (qad (qat 1) qav)))) qav)))) qe0 qd8) [.sh (qd1 rss),.sh (.at (.int k))]=some (.nx [.sh (qd1 rss),.sh (.at (.int k))]):=by
  rintro k rfl
  refine qa6 (qdj (qde (qe2 (qnr (r:=true) rfl rfl ?_ rfl ?_))) qch) (qdj (qde (qdv (qah (qau (qfc qgh (fun _=>PV.at (.bl true)) rss rfl rfl (by omega) fun r hr=>⟨_,rfl,qah rfl (qpz (G.row r hr).1 h4 fun v hv=>((G.row r hr).2 v hv).1)⟩) rfl) (qhw _)))) qch)
  ·show some (PV.at (.bl (decide ((1:Int)<=(h:Int)))))=_
   rw [decide_eq_true (by omega)]
  ·show some (PV.at (.bl (decide ((h:Int)<=4))))=_
   rw [decide_eq_true (by omega)]
 exact qr8 rfl (qa6 (qdj (qde (qdv (qah rfl qjc))) qch) (qa6 (qbi rfl) (step _ eh)))
theorem qo8 {α:Type} (f:α->PV):∀ (l:List α) (n:Nat),qhl n (l.map f)=(l.zipIdx n).map fun p=>PV.tup [.at (.int ((p.2:Nat):Int)),f p.1]
 | [],_=>rfl
 | x::l,n=>by
  rw [List.map_cons,List.zipIdx_cons,List.map_cons]
  show PV.tup [.at (.int n),f x]::qhl (n + 1) (l.map f)=_
  rw [qo8 f l (n + 1)]
theorem qsr {r:List Int} (h:r.length<=4):qbw [qgh r]=some (wrP (quz r)):=by
 have hlim:lim=1000000:=rfl
 refine qkl rfl (qb2 ?_)
 have e:=qfc (cap:=[none,none]) (ts:=[0,1]) (it:=dEnum (qad (qat 0) qav)) (g:=mTup 2 (qfb (qa4 0) (qfb (qa4 1) mNil))) (f:=qpb (qad (qat 1) (qad (qff (qad (qat 0) qav)) qav))) (ε:=[.sh (qgh r)])
  (fun p:Int × Nat=>PV.tup [.at (.int ((p.2:Nat):Int)),qqr p.1]) (fun p:Int × Nat=>wyP (p.1,[(p.2:Int)])) (r.zipIdx 0) (by show some (qhl 0 (r.map qqr))=_;rw [qo8]) rfl (by rw [List.length_zipIdx];omega) fun p _=>⟨_,rfl,rfl⟩
 refine e.trans ?_
 unfold wrP quz
 rw [List.mapIdx_eq_zipIdx_map,List.map_map]
 rfl
theorem v_joined {a b:Wy} (h:a.2.length + b.2.length<=1000):qgc [wyP a,wyP b]=some (wyP (qwf a b)):=by
 have hlim:lim=1000000:=rfl
 refine qef rfl (qb2 (qo6 (qau (qaj rfl rfl rfl) (qau (qaj rfl rfl (qe8 (by rw [List.length_map,List.length_map];omega))) rfl)) (by first | decide | (show 1<=lim;decide) | (show 2<=lim;decide) | (show 3<=lim;decide))) |>.trans ?_)
 unfold wyP qwf
 rw [List.map_append]
theorem v_lesser (a b:Wy):qgb [wyP a,wyP b]=some (wyP (lesW a b)):=by
 unfold lesW
 by_cases h:b.1 < a.1
 ·rw [if_pos h]
  exact qef rfl (qb2 (qwz (qe2 (v:=true) (qaj rfl rfl (show some (PV.at (.bl (decide (b.1 < a.1))))=_ by rw [decide_eq_true h]))) rfl))
 ·rw [if_neg h]
  exact qef rfl (qb2 (qnq (qe2 (v:=false) (qaj rfl rfl (show some (PV.at (.bl (decide (b.1 < a.1))))=_ by rw [decide_eq_false h]))) rfl))
theorem qre {α β:Type} (f:α->PV) (g:β->PV):∀ (l:List α) (m:List β),qpw (l.map f) (m.map g)=(l.zip m).map fun p=>PV.tup [f p.1,g p.2]
 | [],_=>by cases ‹List β› <;> rfl
 | _::_,[]=>rfl
 | x::l,y::m=>by
  show PV.tup [f x,g y]::qpw (l.map f) (m.map g)=_
  rw [qre f g l m];rfl
theorem qrd {α β γ:Type} (f:α->β->γ):∀ (l:List α) (m:List β),List.zipWith f l m=(l.zip m).map fun p=>f p.1 p.2
 | [],_=>by simp
 | _::_,[]=>rfl
 | x::l,y::m=>by
  show f x y::List.zipWith f l m=_
  rw [qrd f l m];rfl
theorem quj {ws onw:List Wy} {k:Nat} (hk:k < ws.length) (h4:ws.length<=4) (l1:∀ w ∈ ws,w.2.length<=100) (l2:∀ w ∈ onw,w.2.length<=100):qbr [wrP ws,.at (.int (k:Int)),wrP onw]=some (wrP (thr ws k onw)):=by
 have hlim:lim=1000000:=rfl
 have hg:ws.getD k (0,[])=ws[k]:=qax hk
 have hw:=List.getElem_mem hk
 refine qkl rfl (qb2 ?_)
 have e:=qfc (cap:=[none,none,some 0,some 1]) (ts:=[0,1]) (it:=dZip (qad (qat 0) (qad (qat 2) qav))) (g:=mTup 2 (qfb (qa4 0) (qfb (qa4 1) mNil))) (f:=qaq qgb (qad (qat 0) (qad (qaq qgc (qad (qay pIx (qap 2) (qap 3)) (qad (qat 1) qav))) qav))) (ε:=[.sh (wrP ws),.sh (.at (.int (k:Int))),.sh (wrP onw)])
  (fun p:Wy × Wy=>PV.tup [wyP p.1,wyP p.2]) (fun p:Wy × Wy=>wyP (lesW p.1 (qwf ws[k] p.2))) (ws.zip onw) (by show some (qpw (ws.map wyP) (onw.map wyP))=_;rw [qre]) rfl (by rw [List.length_zip];omega) fun p hp=>⟨_,rfl,qah (qau rfl (qau (qah (qau (qaj rfl rfl (qdx (v:=wyP ws[k]) (by rw [List.getElem?_map,List.getElem?_eq_getElem hk];rfl))) (qau rfl rfl)) (v_joined (by
   have q1:=l1 _ hw
   have q2:=l2 p.2 (List.of_mem_zip hp).2
   omega))) rfl)) (v_lesser _ _)⟩
 refine e.trans ?_
 unfold wrP thr
 rw [hg,qrd,List.map_map]
 rfl
theorem way_len {h k:Nat} {rss:List (List Int)} (G:qiq h rss) (hk:k<=h) (h4:h<=4):∀ r ∈ fwN rss k,∀ w ∈ r,w.2.length<=100:=by
 intro r hr w hw
 have S:=Shp.all G k hk
 have F:=FW.all G k hk
 obtain ⟨f,hf,rfl⟩:=List.getElem_of_mem hr
 obtain ⟨g,hg,rfl⟩:=List.getElem_of_mem hw
 have hf':f<=h:=by have:=S.len;omega
 have hg':g < h:=by rw [<- S.row _ hr];exact hg
 have e:ent (fwN rss k) f g=(fwN rss k)[f][g]:=by unfold ent;rw [qax hf,qax hg]
 have q:=F.len f g hf' hg'
 rw [e] at q
 have:2 ^ k<=2 ^ 4:=Nat.pow_le_pow_right (by decide) (by omega)
 omega
def tabP (T:List (List Wy)):PV:= .lst (T.map wrP)
theorem qob {rss:List (List Int)} {h:Nat} (G:qiq h rss) (h1:1<=h) (h4:h<=4):qdt [qd1 rss]=some (tabP (fwN rss h)):=by
 have hlim:lim=1000000:=rfl
 have hlimI:(lim:Int)=1000000:=rfl
 have hlen:=G.len
 have st:qba [none] [0] (qfg (qat 0)) (qa4 0) qd7 (qaq qbw (qad (qat 0) qav)) [.sh (qd1 rss),.no,.no,.no]=some (tabP (fwN rss 0)):=by
  refine (qfc qgh (fun r=>wrP (quz r)) rss rfl rfl (by omega) fun r hr=>⟨_,rfl,qah rfl (qsr (by rw [(G.row r hr).1];exact h4))⟩).trans ?_
  show _=some (PV.lst ((rss.map quz).map wrP))
  rw [List.map_map];rfl
 have rg:qd9 (qad (qay qqg (qaq qn7 (qad (qap 0) qav)) (dC (.int 1))) qav) [.sh (qd1 rss),.sh (tabP (fwN rss 0)),.no,.no]=some ((List.range h).map fun (i:Nat)=>PV.at (.int ((0:Int) + i))):=by
  refine qjs (k:=h) (qau (qaj (qah rfl rfl) rfl ?_) rfl) (by omega)
  show some (PV.at (.int (((rss.map qgh).length:Int) - 1)))=_
  rw [List.length_map,hlen,show ((h + 1:Nat):Int) - 1=(h:Int) by omega]
 have lp:=qeb (g:=qa4 2) (f:=dSeq (qdk 3 (qay pIx (qap 1) (qap 2))) (qdk 1 (qba [none,some 2,some 3] [0] (qfg (qat 1)) (qa4 0) qd7 (qaq qbr (qad (qat 0) (qad (qat 1) (qad (qat 2) qav)))))))
  (fun (i:Nat)=>PV.at (.int ((0:Int) + i))) (fun l ε=>∃ (k:Nat) (s2 s3:MSlot),l=(List.range h).drop k/\k<=h/\ε=[.sh (qd1 rss),.sh (tabP (fwN rss k)),s2,s3]) (by
   rintro i l ε ⟨k,s2,s3,el,hk,rfl⟩
   have hkl:k < h:=by
    have e5:(i::l).length=((List.range h).drop k).length:=by rw [<- el]
    rw [List.length_drop,List.length_range,List.length_cons] at e5
    omega
   have ei:i=k:=by
    have:((List.range h).drop k)[0]?=some i:=by rw [<- el];rfl
    rw [List.getElem?_drop,List.getElem?_range (by omega)] at this
    simpa using this.symm
   have er:l=(List.range h).drop (k + 1):=by
    have:((List.range h).drop k).tail=l:=by rw [<- el];rfl
    rw [<- this,List.tail_drop]
   subst ei
   have S:=Shp.all G i hk
   have hT:i < (fwN rss i).length:=by rw [S.len];omega
   have gD:(fwN rss i).getD i []=(fwN rss i)[i]:=qax hT
   have wl:=way_len G hk h4
   refine ⟨_,_,rfl,qa6 (qbi (x:=wrP (fwN rss i)[i]) (qaj rfl rfl ?_)) (qbi (x:=tabP (fwN rss (i + 1))) ?_),i + 1,_,_,er,hkl,rfl⟩
   ·show atI ((fwN rss i).map wrP) (0 + (i:Int))=_
    rw [Int.zero_add]
    exact qdx (by rw [List.getElem?_map,List.getElem?_eq_getElem hT];rfl)
   ·refine (qfc wrP (fun row=>wrP (thr row i (fwN rss i)[i])) (fwN rss i) rfl rfl (by rw [S.len];omega) fun row hr=>⟨_,rfl,qah rfl ?_⟩).trans ?_
    ·show qbr [wrP row,.at (.int (0 + (i:Int))),wrP (fwN rss i)[i]]=_
     rw [Int.zero_add]
     exact quj (by rw [S.row row hr];exact hkl) (by rw [S.row row hr];exact h4) (wl row hr) (wl _ (List.getElem_mem hT))
    ·show _=some (PV.lst ((qdi (fwN rss i) i).map wrP))
     unfold qdi
     rw [List.map_map,gD]
     rfl) (List.range h) _ ⟨0,.no,.no,rfl,Nat.zero_le _,rfl⟩
 obtain ⟨ε',e',k,s2,s3,el,hk,rfl⟩:=lp
 have ek:k=h:=by
  have:=congrArg List.length el
  rw [List.length_drop,List.length_range] at this
  simp at this
  omega
 subst ek
 exact qef rfl (qa6 (qbi st) (qa6 (qkk rg e') (qb2 rfl)))
theorem quk {ws:List Wy} (h4:ws.length<=4):qfs [wrP ws]=some (qgh (ws.map (·.1))):=by
 have hlim:lim=1000000:=rfl
 refine qkl rfl (qb2 ((qfc wyP (fun w=>qqr w.1) ws rfl rfl (by omega) fun w _=>⟨_,rfl,rfl⟩).trans ?_))
 unfold qgh
 rw [List.map_map];rfl
theorem qk5 {rss:List (List Int)} {h:Nat} (G:qiq h rss) (h1:1<=h) (h4:h<=4):qcv [qd1 rss]=some (qd1 (qhk rss h)):=by
 have hlim:lim=1000000:=rfl
 have S:=Shp.all G h (Nat.le_refl _)
 refine qkl rfl (qa6 (qkn (qah rfl (qk6 G h1 h4))) (qb2 ((qfc wrP (fun ws=>qgh (ws.map (·.1))) (fwN rss h) (qwy (qah rfl (qob G h1 h4))) rfl (by rw [S.len];omega) fun ws hw=>⟨_,rfl,qah rfl (quk (by rw [S.row ws hw];exact h4))⟩).trans ?_)))
 show _=some (PV.lst ((qhk rss h).map qgh))
 unfold qhk
 rw [List.map_map];rfl
end Lw
namespace Lw
open PySem L2 Mi
def Dr.low (d:Dr):List (List Int):=qhk d.rss d.h
def fieldsW:List Str:=["least", "given", "held", "last", "time"]
def Dr.ob (C:Addr) (d:Dr):PV:= .ob C fieldsW [qd1 d.low,qd1 d.rss,.fk (keysOf d.cls) (d.cls.map Cl.pv),.at (.int d.last),.at (.int d.time)]
def Dr.names (d:Dr):List Str:=d.cls.map Cl.name
section
variable {C:Addr} {d:Dr}
theorem qul:qb0 C [d.ob C]=some (.tup [.at (.int d.last),.at (.int d.time)]):=qef rfl (qb2 (qo6 (qau (qkm rfl rfl) (qau (qkm rfl rfl) rfl)) (by first | decide | (show 1<=lim;decide) | (show 2<=lim;decide) | (show 3<=lim;decide))))
theorem qw1 {a:M} {ε:ME} {i:Nat} {xs:List PV} {x:PV} (h1:a ε=some x) (h2:ε[i]?=some (.ow (.lst xs))) (h3:xs.length<=lim):qfx i a ε=some (.nx (ε.set i (.ow (.lst (xs++[x]))))):=by
 unfold qfx;rw [h1];show (match ε[i]? with | some (.ow (.lst xs))=>if xs.length<=lim then some (Out.nx (ε.set i (.ow (.lst (xs++[x]))))) else none | _=>none)=_;rw [h2];exact if_pos h3
theorem ev_dget {a b:M} {ε:ME} {ks:List Key} {xs:List PV} {y z:PV} {k:Key} (h1:a ε=some (.fk ks xs)) (h2:b ε=some y) (h3:qwd y=some k) (h4:qey k ks xs=some z):qiz a b ε=some z:=by
 unfold qiz;rw [h1,h2];show (qwd y).bind _=_;rw [h3];exact h4
theorem ev_dnin {a b:M} {ε:ME} {ks:List Key} {xs:List PV} {y:PV} {k:Key} {o:Option PV} (h1:a ε=some (.fk ks xs)) (h2:b ε=some y) (h3:qwd y=some k) (h4:qey k ks xs=o):qnu b a ε=some (.at (.bl (!o.isSome))):=by
 unfold qnu;rw [h1,h2];show (qwd y).bind _=_;rw [h3,<- h4];rfl
theorem qup (ok:d.Ok) {c:Cl} (hc:c ∈ d.cls):qbk C [d.ob C,.at (.str c.name)]=some c.pv:=by
 have lk:=qnm Cl.pv ok.nd c hc
 refine qef rfl (qa6 (qdj (qko (qde (qdv (qah rfl qwk))) (qe2 (v:=false) ?_)) qch) (qb2 ?_))
 ·exact ev_dnin (qkm rfl rfl) rfl rfl lk
 ·exact ev_dget (qkm rfl rfl) rfl rfl lk
theorem row_at {rss:List (List Int)} {h:Nat} (G:qiq h rss) {f:Int} {g:Nat} (f0:-1<=f) (f1:f < (h:Int)) (hg:g < h):∃ r:List Int,atI (rss.map qgh) f=some (qgh r)/\atI (r.map qqr) (g:Int)=some (.at (.int (rin rss f (g:Int)))):=by
 have main:∀ n:Nat,n<=h->∃ r:List Int,(rss.map qgh)[n]?=some (qgh r)/\rss[n]?=some r/\atI (r.map qqr) (g:Int)=some (.at (.int (rin rss (n:Int) (g:Int)))):=by
  intro n hn
  have hl:n < rss.length:=by have:=G.len;omega
  have hgl:g < rss[n].length:=by rw [(G.row _ (List.getElem_mem hl)).1];exact hg
  refine ⟨rss[n],by rw [List.getElem?_map,List.getElem?_eq_getElem hl];rfl,List.getElem?_eq_getElem hl,?_⟩
  rw [qgw G hn hg,qax hl,qax hgl]
  exact qdx (by rw [List.getElem?_map,List.getElem?_eq_getElem hgl];rfl)
 by_cases hf:f=-1
 ·subst hf
  obtain ⟨r,e1,e2,e3⟩:=main h (Nat.le_refl _)
  refine ⟨r,?_,?_⟩
  ·have hlen:(rss.map qgh).length=h + 1:=by rw [List.length_map];exact G.len
   have e:atI (rss.map qgh) (h:Int)=some (qgh r):=qdx e1
   rw [<- e]
   unfold atI
   rw [hlen]
   have i1:ixN (h + 1) (-1)=some h:=by
    unfold ixN
    rw [if_neg (by decide),if_pos (by omega)]
    congr 1
    omega
   have i2:ixN (h + 1) (h:Int)=some h:=by
    unfold ixN
    rw [if_pos (by omega),if_pos (by omega)]
    congr 1
   rw [i1,i2]
  ·rw [rin_last G.len];exact e3
 ·obtain ⟨n,rfl⟩:=Int.eq_ofNat_of_zero_le (show 0<=f by omega)
  obtain ⟨r,e1,e2,e3⟩:=main n (by omega)
  exact ⟨r,qdx e1,e3⟩
def Dr.rz (d:Dr) (f:Int) (g:Nat):Int:=if f=(g:Int) then 0 else rin d.low f (g:Int)
theorem v_tray (ok:d.Ok) {f:Int} {g:Nat} (f0:-1<=f) (f1:f < (d.h:Int)) (hg:g < d.h):qbp C [d.ob C,.at (.int f),.at (.int (g:Int))]=some (.at (.int (rin d.low f (g:Int)))):=by
 obtain ⟨r,e1,e2⟩:=row_at (qi7 ok.rin) f0 f1 hg
 exact qef rfl (qb2 (qaj (qaj (qkm rfl rfl) rfl e1) rfl e2))
theorem qw2 (a b:Int):pEq (.at (.int a)) (.at (.int b))=some (.at (.bl (decide (a=b)))):=by
 show some (PV.at (.bl (eqV (.int a) (.int b))))=_
 have:eqV (.int a) (.int b)=decide (a=b):=rfl
 rw [this]
theorem ql6 (a b:Int):pNe (.at (.int a)) (.at (.int b))=some (.at (.bl (!decide (a=b)))):=by
 show some (PV.at (.bl (!eqV (.int a) (.int b))))=_
 have:eqV (.int a) (.int b)=decide (a=b):=rfl
 rw [this]
theorem v_rinse (ok:d.Ok) {f:Int} {g:Nat} (f0:-1<=f) (f1:f < (d.h:Int)) (hg:g < d.h):qct C [d.ob C,.at (.int f),.at (.int (g:Int))]=some (.at (.int (d.rz f g))):=by
 unfold Dr.rz
 by_cases h:f=(g:Int)
 ·rw [if_pos h]
  exact qef rfl (qb2 (qwz (qe2 (v:=true) (qaj rfl rfl ((qw2 _ _).trans (by rw [decide_eq_true h])))) rfl))
 ·rw [if_neg h]
  exact qef rfl (qb2 (qnq (qe2 (v:=false) (qaj rfl rfl ((qw2 _ _).trans (by rw [decide_eq_false h])))) (qfw rfl (by decide) rfl (v_tray ok f0 f1 hg))))
structure Lst (d:Dr) (ns:List Cl):Prop where
 sub:∀ c ∈ ns,c ∈ d.cls
 nd:(ns.map Cl.name).Nodup
def nmP (cs:List Cl):PV:= .lst (qaw (cs.map Cl.name))
theorem Lst.len {ns:List Cl} (ok:d.Ok) (L:Lst d ns):ns.length<=10:=by
 have:=qhh L.nd (left:=d.cls.map Cl.name) fun x hx=>by
  obtain ⟨c,hc,rfl⟩:=List.mem_map.mp hx
  exact List.mem_map.mpr ⟨c,L.sub c hc,rfl⟩
 rw [List.length_map,List.length_map] at this
 have:=ok.ten
 omega
theorem qg7 (ok:d.Ok) {ns:List Cl} (L:Lst d ns) (hN:qcz C [d.ob C,nmP ns]=some (.at (.bl true))):qbz C [d.ob C,nmP ns]=some (.at .non):=qr8 rfl (qdj (qde (qdv (qah rfl hN))) qch)
def Dr.go (d:Dr):Int->Int->List Cl->List (Cl × Int × Int)
 | _,_,[]=>[]
 | l,t,c::cs=>(c,t + d.rz l c.hue,t + d.rz l c.hue + c.len)::d.go c.hue (t + d.rz l c.hue + c.len) cs
def rwP (r:Cl × Int × Int):PV:= .tup [.at (.str r.1.name),.at (.int r.2.1),.at (.int r.2.2)]
theorem v_done (ok:d.Ok) {ns:List Cl} (L:Lst d ns) (hN:qcz C [d.ob C,nmP ns]=some (.at (.bl true))):qbs C [d.ob C,nmP ns]=some (.lst ((d.go d.last d.time ns).map rwP)):=by
 have hlim:lim=1000000:=rfl
 have l10:=L.len ok
 have en:qaw (ns.map Cl.name)=ns.map fun c=>PV.at (.str c.name):=by unfold qaw;rw [List.map_map];rfl
 refine qkl rfl (qa6 (qkn (qah rfl (qg7 ok L hN))) (qa6 (qbi (qfw rfl (by decide) rfl qul)) (qa6 (qbi (x:= .at (.int d.last)) rfl) (qa6 (qbi (x:= .at (.int d.time)) rfl) (qa6 (qnp rfl) ?_)))))
 obtain ⟨ε',e',rest⟩:=qeb (g:=qa4 6) (f:=dSeq (qdk 7 (qgi C "cloth" (qbk C) (qat 0) (qad (qat 6) qav)))
  (dSeq (qdk 8 (qay qd5 (qap 4) (qgi C "rinse" (qct C) (qat 0) (qad (qat 3) (qad (qaq qcs (qad (qat 7) qav)) qav)))))
  (dSeq (qdk 4 (qay qd5 (qap 8) (qaq qcy (qad (qat 7) qav))))
  (dSeq (qdk 3 (qaq qcs (qad (qat 7) qav)))
  (qfx 5 (qpb (qad (qat 6) (qad (qat 8) (qad (qat 4) qav)))))))))
  (fun c:Cl=>PV.at (.str c.name)) (fun l ε=>∃ (la ti:Int) (done:List (Cl × Int × Int)) (s6 s7 s8:MSlot),done++d.go la ti l=d.go d.last d.time ns/\(∀ c ∈ l,c ∈ ns)/\done.length + l.length=ns.length/\-1<=la/\la < (d.h:Int) /\
   ε=[.sh (d.ob C),.sh (nmP ns),.sh (.tup [.at (.int d.last),.at (.int d.time)]),.sh (.at (.int la)),.sh (.at (.int ti)),.ow (.lst (done.map rwP)),s6,s7,s8]) (by
   rintro c l ε ⟨la,ti,done,s6,s7,s8,e1,e2,e3,g1,g2,rfl⟩
   have hc:=e2 c List.mem_cons_self
   have hk:=ok.cl c (L.sub c hc)
   simp only [List.length_cons] at e3
   refine ⟨_,[.sh (d.ob C),.sh (nmP ns),.sh (.tup [.at (.int d.last),.at (.int d.time)]),.sh (.at (.int (c.hue:Int))),.sh (.at (.int (ti + d.rz la c.hue + c.len))),.ow (.lst ((done++[(c,ti + d.rz la c.hue,ti + d.rz la c.hue + c.len)]).map rwP)),.sh (.at (.str c.name)),.sh c.pv,.sh (.at (.int (ti + d.rz la c.hue)))],rfl,qa6 (qbi (qfw rfl (by decide) rfl (qup ok (L.sub c hc)))) (qa6 (qbi (qaj rfl (qfw rfl (by decide) (qau rfl (qau (qah rfl rfl) rfl)) (v_rinse ok g1 g2 hk.hu)) rfl)) (qa6 (qbi (qaj rfl (qah rfl rfl) rfl)) (qa6 (qbi (x:= .at (.int (c.hue:Int))) (qah rfl rfl)) ?_))),?_⟩
   rotate_left
   ·refine ⟨(c.hue:Int),ti + d.rz la c.hue + c.len,done++[(c,ti + d.rz la c.hue,ti + d.rz la c.hue + c.len)],_,_,_,by rw [List.append_assoc];exact e1,fun x hx=>e2 x (List.mem_cons_of_mem _ hx),by rw [List.length_append];simp;omega,by omega,by have:=hk.hu;omega,rfl⟩
   ·rw [List.map_append]
    exact qw1 (qo6 rfl (by show 3<=lim;decide)) rfl (by rw [List.length_map];omega)) ns _ ⟨d.last,d.time,[],.no,.no,.no,rfl,fun c h=>h,by simp,ok.l1,ok.l2,rfl⟩
 obtain ⟨la,ti,done,s6,s7,s8,e1,_,_,_,_,rfl⟩:=rest
 have e2:done=d.go d.last d.time ns:=by
  have:done++[]=d.go d.last d.time ns:=e1
  rwa [List.append_nil] at this
 subst e2
 exact qa6 (qkk (by show some (qaw (ns.map Cl.name))=_;rw [en]) e') rfl
end
end Lw
namespace Lw
open PySem L2 Mi
section
variable {C:Addr} {d:Dr}
theorem keysS_of (cs:List Cl):qo2 (keysOf cs)=some (cs.map Cl.name):=by
 induction cs with
 | nil=>rfl
 | cons c cs ih =>
  show (qo2 (keysOf cs)).map (c.name::·)=_
  rw [ih];rfl
theorem strsOf_P (ss:List Str):qih (qaw ss)=some ss:=by
 induction ss with
 | nil=>rfl
 | cons s ss ih =>
  show (qih (qaw ss)).map (s::·)=_
  rw [ih];rfl
theorem v_names (ok:d.Ok):qdd C [d.ob C]=some (.lst (qaw (qof d.names))):=by
 refine qkl rfl (qb2 (qah (qau (qkm rfl rfl) rfl) ?_))
 show (qo2 (keysOf d.cls)).bind _=_
 rw [keysS_of,Option.bind_some,if_pos (by rw [List.length_map];have:=ok.ten;omega)]
 rfl
theorem qu4 {ss:List Str} (h:ss.Nodup):∀ i,i<=ss.length->qck (fun i=>(Sum.inr (ss.getD i ⟨#[]⟩):Key)) i=(ss.take i).map Sum.inr
 | 0,_=>rfl
 | i + 1,hi=>by
  have ih:=qu4 h i (by omega)
  have hl:i < ss.length:=by omega
  have eg:ss.getD i ⟨#[]⟩=ss[i]:=qax hl
  have hn:ss[i] ∉ ss.take i:=fun z=>by
   have e:ss=ss.take i++ss[i]::ss.drop (i + 1):=by rw [<- List.drop_eq_getElem_cons hl,List.take_append_drop]
   rw [e] at h
   exact (List.nodup_append.mp h).2.2 _ z _ List.mem_cons_self rfl
  unfold qck
  rw [ih,eg,if_neg (fun z=>hn (by
   obtain ⟨y,hy,e⟩:=List.mem_map.mp z
   injection e with e
   rw [<- e];exact hy)),List.take_add_one,List.getElem?_eq_getElem hl,List.map_append]
  rfl
theorem many_nd {ss:List Str} (h:ss.Nodup):manyS ss=ss.length:=by
 unfold manyS
 rw [qu4 h _ (Nat.le_refl _),List.length_map,List.take_length]
theorem v_are (ok:d.Ok) {ns:List Cl} (L:Lst d ns):qcz C [d.ob C,nmP ns]=some (.at (.bl true)):=by
 have hlim:lim=1000000:=rfl
 have l10:=L.len ok
 have en:qaw (ns.map Cl.name)=(ns.map Cl.name).map fun s=>PV.at (.str s):=rfl
 refine qef rfl (qa6 (qdj (qde (qdv (qah rfl qjc))) qch) (qa6 (qbi (qfw rfl (by decide) rfl (v_names ok))) (qb2 (qeg (qah (qau (qfc (fun s:Str=>PV.at (.str s)) (fun _=>PV.at (.bl true)) (ns.map Cl.name) rfl rfl (by rw [List.length_map];omega) fun s hs=>⟨_,rfl,qaj rfl rfl ((qno false s _).trans ?_)⟩) rfl) (qhw _)) (qaj (y:= .at (.int (ns.length:Int))) (x:= .at (.int (ns.length:Int))) ?_ ?_ (qnf rfl))))))
 ·obtain ⟨c,hc,rfl⟩:=List.mem_map.mp hs
  have:c.name ∈ qof d.names:=(qlp d.names).mem_iff.mpr (List.mem_map.mpr ⟨c,L.sub c hc,rfl⟩)
  simp [this]
 ·show (qih (qaw (ns.map Cl.name))).bind _=_
  rw [strsOf_P,Option.bind_some,if_pos (by rw [List.length_map];omega),many_nd L.nd,List.length_map]
 ·refine qah rfl ?_
  show some (PV.at (.int ((qaw (ns.map Cl.name)).length:Int)))=_
  rw [qbc,List.length_map]
theorem go_len {ns:List Cl}:∀ {l t:Int},(d.go l t ns).length=ns.length:=by
 induction ns with
 | nil=>intro l t;rfl
 | cons c cs ih=>intro l t;show (d.go _ _ cs).length + 1=_;rw [ih];rfl
theorem quo (ok:d.Ok) {ns:List Cl} (L:Lst d ns):qbs C [d.ob C,nmP ns]=some (.lst ((d.go d.last d.time ns).map rwP)):=v_done ok L (v_are ok L)
end
end Lw
namespace Lw
open PySem L2 Mi
theorem qwg {r:List Int} {a:Nat} (h:a < r.length):atI (r.map qqr) ((0:Int) + (a:Int))=some (qqr (r.getD a 0)):=by
 rw [Int.zero_add,qax h]
 exact qdx (by rw [List.getElem?_map,List.getElem?_eq_getElem h];rfl)
theorem ix_rows {rss:List (List Int)} {a:Nat} (h:a < rss.length):atI (rss.map qgh) ((0:Int) + (a:Int))=some (qgh (rss.getD a [])):=by
 rw [Int.zero_add,qax h]
 exact qdx (by rw [List.getElem?_map,List.getElem?_eq_getElem h];rfl)
def rngF (i:Nat):PV:= .at (.int ((0:Int) + (i:Int)))
theorem qve {ε:ME} {a:MA} {k:Nat} (h:a ε=some [.at (.int (k:Int))]) (hk:k<=1000):qd9 a ε=some ((List.range k).map rngF):=qjs h (by have:lim=1000000:=rfl;omega)
theorem v_bf {rss:List (List Int)} {h:Nat} (G:qiq h rss) (h4:h<=4) {row:List Int} (hr:row.length=h) :
  qba [none,some 0,some 1,some 2] [0] (qd9 (qad (qat 1) qav)) (qa4 0) qd7 (qaq qs9 (qad (qay qd5 (qff (qad (qay pIx (qap 1) (qap 0)) qav)) (qba [none,some 1,some 3,some 0] [0] (qd9 (qad (qat 2) qav)) (qa4 0) qd7 (qay qd5 (qay pIx (qap 1) (qap 0)) (qay pIx (qay pIx (qap 2) (qap 0)) (qap 3))))) qav))
   [.sh (qgh row),.sh (.at (.int (h:Int))),.sh (qd1 rss)]=some (qgh (qny rss h row)):=by
 have hlim:lim=1000000:=rfl
 have hlen:=G.len
 refine (qfc rngF (fun g=>qqr (minI (row.getD g 0::(List.range h).map fun a=>row.getD a 0 + (rss.getD a []).getD g 0))) (List.range h) (qve rfl (by omega)) rfl (by rw [List.length_range];omega) fun g hg=>?_).trans ?_
 ·have hg':=List.mem_range.mp hg
  have inner:qba [none,some 1,some 3,some 0] [0] (qd9 (qad (qat 2) qav)) (qa4 0) qd7 (qay qd5 (qay pIx (qap 1) (qap 0)) (qay pIx (qay pIx (qap 2) (qap 0)) (qap 3)))
    [.sh (rngF g),.sh (qgh row),.sh (.at (.int (h:Int))),.sh (qd1 rss)]=some (.lst ((List.range h).map fun a=>qqr (row.getD a 0 + (rss.getD a []).getD g 0))):=by
   refine qfc rngF _ (List.range h) (qve rfl (by omega)) rfl (by rw [List.length_range];omega) fun a ha=>?_
   have ha':=List.mem_range.mp ha
   have hra:(rss.getD a []).length=h:=by
    have hl:a < rss.length:=by omega
    rw [qax hl]
    exact (G.row _ (List.getElem_mem hl)).1
   exact ⟨_,rfl,qaj (qaj rfl rfl (qwg (by omega))) (qaj (qaj rfl rfl (ix_rows (by omega))) rfl (qwg (by omega))) rfl⟩
  refine ⟨_,rfl,qah (qau (qaj (qdu (qau (qaj rfl rfl (qwg (by omega))) rfl) (by first | decide | (show 1<=lim;decide) | (show 2<=lim;decide) | (show 3<=lim;decide))) inner (qe8 (by rw [List.length_map,List.length_range];show 1 + h<=_;omega))) rfl) ?_⟩
  have e:[qqr (row.getD g 0)]++(List.range h).map (fun a=>qqr (row.getD a 0 + (rss.getD a []).getD g 0))=(row.getD g 0::(List.range h).map fun a=>row.getD a 0 + (rss.getD a []).getD g 0).map fun b=>PV.at (.int b):=by
   rw [List.map_cons,List.map_map];rfl
  rw [e]
  show (qki _).bind _=_
  rw [qwo,Option.bind_some,if_neg (by simp)]
  rfl
 ·unfold qgh qny
  rw [List.map_map];rfl
theorem v_sums {rss:List (List Int)} {h:Nat} (G:qiq h rss) (h1:1<=h) (h4:h<=4):qot [qd1 rss]=some (qd1 (qhk rss h)):=by
 have hlim:lim=1000000:=rfl
 have hlen:=G.len
 have eh:((rss.map qgh).length:Int) - 1=(h:Int):=by rw [List.length_map,hlen];omega
 have cp:∀ (s1:MSlot),qba [none] [0] (qfg (qat 0)) (qa4 0) qd7 (qaq qe7 (qad (qap 0) qav)) [.sh (qd1 rss),s1,.no,.no]=some (qd1 rss):=fun s1 =>
  qfc qgh qgh rss rfl rfl (by omega) fun r _=>⟨_,rfl,rfl⟩
 have lp:=qeb (g:=qa4 3) (f:=qdk 2 (qba [none,some 1,some 0] [0] (qfg (qat 2)) (qa4 0) qd7 (qba [none,some 0,some 1,some 2] [0] (qd9 (qad (qat 1) qav)) (qa4 0) qd7 (qaq qs9 (qad (qay qd5 (qff (qad (qay pIx (qap 1) (qap 0)) qav)) (qba [none,some 1,some 3,some 0] [0] (qd9 (qad (qat 2) qav)) (qa4 0) qd7 (qay qd5 (qay pIx (qap 1) (qap 0)) (qay pIx (qay pIx (qap 2) (qap 0)) (qap 3))))) qav)))))
  rngF (fun l ε=>∃ (k:Nat) (s3:MSlot),k + l.length=h/\ε=[.sh (qd1 rss),.sh (.at (.int (h:Int))),.sh (qd1 (bfN rss h k)),s3]) (by
   rintro i l ε ⟨k,s3,el,rfl⟩
   simp only [List.length_cons] at el
   have B:=qnz G k
   refine ⟨_,_,rfl,qbi (x:=qd1 (bfN rss h (k + 1))) ?_,k + 1,_,by omega,rfl⟩
   refine (qfc qgh (fun r=>qgh (qny rss h r)) (bfN rss h k) rfl rfl (by rw [B.1];omega) fun r hr=>⟨_,rfl,v_bf G h4 (B.2 r hr)⟩).trans ?_
   show _=some (PV.lst (((bfN rss h k).map (qny rss h)).map qgh))
   rw [List.map_map];rfl) (List.range h) _ ⟨0,.no,by simp,rfl⟩
 obtain ⟨ε',e',k,s3,el,rfl⟩:=lp
 have ek:k=h:=by simpa using el
 subst ek
 have fin:∀ z:Int,z=(k:Int)->dSeq (qdk 2 (qba [none] [0] (qfg (qat 0)) (qa4 0) qd7 (qaq qe7 (qad (qap 0) qav)))) (dSeq (qxc (qd9 (qad (qat 1) qav)) (qa4 3) (qdk 2 (qba [none,some 1,some 0] [0] (qfg (qat 2)) (qa4 0) qd7 (qba [none,some 0,some 1,some 2] [0] (qd9 (qad (qat 1) qav)) (qa4 0) qd7 (qaq qs9 (qad (qay qd5 (qff (qad (qay pIx (qap 1) (qap 0)) qav)) (qba [none,some 1,some 3,some 0] [0] (qd9 (qad (qat 2) qav)) (qa4 0) qd7 (qay qd5 (qay pIx (qap 1) (qap 0)) (qay pIx (qay pIx (qap 2) (qap 0)) (qap 3))))) qav)))))) (qeh (qat 2))) [.sh (qd1 rss),.sh (.at (.int z)),.no,.no]=some (.rt (qd1 (qhk rss k))):=by
  rintro z rfl
  rw [<- bf_low G]
  exact qa6 (qbi (cp _)) (qa6 (qkk (qve rfl (by omega)) e') (qb2 rfl))
 exact qef rfl (qa6 (qbi rfl) (fin _ eh))
theorem qg4 {cs:List Cl} (nd:(cs.map Cl.name).Nodup) {c:Cl} (hc:c ∈ cs):cs.filter (fun x=>decide (x.name=c.name))=[c]:=by
 induction cs with
 | nil=>cases hc
 | cons x cs ih =>
  rw [List.map_cons] at nd
  have nd':=List.nodup_cons.mp nd
  rcases List.mem_cons.mp hc with rfl | hc
  ·rw [List.filter_cons,if_pos (by simp)]
   congr 1
   rw [List.filter_eq_nil_iff]
   intro y hy e
   have e':y.name=c.name:=by simpa using e
   exact nd'.1 (List.mem_map.mpr ⟨y,hy,e'⟩)
  ·rw [List.filter_cons,if_neg (by
    intro e
    have e':x.name=c.name:=by simpa using e
    exact nd'.1 (List.mem_map.mpr ⟨c,hc,e'.symm⟩)),ih nd'.2 hc]
theorem eq_str (a b:Str):pEq (.at (.str a)) (.at (.str b))=some (.at (.bl (decide (a=b)))):=by
 show some (PV.at (.bl (eqV (.str a) (.str b))))=_
 have:eqV (.str a) (.str b)=decide (a=b):=rfl
 rw [this]
end Lw
namespace Lw
open PySem L2 Mi
section
variable {C:Addr} {d:Dr}
theorem v_rows (ok:d.Ok) {ns:List Cl} (L:Lst d ns):qou [d.pv,nmP ns]=some (.lst ((d.go d.last d.time ns).map rwP)):=by
 have hlim:lim=1000000:=rfl
 have l10:=L.len ok
 have ten:=ok.ten
 have en:qaw (ns.map Cl.name)=ns.map fun c=>PV.at (.str c.name):=by unfold qaw;rw [List.map_map];rfl
 refine qkl rfl (qa6 (ev_asg rfl rfl) (qa6 (qbi (x:=qd1 d.low) (qah rfl (v_sums ok.rin ok.h1 ok.h4))) (qa6 (qnp rfl) ?_)))
 obtain ⟨ε',e',rest⟩:=qeb (g:=qa4 8) (f:=dSeq (qdk 9 (qay pIx (qba [none,some 8] [0] (qfg (qat 3)) (qa4 0) (dT (qay pEq (qay pIx (qap 0) (dC (.int 0))) (qap 1))) (qat 0)) (dC (.int 0))))
  (dSeq (qdk 10 (qat 5))
  (dSeq (qh9 (dT (qay pNe (qay pIx (qap 9) (dC (.int 1))) (qap 4))) (qdk 10 (qay qd5 (qap 5) (qay pIx (qay pIx (qap 6) (qap 4)) (qay pIx (qap 9) (dC (.int 1)))))) qd8)
  (dSeq (qdk 5 (qay qd5 (qap 10) (qay pIx (qap 9) (dC (.int 2)))))
  (dSeq (qdk 4 (qay pIx (qap 9) (dC (.int 1))))
  (qfx 7 (qpb (qad (qat 8) (qad (qat 10) (qad (qat 5) qav))))))))))
  (fun c:Cl=>PV.at (.str c.name)) (fun l ε=>∃ (la ti:Int) (done:List (Cl × Int × Int)) (s8 s9 s10:MSlot),done++d.go la ti l=d.go d.last d.time ns/\(∀ c ∈ l,c ∈ ns)/\done.length + l.length=ns.length/\-1<=la/\la < (d.h:Int) /\
   ε=[.sh d.pv,.sh (nmP ns),.sh (qd1 d.rss),.sh (.lst (d.cls.map Cl.pv)),.sh (.at (.int la)),.sh (.at (.int ti)),.sh (qd1 d.low),.ow (.lst (done.map rwP)),s8,s9,s10]) (by
   rintro c l ε ⟨la,ti,done,s8,s9,s10,e1,e2,e3,g1,g2,rfl⟩
   have hc:=L.sub c (e2 c List.mem_cons_self)
   have hk:=ok.cl c hc
   simp only [List.length_cons] at e3
   have cm:qay pIx (qba [none,some 8] [0] (qfg (qat 3)) (qa4 0) (dT (qay pEq (qay pIx (qap 0) (dC (.int 0))) (qap 1))) (qat 0)) (dC (.int 0)) [.sh d.pv,.sh (nmP ns),.sh (qd1 d.rss),.sh (.lst (d.cls.map Cl.pv)),.sh (.at (.int la)),.sh (.at (.int ti)),.sh (qd1 d.low),.ow (.lst (done.map rwP)),.sh (.at (.str c.name)),s9,s10]=some c.pv:=by
    refine qaj (ev_cf Cl.pv Cl.pv (fun x=>decide (x.name=c.name)) d.cls rfl rfl (by omega) fun x hx=>⟨_,rfl,qe2 (qaj (qaj rfl rfl rfl) rfl (eq_str _ _)),fun _=>rfl⟩) rfl ?_
    rw [qg4 ok.nd hc]
    rfl
   have step:∀ be:Int,be=ti + d.rz la c.hue->dSeq (qdk 5 (qay qd5 (qap 10) (qay pIx (qap 9) (dC (.int 2)))))
     (dSeq (qdk 4 (qay pIx (qap 9) (dC (.int 1))))
     (qfx 7 (qpb (qad (qat 8) (qad (qat 10) (qad (qat 5) qav)))))) [.sh d.pv,.sh (nmP ns),.sh (qd1 d.rss),.sh (.lst (d.cls.map Cl.pv)),.sh (.at (.int la)),.sh (.at (.int ti)),.sh (qd1 d.low),.ow (.lst (done.map rwP)),.sh (.at (.str c.name)),.sh c.pv,.sh (.at (.int be))]
     = some (.nx [.sh d.pv,.sh (nmP ns),.sh (qd1 d.rss),.sh (.lst (d.cls.map Cl.pv)),.sh (.at (.int (c.hue:Int))),.sh (.at (.int (ti + d.rz la c.hue + c.len))),.sh (qd1 d.low),.ow (.lst ((done++[(c,ti + d.rz la c.hue,ti + d.rz la c.hue + c.len)]).map rwP)),.sh (.at (.str c.name)),.sh c.pv,.sh (.at (.int (ti + d.rz la c.hue)))]):=by
    rintro be rfl
    refine qa6 (qbi (qaj rfl (qaj rfl rfl rfl) rfl)) (qa6 (qbi (x:= .at (.int (c.hue:Int))) (qaj rfl rfl rfl)) ?_)
    show (if (done.map rwP).length<=lim then some (Out.nx [_,_,_,_,_,_,_,.ow (.lst (done.map rwP++[rwP (c,ti + d.rz la c.hue,ti + d.rz la c.hue + c.len)])),_,_,_]) else none)=_
    rw [if_pos (by rw [List.length_map];omega),List.map_append]
    rfl
   have inv:∃ (la' ti':Int) (done':List (Cl × Int × Int)) (s8 s9 s10:MSlot),done'++d.go la' ti' l=d.go d.last d.time ns/\(∀ c ∈ l,c ∈ ns)/\done'.length + l.length=ns.length/\-1<=la'/\la' < (d.h:Int) /\
     [MSlot.sh d.pv,.sh (nmP ns),.sh (qd1 d.rss),.sh (.lst (d.cls.map Cl.pv)),.sh (.at (.int (c.hue:Int))),.sh (.at (.int (ti + d.rz la c.hue + c.len))),.sh (qd1 d.low),.ow (.lst ((done++[(c,ti + d.rz la c.hue,ti + d.rz la c.hue + c.len)]).map rwP)),.sh (.at (.str c.name)),.sh c.pv,.sh (.at (.int (ti + d.rz la c.hue)))]=[.sh d.pv,.sh (nmP ns),.sh (qd1 d.rss),.sh (.lst (d.cls.map Cl.pv)),.sh (.at (.int la')),.sh (.at (.int ti')),.sh (qd1 d.low),.ow (.lst (done'.map rwP)),s8,s9,s10] :=
    ⟨(c.hue:Int),ti + d.rz la c.hue + c.len,done++[(c,ti + d.rz la c.hue,ti + d.rz la c.hue + c.len)],_,_,_,by rw [List.append_assoc];exact e1,fun x hx=>e2 x (List.mem_cons_of_mem _ hx),by rw [List.length_append];simp;omega,by omega,by have:=hk.hu;omega,rfl⟩
   by_cases hh:(c.hue:Int)=la
   ·refine ⟨_,_,rfl,qa6 (qbi cm) (qa6 (qbi (x:= .at (.int ti)) rfl) (qa6 (qdj (qe2 (v:=false) (qaj (qaj rfl rfl rfl) rfl ((ql6 _ _).trans (by rw [decide_eq_true hh];rfl)))) qch) (step ti (by unfold Dr.rz;rw [if_pos hh.symm];omega)))),inv⟩
   ·obtain ⟨r,x1,x2⟩:=row_at (qi7 ok.rin) g1 g2 hk.hu
    refine ⟨_,_,rfl,qa6 (qbi cm) (qa6 (qbi (x:= .at (.int ti)) rfl) (qa6 (qw0 (qe2 (v:=true) (qaj (qaj rfl rfl rfl) rfl ((ql6 _ _).trans (by rw [decide_eq_false hh];rfl)))) (qbi (x:= .at (.int (ti + d.rz la c.hue))) (qaj rfl (qaj (qaj rfl rfl x1) (qaj rfl rfl rfl) x2) ?_))) (step _ rfl))),inv⟩
    unfold Dr.rz
    rw [if_neg (Ne.symm hh)]
    rfl) ns _ ⟨d.last,d.time,[],.no,.no,.no,rfl,fun c h=>h,by simp,ok.l1,ok.l2,rfl⟩
 obtain ⟨la,ti,done,s8,s9,s10,e1,_,_,_,_,rfl⟩:=rest
 have e2:done=d.go d.last d.time ns:=by
  have:done++[]=d.go d.last d.time ns:=e1
  rwa [List.append_nil] at this
 subst e2
 exact qa6 (qkk (by show some (qaw (ns.map Cl.name))=_;rw [en]) e') rfl
end
end Lw
namespace Lw
open PySem L2 Mi
section
variable {C:Addr} {d:Dr}
end
end Lw
namespace Lw
open PySem L2 Mi
section
variable {C:Addr} {d:Dr}
theorem qkj {f:Str} {a:M} {ε:ME} {y:PV} {ns:List Str} {xs:List PV} (h1:a ε=some y) (h0:ε[0]?=some (.ow (.ob C ns xs))) (hf:f ∉ ns) (hl:ns.length < 1000):qgm C f a ε=some (.nx (ε.set 0 (.ow (.ob C (ns++[f]) (xs++[y]))))):=by
 unfold qgm
 rw [h1,Option.bind_some,h0]
 exact if_pos ⟨rfl,hf,hl⟩
theorem qr7 {nm:Str} {m:List PV->Option PV} {i:Nat} {as:MA} {ε:ME} {ns:List Str} {fs xs:List PV} {u:V} (h0:ε[i]?=some (.ow (.ob C ns fs))) (hn:nm ∉ ns) (k:as ε=some xs) (e:m (.ob C ns fs::xs)=some (.at u)):qmd C nm m i as ε=some (.at u):=by
 unfold qmd
 rw [h0]
 show (if C=C/\nm ∉ ns then _ else _)=_
 rw [if_pos ⟨rfl,hn⟩,k,Option.bind_some,e]
 rfl
theorem qun (ok:d.Ok):qc3 C [.ob C ["least"] [qd1 d.low]]=some (.at (.int d.h)):=by
 have G:=qi7 ok.rin
 refine qef rfl (qb2 (qaj (qah (qau (qkm rfl rfl) rfl) rfl) rfl ?_))
 show some (PV.at (.int (((d.low.map qgh).length:Int) - 1)))=_
 rw [List.length_map,show d.low.length=d.h + 1 from G.len,show ((d.h + 1:Nat):Int) - 1=(d.h:Int) by omega]
theorem qvn:∀ cs:List Cl,qqd (cs.map fun c=>PV.tup [.at (.str c.name),c.pv])=some (cs.map fun c=>((.inr c.name:Key),c.pv))
 | []=>rfl
 | c::cs=>by
  show Option.bind (some (Sum.inr c.name)) (fun kk=>(qqd (cs.map fun c=>PV.tup [.at (.str c.name),c.pv])).map ((kk,c.pv)::·))=_
  rw [Option.bind_some,qvn cs]
  rfl
theorem keys_nd {cs:List Cl} (h:(cs.map Cl.name).Nodup):(keysOf cs).Nodup:=by
 induction cs with
 | nil=>exact List.nodup_nil
 | cons c cs ih =>
  rw [List.map_cons] at h
  have h':=List.nodup_cons.mp h
  refine List.nodup_cons.mpr ⟨fun z=>?_,ih h'.2⟩
  obtain ⟨y,hy,e⟩:=List.mem_map.mp z
  injection e with e
  exact h'.1 (List.mem_map.mpr ⟨y,hy,e⟩)
theorem v_init (ok:d.Ok):qc2 C [qd1 d.rss,.lst (d.cls.map Cl.pv),.at (.int d.last),.at (.int d.time)]=some (d.ob C):=by
 have hlim:lim=1000000:=rfl
 have ten:=ok.ten
 have glen:=ok.rin.len
 have h4:=ok.h4
 have cp:∀ (s0 s2 s3 s4:MSlot),qba [none] [0] (qfg (qat 1)) (qa4 0) qd7 (qaq qe7 (qad (qap 0) qav)) [s0,.sh (qd1 d.rss),s2,s3,s4]=some (qd1 d.rss):=fun s0 s2 s3 s4 =>
  qfc qgh qgh d.rss rfl rfl (by omega) fun r _=>⟨_,rfl,rfl⟩
 have dk:∀ (s0 s1 s3 s4:MSlot),qaq qng (qad (qba [none] [0] (qfg (qat 2)) (qa4 0) qd7 (qpb (qad (qaq qcu (qad (qat 0) qav)) (qad (qat 0) qav)))) qav) [s0,s1,.sh (.lst (d.cls.map Cl.pv)),s3,s4]=some (.fk (keysOf d.cls) (d.cls.map Cl.pv)):=fun s0 s1 s3 s4=>by
  refine qah (qau (qfc Cl.pv (fun c=>PV.tup [.at (.str c.name),c.pv]) d.cls rfl rfl (by omega) fun c _=>⟨_,rfl,qo6 (qau (qah rfl rfl) (qau rfl rfl)) (by show 2<=lim;decide)⟩) rfl) ?_
  show (qqd (d.cls.map fun c=>PV.tup [.at (.str c.name),c.pv])).bind _=_
  have k1:(d.cls.map fun c=>((.inr c.name:Key),c.pv)).map (·.1)=keysOf d.cls:=by rw [List.map_map];rfl
  have k2:(d.cls.map fun c=>((.inr c.name:Key),c.pv)).map (·.2)=d.cls.map Cl.pv:=by rw [List.map_map];rfl
  rw [qvn,Option.bind_some,k1,k2]
  exact if_pos ⟨keys_nd ok.nd,by rw [List.length_map];omega⟩
 have run:qee C [.ow (.ob C [] []),.sh (qd1 d.rss),.sh (.lst (d.cls.map Cl.pv)),.sh (.at (.int d.last)),.sh (.at (.int d.time))]=some (.nx [.ow (d.ob C),.sh (qd1 d.rss),.sh (.lst (d.cls.map Cl.pv)),.sh (.at (.int d.last)),.sh (.at (.int d.time))]) :=
  qa6 (qkj (qah rfl (qk5 ok.rin ok.h1 ok.h4)) rfl (by decide) (by decide)) (qa6 (qkn (qah (qau rfl (qau rfl (qau (qr7 rfl (by decide) rfl (qun ok)) rfl))) (qms ok.l1 ok.l2 ok.t1)))
   (qa6 (qkn (qah (qau rfl (qau (qr7 rfl (by decide) rfl (qun ok)) rfl)) (qk7 ok.cl ok.nd ok.ten)))
   (qa6 (qkj (cp _ _ _ _) rfl (by decide) (by decide)) (qa6 (qkj (dk _ _ _ _) rfl (by decide) (by decide)) (qa6 (qkj (y:= .at (.int d.last)) (f := "last") (ns:=["least", "given", "held"]) (qnq (qe2 (v:=false) (qaj rfl rfl rfl)) rfl) rfl (by decide) (by decide)) (qkj (y:= .at (.int d.time)) (f := "time") (ns:=["least", "given", "held", "last"]) (xs:=[qd1 d.low,qd1 d.rss,.fk (keysOf d.cls) (d.cls.map Cl.pv),.at (.int d.last)]) rfl rfl (by decide) (by decide)))))))
 unfold qc2 qxb
 refine (if_pos rfl).trans ?_
 show (qee C [.ow (.ob C [] []),.sh (qd1 d.rss),.sh (.lst (d.cls.map Cl.pv)),.sh (.at (.int d.last)),.sh (.at (.int d.time))]).bind _=_
 rw [run]
 rfl
end
end Lw
namespace Lw
open PySem L2 Mi
def Dr.endT (d:Dr):Int->Int->List Cl->Int
 | _,t,[]=>t
 | l,t,c::cs=>d.endT (c.hue:Int) (t + d.rz l c.hue + c.len) cs
section
variable {C:Addr} {d:Dr}
theorem qqv:∀ {ns:List Cl} {l t:Int},ns ≠ []->∃ r,(d.go l t ns).getLast?=some r/\r.2.2=d.endT l t ns
 | [],_,_,h=>absurd rfl h
 | [c],l,t,_=>⟨_,rfl,rfl⟩
 | c::c2::cs,l,t,_=>by
  obtain ⟨r,e1,e2⟩:=qqv (ns:=c2::cs) (l:=(c.hue:Int)) (t:=t + d.rz l c.hue + c.len) (fun z=>nomatch z)
  refine ⟨r,?_,e2⟩
  show ((c,t + d.rz l c.hue,t + d.rz l c.hue + c.len)::d.go c.hue (t + d.rz l c.hue + c.len) (c2::cs)).getLast?=_
  rw [List.getLast?_cons,e1]
  rfl
theorem qn0 {α:Type} {xs:List α} {x:α} (h:xs.getLast?=some x):atI xs (-1)=some x:=by
 have hl:xs ≠ []:=fun z=>by rw [z] at h;cases h
 have hp:0 < xs.length:=List.length_pos_iff.mpr hl
 rw [List.getLast?_eq_getElem?] at h
 unfold atI ixN
 rw [if_neg (by decide),if_pos (by omega)]
 show xs[((-1:Int) + (xs.length:Int)).toNat]?=_
 rw [show ((-1:Int) + (xs.length:Int)).toNat=xs.length - 1 by omega]
 exact h
theorem v_end (ok:d.Ok) {ns:List Cl} (L:Lst d ns):qhj C [d.ob C,nmP ns]=some (.at (.int (d.endT d.last d.time ns))):=by
 refine qef rfl (qa6 (qbi (qah rfl (quo ok L))) (qb2 ?_))
 by_cases h:ns=[]
 ·subst h
  exact qnq rfl (qaj (qfw rfl (by decide) rfl qul) rfl rfl)
 ·obtain ⟨r,e1,e2⟩:=qqv (d:=d) (l:=d.last) (t:=d.time) h
  have ne:d.go d.last d.time ns ≠ []:=fun z=>by rw [z] at e1;cases e1
  refine qwz ?_ (qaj (qaj rfl rfl (qn0 (x:=rwP r) ?_)) rfl ?_)
  ·show some (!((d.go d.last d.time ns).map rwP).isEmpty)=_
   cases hg:d.go d.last d.time ns with
   | nil=>exact absurd hg ne
   | cons x xs=>rfl
  ·rw [List.getLast?_map,e1]
   rfl
  ·rw [<- e2]
   rfl
theorem ql1 {rs:List (Cl × Int × Int)}:qhf 6 (.lst (rs.map rwP)):=fun x hx=>by
 obtain ⟨r,_,rfl⟩:=List.mem_map.mp hx
 intro y hy
 have h:y = .at (.str r.1.name) ∨ y = .at (.int r.2.1) ∨ y = .at (.int r.2.2):=by simpa using hy
 rcases h with rfl | rfl | rfl <;> rfl
end
end Lw
namespace Lw
open PySem L2 Mi
def qfm (pre:List (List Cl)) (r:List Cl) (p:Cl):List Cl->List (List Cl)
 | []=>pre++[r]
 | c::cs=>if p.hue=c.hue then qfm pre (r++[c]) c cs else qfm (pre++[r]) [c] c cs
def qgu:List Cl->List (List Cl)
 | []=>[]
 | c::cs=>qfm [] [c] c cs
def nmD (r:List Cl):DT:= .ls (r.map fun c=> .sh (.at (.str c.name)))
def qe5 (rs:List (List Cl)):DT:= .ls (rs.map nmD)
theorem qm8 {α:Type} (f:α->DT):∀ xs:List α,DT.pvs (xs.map f)=xs.map fun x=>(f x).pv
 | []=>rfl
 | x::xs=>congrArg (List.cons _) (qm8 f xs)
theorem qm4 (rs:List (List Cl)):(qe5 rs).pv = .lst (rs.map nmP):=by
 show PV.lst (DT.pvs (rs.map nmD))=_
 rw [qm8]
 congr 1
 refine List.map_congr_left fun r _=>?_
 show PV.lst (DT.pvs (r.map fun c=>DT.sh (.at (.str c.name))))=_
 rw [qm8]
 unfold nmP qaw
 rw [List.map_map]
 rfl
theorem ixN_last {n:Nat}:ixN (n + 1) (-1)=some n:=by
 unfold ixN
 rw [if_neg (by decide),if_pos (by omega)]
 congr 1
 omega
theorem qnw {P R:List DT} {y:DT} (h:R.length<=lim):DT.chg (qhb y) [-1] (.ls (P++[.ls R]))=some (.ls (P++[.ls (R++[y])])):=by
 have e1:DT.chg (qhb y) [-1] (.ls (P++[.ls R]))=(ixN (P++[DT.ls R]).length (-1)).bind fun k=>((P++[DT.ls R])[k]?).bind fun z=>(DT.chg (qhb y) [] z).bind fun z'=>some (.ls ((P++[DT.ls R]).set k z')):=by
  conv=>lhs;unfold DT.chg
 rw [e1,List.length_append,List.length_singleton,ixN_last,Option.bind_some,List.getElem?_append_right (Nat.le_refl _),Nat.sub_self]
 show (DT.chg (qhb y) [] (.ls R)).bind _=_
 have e2:DT.chg (qhb y) [] (.ls R)=some (.ls (R++[y])):=by
  unfold DT.chg qhb
  rw [if_pos h]
  rfl
 rw [e2,Option.bind_some,List.set_append_right _ _ (Nat.le_refl _),Nat.sub_self]
 rfl
theorem qnx {P:List DT} {y:DT} (h:P.length<=lim):DT.chg (qhb y) [] (.ls P)=some (.ls (P++[y])):=by
 unfold DT.chg qhb
 rw [if_pos h]
 rfl
theorem pv_inj {c c':Cl} (h:c.pv=c'.pv):c=c':=by
 obtain ⟨a1,a2,a3,a4,a5⟩:=c
 obtain ⟨b1,b2,b3,b4,b5⟩:=c'
 injection h with h
 injection h with h1 h
 injection h with h2 h
 injection h with h3 h
 injection h with h4 h
 injection h with h5 h
 injection h1 with h1;injection h1 with h1
 injection h2 with h2;injection h2 with h2
 injection h3 with h3;injection h3 with h3
 injection h4 with h4;injection h4 with h4
 injection h5 with h5;injection h5 with h5
 have h2':a2=b2:=Int.ofNat.inj h2
 subst h1 h2' h3 h4 h5
 rfl
theorem mapI {α β:Type} {f:α->β} (hf:∀ x y,f x=f y->x=y):∀ {xs ys:List α},xs.map f=ys.map f->xs=ys
 | [],[],_=>rfl
 | [],_::_,h=>by cases h
 | _::_,[],h=>by cases h
 | x::xs,y::ys,h=>by
  rw [List.map_cons,List.map_cons] at h
  injection h with h1 h2
  rw [hf x y h1,mapI hf h2]
theorem qv8 {cs:List Cl} (nd:(cs.map Cl.name).Nodup) {c c':Cl} (hc:c ∈ cs) (hc':c' ∈ cs) (h:c.name=c'.name):c=c':=by
 have e1:=qg4 nd hc
 have e2:=qg4 nd hc'
 rw [h,e2] at e1
 injection e1 with e1
 exact e1.symm
theorem ob_cls {C:Addr} {d d':Dr} (h:d.ob C=d'.ob C):d.cls=d'.cls:=by
 unfold Dr.ob at h
 injection h with _ _ h
 injection h with _ h
 injection h with _ h
 injection h with h _
 injection h with _ h
 exact mapI (fun _ _=>pv_inj) h
theorem qr0 {d:Dr} (ok:d.Ok):∀ {ns ms:List Cl},(∀ c ∈ ns,c ∈ d.cls)->(∀ c ∈ ms,c ∈ d.cls)->ns.map Cl.name=ms.map Cl.name->ns=ms
 | [],[],_,_,_=>rfl
 | [],_::_,_,_,h=>by cases h
 | _::_,[],_,_,h=>by cases h
 | a::ns,b::ms,h1,h2,h=>by
  rw [List.map_cons,List.map_cons] at h
  injection h with e1 e2
  rw [qv8 ok.nd (h1 a List.mem_cons_self) (h2 b List.mem_cons_self) e1,qr0 ok (fun c hc=>h1 c (List.mem_cons_of_mem _ hc)) (fun c hc=>h2 c (List.mem_cons_of_mem _ hc)) e2]
def RunsR (C:Addr) (xs:List PV) (y:DT):Prop:=∃ (d:Dr) (ns:List Cl),d.Ok/\Lst d ns/\xs=[d.ob C,nmP ns]/\y=qe5 (qgu ns)
open Classical in
noncomputable def qfa (C:Addr):List PV->Option DT:=fun xs=>if h:∃ y,RunsR C xs y then some h.choose else none
theorem v_runsD {C:Addr} {d:Dr} {ns:List Cl} (ok:d.Ok) (L:Lst d ns):qfa C [d.ob C,nmP ns]=some (qe5 (qgu ns)):=by
 have h:∃ y,RunsR C [d.ob C,nmP ns] y:=⟨_,d,ns,ok,L,rfl,rfl⟩
 unfold qfa
 rw [dif_pos h]
 obtain ⟨d',ns',ok',L',e,ey⟩:=h.choose_spec
 rw [ey]
 injection e with e1 e2
 injection e2 with e2 _
 have ec:=ob_cls e1
 have en:=qg9 (by injection e2:qaw (ns.map Cl.name)=qaw (ns'.map Cl.name))
 rw [qr0 ok L.sub (fun c hc=>by rw [ec];exact L'.sub c hc) en]
def noX:List PV->Addr->Prop:=fun _ _=>False
def Sh1 (s:MSlot):Prop:=s = .no ∨ ∃ x,s = .sh x
theorem qf2:AllSh []:=fun i s h=>by simp at h
theorem qak {s:MSlot} {ε:ME} (h1:Sh1 s) (h:AllSh ε):AllSh (s::ε):=fun i t q=>by
 cases i with
 | zero=>simp at q;subst q;exact h1
 | succ i=>exact h i t (by simpa using q)
theorem qm2:Sh1 .no:= .inl rfl
theorem qdh {x:PV}:Sh1 (.sh x):= .inr ⟨x,rfl⟩
theorem repsM_ff {Hs H:Hp} {x y:PV} {vs:List V} (h:RepsM Hs H [false,false] [x,y] vs):Reps Hs [x,y] vs:=by
 obtain ⟨x1,xr,v1,vr,e1,rfl,p1,h1⟩:=h
 obtain ⟨x2,xr2,v2,vr2,e2,rfl,p2,h2⟩:=h1
 obtain ⟨e3,rfl⟩:=h2
 cases e1
 cases e2
 exact .cons p1 (.cons p2 .nil)
abbrev qel:Stmt:=top 28
theorem sc_runs_of:qar ["works", "names", "runs", "last", "name", "hue"] ["works", "names"] (qab qel):=⟨rfl,rfl,rfl,by decide +kernel,rfl,by decide +kernel,by decide +kernel⟩
theorem qtt {C:Addr} {vs:List V} {H:Hp} {Q:VK} {E:XK} (h:spDX [false,false] (qfa C) noX vs H Q E):vs.length=2:=by
 obtain ⟨Hs,xs,_,r,_⟩:=h
 exact r.length.2
theorem qtc {P:Program} {w:World} {K:PySem.W.Frag} {mg:Str->Option Value} {base:Heap} {f:Addr} {fd:FuncData} {C_Works:Addr} (F:Fun K "runs_of" "runs_of" qel f fd) (c_check_names:Fn P w K mg base 3 "check_names" ["works", "names"] (spP (qbz C_Works))) (c_hue_of:Fn P w K mg base 1 "hue_of" ["cloth"] (spP qcs)) (t_Works_cloth:Mt P w K mg base 1 C_Works "cloth" ["self", "name"] (spP (qbk C_Works))):FnOk P w K mg base CX0 4 f fd ["works", "names"] (spDX [false,false] (qfa C_Works) noX):=by
 refine F.ok (k:=3) sc_runs_of (fun vs H Q E h=>qtt h) (fun cdv A outer s H vs Q E hr h=>⟨_,(@qae _ _ _ _ _ (qc9 (qa3 c_check_names hr (by decide) rfl (@qaa _ _ _ _ _ (pv 0) (@qaa _ _ _ _ _ (pv 1) qac (by rfl)) (by rfl))))
  (@qae _ _ _ _ _ (@qaz _ _ 2 _ _ _ _ sc_runs_of.nd rfl (Or.inl rfl) (@qbx _ _ _ _ qac) (by rfl) (.inl rfl))
  (@qae _ _ _ _ _ (@qaz _ _ 3 _ _ _ _ sc_runs_of.nd rfl (Or.inl rfl) qvt (by rfl) (.inl rfl))
  (@qae _ _ _ _ _ (qeq PassesOwn.never rfl (@qbg _ K _ _ _ rfl (pv 1)) (qa2 (i:=4) sc_runs_of.nd rfl (Or.inl rfl))
   (@qae _ _ _ _ _ (@qaz _ _ 5 _ _ _ _ sc_runs_of.nd rfl (Or.inl rfl) (qa3 c_hue_of hr (by decide) rfl (@qaa _ _ _ _ _ (qru t_Works_cloth hr (by decide) (pv 0) (@qaa _ _ _ _ _ (pv 4) qac (by rfl))) qac (by rfl))) (by rfl) (.inl rfl))
  (@qae _ _ _ _ _ (qc7 (qbe (qfe (K:=K) (hu6 hr) rfl) (pv 5) (pv 3) (qbl _)) (@qag _ _ _ (qc9 (qgk (K:=K) rfl PySem.F.plainAttrs_list PySem.F.slot_list_append PySem.F.type_list_append qdb (pv 2) (qaa (@qbx _ _ _ _ qac) qac)))) qbf)
  (@qae _ _ _ _ _ (qc9 (qgk (K:=K) rfl PySem.F.plainAttrs_list PySem.F.slot_list_append PySem.F.type_list_append qdb (qbb (qao (K:=K) rfl) (pv 2) (qnc qg8 qaf) (fun _ _=>rfl)) (qaa (pv 4) qac)))
  (@qag _ _ _ (@qaz _ _ 3 _ _ _ _ sc_runs_of.nd rfl (Or.inl rfl) (pv 5) (by rfl) (.inl rfl)))))))
  (@qag _ _ _ (qa5 (pv 2))))))),?_⟩)
 have hlim:lim=1000000:=rfl
 obtain ⟨Hs,xs,sm,r,h⟩:=h
 rcases h with ⟨y,e,q⟩ | ⟨c,z,_⟩
 rotate_left
 ·exact z.elim
 unfold qfa at e
 split at e
 rotate_left
 ·cases e
 rename_i hex
 injection e with e
 obtain ⟨d,ns,ok,L,rfl,ey⟩:=hex.choose_spec
 rw [e] at ey
 subst ey
 have l10:=L.len ok
 have rs:=qe6 (N:=["works", "names", "runs", "last", "name", "hue"]) sm (repsM_ff r)
 refine sq_S (fr:=false) (b:=qnt (qaq (qbz C_Works) (qad (qat 0) (qad (qat 1) qav)))) rs (qkn (qah rfl (qg7 ok L (v_are ok L)))) fun Hs1 H1 σ1 r1=>?_
 refine sq_new (f:=qff qav) (j:=2) (ys:=[]) r1 (qak qdh (qak qdh (qak qm2 (qak qm2 (qak qm2 (qak qm2 qf2)))))) (by show 2 < 6;decide) (qdu rfl (by show 0<=lim;decide)) fun Hs2 H2 σ2 r2=>?_
 refine qmu (fr:=false) (b:=qdk 3 (dC .non)) (ε':=[.sh (d.ob C_Works),.sh (nmP ns),.no,.sh (.at .non),.no,.no]) r2 (fun a=>rfl) (qak qdh (qak qdh (qak qm2 (qak qdh (qak qm2 (qak qm2 qf2)))))) (by show 2 < 6;decide) fun Hs3 H3 σ3 r3=>?_
 refine sq_for (it:=qfg (qat 1)) (g:=qa4 4) (fun c:Cl=>PV.at (.str c.name)) ns (fun l ε x=>∃ s4 s5:MSlot,Sh1 s4/\Sh1 s5/\(∀ c ∈ l,c ∈ ns)/\((l=ns/\x=qe5 []/\ε=[.sh (d.ob C_Works),.sh (nmP ns),.no,.sh (.at .non),s4,s5]) ∨
   ∃ (pre:List (List Cl)) (g:List Cl) (p:Cl),x=qe5 (pre++[g])/\qfm pre g p l=qgu ns/\1<=g.length/\pre.length + g.length + l.length<=ns.length/\ε=[.sh (d.ob C_Works),.sh (nmP ns),.no,.sh (.at (.int (p.hue:Int))),s4,s5])) r3 (fun a=>?_) ⟨.no,.no,qm2,qm2,fun c h=>h,.inl ⟨rfl,rfl,rfl⟩⟩ ?_ ?_
 ·show some (qaw (ns.map Cl.name))=_
  unfold qaw
  rw [List.map_map];rfl
 ·rintro c l ε x ⟨s4,s5,h4,h5,sub,cas⟩
  have hc:=L.sub c (sub c List.mem_cons_self)
  have sub':∀ c ∈ l,c ∈ ns:=fun y hy=>sub y (List.mem_cons_of_mem _ hy)
  have vc:=qup (C:=C_Works) ok hc
  rcases cas with ⟨el,rfl,rfl⟩ | ⟨pre,g,p,rfl,erun,hg1,hlen,rfl⟩
  ·refine ⟨[.sh (d.ob C_Works),.sh (nmP ns),.no,.sh (.at .non),.sh (.at (.str c.name)),s5],fun a=>rfl,qak qdh (qak qdh (qak qm2 (qak qdh (qak qdh (qak h5 qf2))))),by show 2 < 6;decide,fun Hb Hs H σ D rx k=>?_⟩
   refine qmu (fr:=false) (b:=qdk 5 (qaq qcs (qad (qgi C_Works "cloth" (qbk C_Works) (qat 0) (qad (qat 4) qav)) qav))) (ε':=[.sh (d.ob C_Works),.sh (nmP ns),.no,.sh (.at .non),.sh (.at (.str c.name)),.sh (.at (.int (c.hue:Int)))]) rx (fun a=>qbi (qah (qau (qfw rfl (by decide) rfl vc) rfl) rfl)) (qak qdh (qak qdh (qak qm2 (qak qdh (qak qdh (qak qdh qf2)))))) (by show 2 < 6;decide) fun Hs4 H4 σ4 r4=>?_
   refine qu0 (c:=dT (qay pNe (qap 5) (qap 3))) (k:=true) r4 (qe2 (qaj rfl rfl rfl)) (fun _ H5 r5=>?_) (fun z=>nomatch z)
   refine qp5 (f:=qff qav) (ys0:=[]) r5 (fun a=>qdu rfl (by show 0<=lim;decide)) (x':=qe5 [[]]) rfl fun Hs6 H6 r6=>?_
   refine qjo (f:=qat 4) (y:= .at (.str c.name)) r6 (fun a=>rfl) (x':=qe5 [[c]]) (qnw (P:=[]) (R:=[]) (by show 0<=lim;decide)) fun Hs7 H7 r7=>?_
   refine qns (fr:=false) (b:=qdk 3 (qat 5)) (ε':=[.sh (d.ob C_Works),.sh (nmP ns),.no,.sh (.at (.int (c.hue:Int))),.sh (.at (.str c.name)),.sh (.at (.int (c.hue:Int)))]) r7 (fun a=>rfl) (qak qdh (qak qdh (qak qm2 (qak qdh (qak qdh (qak qdh qf2)))))) (by show 2 < 6;decide) fun Hs8 H8 σ8 r8=>?_
   refine k _ _ _ _ _ ⟨_,_,qdh,qdh,sub',.inr ⟨[],[c],c,rfl,?_,Nat.le_refl _,?_,rfl⟩⟩ r8
   ·rw [<- el];rfl
   ·rw [<- el];simp;omega
  ·simp only [List.length_cons] at hlen
   refine ⟨[.sh (d.ob C_Works),.sh (nmP ns),.no,.sh (.at (.int (p.hue:Int))),.sh (.at (.str c.name)),s5],fun a=>rfl,qak qdh (qak qdh (qak qm2 (qak qdh (qak qdh (qak h5 qf2))))),by show 2 < 6;decide,fun Hb Hs H σ D rx k=>?_⟩
   refine qmu (fr:=false) (b:=qdk 5 (qaq qcs (qad (qgi C_Works "cloth" (qbk C_Works) (qat 0) (qad (qat 4) qav)) qav))) (ε':=[.sh (d.ob C_Works),.sh (nmP ns),.no,.sh (.at (.int (p.hue:Int))),.sh (.at (.str c.name)),.sh (.at (.int (c.hue:Int)))]) rx (fun a=>qbi (qah (qau (qfw rfl (by decide) rfl vc) rfl) rfl)) (qak qdh (qak qdh (qak qm2 (qak qdh (qak qdh (qak qdh qf2)))))) (by show 2 < 6;decide) fun Hs4 H4 σ4 r4=>?_
   have fin:∀ (pre':List (List Cl)) (g':List Cl),qfm pre' (g'++[c]) c l=qgu ns->g'.length<=lim->pre'.length + (g'.length + 1) + l.length<=ns.length->∀ (Hs5 H5:Hp),RX 2 Hb H Hs5 H5 σ4 [.sh (d.ob C_Works),.sh (nmP ns),.no,.sh (.at (.int (p.hue:Int))),.sh (.at (.str c.name)),.sh (.at (.int (c.hue:Int)))] (qe5 (pre'++[g']))->True:=fun _ _ _ _ _ _ _ _=>trivial
   by_cases hh:p.hue=c.hue
   ·refine dm_if (c:=dT (qay pNe (qap 5) (qap 3))) (k:=false) r4 (qe2 (qaj rfl rfl ((ql6 _ _).trans (by rw [hh,decide_eq_true rfl];rfl)))) (fun z=>nomatch z) (fun _ H5 r5=>qmt ?_)
    refine qjo (f:=qat 4) (y:= .at (.str c.name)) r5 (fun a=>rfl) (x':=qe5 (pre++[g++[c]])) ?_ fun Hs7 H7 r7=>?_
    ·unfold qe5
     rw [List.map_append,List.map_append]
     have e1:nmD (g++[c]) = .ls ((g.map fun c=>DT.sh (.at (.str c.name)))++[.sh (.at (.str c.name))]):=by unfold nmD;rw [List.map_append];rfl
     show DT.chg _ [-1] (.ls (pre.map nmD++[nmD g]))=some (.ls (pre.map nmD++[nmD (g++[c])]))
     rw [e1]
     exact qnw (by rw [List.length_map];omega)
    refine qns (fr:=false) (b:=qdk 3 (qat 5)) (ε':=[.sh (d.ob C_Works),.sh (nmP ns),.no,.sh (.at (.int (c.hue:Int))),.sh (.at (.str c.name)),.sh (.at (.int (c.hue:Int)))]) r7 (fun a=>rfl) (qak qdh (qak qdh (qak qm2 (qak qdh (qak qdh (qak qdh qf2)))))) (by show 2 < 6;decide) fun Hs8 H8 σ8 r8=>?_
    refine k _ _ _ _ _ ⟨_,_,qdh,qdh,sub',.inr ⟨pre,g++[c],c,rfl,?_,?_,?_,rfl⟩⟩ r8
    ·rw [<- erun]
     show _=if p.hue=c.hue then qfm pre (g++[c]) c l else _
     rw [if_pos hh]
    ·rw [List.length_append];omega
    ·rw [List.length_append];show pre.length + (g.length + 1) + l.length<=_;omega
   ·have hh':¬ ((c.hue:Int)=(p.hue:Int)):=fun z=>hh (Int.ofNat.inj z).symm
    refine qu0 (c:=dT (qay pNe (qap 5) (qap 3))) (k:=true) r4 (qe2 (qaj rfl rfl ((ql6 _ _).trans (by rw [decide_eq_false hh'];rfl)))) (fun _ H5 r5=>?_) (fun z=>nomatch z)
    refine qp5 (f:=qff qav) (ys0:=[]) r5 (fun a=>qdu rfl (by show 0<=lim;decide)) (x':=qe5 ((pre++[g])++[[]])) ?_ fun Hs6 H6 r6=>?_
    ·unfold qe5
     rw [List.map_append (l₁:=pre++[g])]
     exact qnx (by rw [List.length_map,List.length_append];show pre.length + 1<=lim;omega)
    refine qjo (f:=qat 4) (y:= .at (.str c.name)) r6 (fun a=>rfl) (x':=qe5 ((pre++[g])++[[c]])) ?_ fun Hs7 H7 r7=>?_
    ·unfold qe5
     rw [List.map_append (l₁:=pre++[g]),List.map_append (l₁:=pre++[g])]
     exact qnw (P:=(pre++[g]).map nmD) (R:=[]) (by show 0<=lim;decide)
    refine qns (fr:=false) (b:=qdk 3 (qat 5)) (ε':=[.sh (d.ob C_Works),.sh (nmP ns),.no,.sh (.at (.int (c.hue:Int))),.sh (.at (.str c.name)),.sh (.at (.int (c.hue:Int)))]) r7 (fun a=>rfl) (qak qdh (qak qdh (qak qm2 (qak qdh (qak qdh (qak qdh qf2)))))) (by show 2 < 6;decide) fun Hs8 H8 σ8 r8=>?_
    refine k _ _ _ _ _ ⟨_,_,qdh,qdh,sub',.inr ⟨pre++[g],[c],c,rfl,?_,Nat.le_refl _,?_,rfl⟩⟩ r8
    ·rw [<- erun]
     show _=if p.hue=c.hue then _ else qfm (pre++[g]) [c] c l
     rw [if_neg hh]
    ·rw [List.length_append];show pre.length + 1 + 1 + l.length<=_;omega
 ·rintro ε x Hs4 H4 σ4 ⟨s4,s5,h4,h5,sub,cas⟩ r4
  refine dm_retD r4 fun a F Hs5 H5 x5 fre d5=>q a F Hs5 H5 x5 fre ?_
  rcases cas with ⟨el,rfl,rfl⟩ | ⟨pre,g,p,rfl,erun,hg1,hlen,rfl⟩
  ·rw [<- el];exact d5
  ·rw [<- erun];exact d5
end Lw
namespace Lw
open PySem L2 Mi
section
variable {C:Addr} {d:Dr}
theorem cut_init (P:List PV) (z:PV):qxg (P++[z]) none (some (-1))=P:=by
 unfold qxg
 rw [HT.sIx_none,List.drop_zero,Nat.sub_zero]
 have e:HT.sIx (P++[z]).length (P++[z]).length (some (-1))=P.length:=by
  show (if (-1:Int) < 0 then ((-1:Int) + ((P++[z]).length:Int)).toNat else min (-1:Int).toNat (P++[z]).length)=P.length
  rw [if_pos (by decide),List.length_append,List.length_singleton]
  omega
 rw [e]
 exact List.take_left' rfl
def qqs (c:Cl):PV:= .at (.int (c.hue:Int))
def qtz (k:Nat):List Cl->List (Nat × Cl)
 | []=>[]
 | c::cs=>(k,c)::qtz (k + 1) cs
theorem qr9:∀ (k:Nat) (cs:List Cl),qhl k (qaw (cs.map Cl.name))=(qtz k cs).map fun p=>PV.tup [.at (.int (p.1:Int)),.at (.str p.2.name)]
 | _,[]=>rfl
 | k,c::cs=>congrArg (List.cons _) (qr9 (k + 1) cs)
theorem v_lruns (ok:d.Ok) {ns:List Cl} (L:Lst d ns):qj9 [d.pv,nmP ns]=some (.lst ((qgu ns).map nmP)):=by
 have hlim:lim=1000000:=rfl
 have l10:=L.len ok
 have ten:=ok.ten
 obtain ⟨ε1,e1,i1⟩:=qeb (g:=qa4 3) (f:=dPut 2 (qay pIx (qap 3) (dC (.int 0))) (qay pIx (qap 3) (dC (.int 1)))) Cl.pv (fun l ε=>∃ (done:List Cl) (s3:MSlot),done++l=d.cls/\ε=[.sh d.pv,.sh (nmP ns),.ow (.dk (keysOf done) (done.map qqs)),s3,.no,.no,.no]) (by
  rintro c l ε ⟨done,s3,e,rfl⟩
  have hn:c.name ∉ done.map Cl.name:=fun z=>by
   have nd:=ok.nd
   rw [<- e,List.map_append,List.map_cons] at nd
   exact (List.nodup_append.mp nd).2.2 _ z _ List.mem_cons_self rfl
  have ln:=qqm (α:=Unit) qqs hn
  have hd:done.length<=10:=by rw [<- e] at ten;rw [List.length_append] at ten;omega
  refine ⟨_,_,rfl,?_,done++[c],.sh c.pv,by rw [<- e,List.append_assoc];rfl,rfl⟩
  show (if (keysOf done).length<=lim then some (Out.nx [_,_,.ow (qs6 (.inr c.name) (qqs c) (keysOf done) (done.map qqs)),_,_,_,_]) else none)=_
  unfold qs6
  rw [if_pos (by unfold keysOf;rw [List.length_map];omega),ln]
  simp only [Option.isSome_none,Bool.false_eq_true,if_false]
  unfold keysOf
  rw [List.map_append,List.map_append]
  rfl) d.cls _ ⟨[],.no,rfl,rfl⟩
 obtain ⟨done,s3,ed,rfl⟩:=i1
 rw [List.append_nil] at ed
 subst ed
 have lk:∀ c ∈ ns,∀ (s0 s1 s3 s4 s5 s6:MSlot) (b:M),b [s0,s1,.ow (.dk (keysOf d.cls) (d.cls.map qqs)),s3,s4,s5,s6]=some (.at (.str c.name))->qiz (qap 2) b [s0,s1,.ow (.dk (keysOf d.cls) (d.cls.map qqs)),s3,s4,s5,s6]=some (qqs c):=fun c hc s0 s1 s3 s4 s5 s6 b hb=>by
  unfold qiz
  show (Option.bind (b _) fun y=>_)=_
  rw [hb]
  exact qnm qqs ok.nd c (L.sub c hc)
 obtain ⟨ε2,e2,i2⟩:=qeb (g:=mTup 2 (qfb (qa4 5) (qfb (qa4 6) mNil))) (f:=qh9 (dOr (dT (qay pEq (qap 5) (dC (.int 0)))) (dT (qay pNe (qiz (qap 2) (qay pIx (qap 1) (qay qqg (qap 5) (dC (.int 1))))) (qiz (qap 2) (qap 6))))) (qdk 4 (qay qd5 (qap 4) (qff (qad (qff (qad (qat 6) qav)) qav)))) (qdk 4 (qay qd5 (dSlL (qap 4) pNo (pSo (dUn pNeg (dC (.int 1))))) (qff (qad (qay qd5 (qay pIx (qap 4) (dUn pNeg (dC (.int 1)))) (qff (qad (qat 6) qav))) qav)))))
  (fun p:Nat × Cl=>PV.tup [.at (.int (p.1:Int)),.at (.str p.2.name)]) (fun l ε=>∃ (don rest:List Cl) (s5 s6:MSlot),ns=don++rest/\l=qtz don.length rest/\((don=[]/\ε=[.sh d.pv,.sh (nmP ns),.ow (.dk (keysOf d.cls) (d.cls.map qqs)),s3,.sh (.lst []),s5,s6]) ∨
   ∃ (pre:List (List Cl)) (g:List Cl) (p:Cl),don.getLast?=some p/\qfm pre g p rest=qgu ns/\1<=g.length/\pre.length + g.length + rest.length<=ns.length/\ε=[.sh d.pv,.sh (nmP ns),.ow (.dk (keysOf d.cls) (d.cls.map qqs)),s3,.sh (.lst ((pre++[g]).map nmP)),s5,s6])) (by
  rintro ⟨k,c⟩ l ε ⟨don,rest,s5,s6,en,el,cas⟩
  cases rest with
  | nil=>cases el
  | cons c' rest =>
   injection el with el1 el2
   injection el1 with ek ec
   subst ek ec
   have hc:c ∈ ns:=by rw [en];exact List.mem_append_right _ List.mem_cons_self
   have en':ns=(don++[c])++rest:=by rw [en,List.append_assoc];rfl
   have el':l=qtz (don++[c]).length rest:=by rw [el2,List.length_append];rfl
   have gl:(don++[c]).getLast?=some c:=by simp
   rcases cas with ⟨rfl,rfl⟩ | ⟨pre,g,p,hp,erun,hg1,hlen,rfl⟩
   ·refine ⟨_,_,rfl,qw0 (dOr_t (qe2 (v:=true) (qaj rfl rfl rfl))) (qbi (x:= .lst (([[c]]:List (List Cl)).map nmP)) (qaj rfl (qdu (qau (qdu rfl (by show 1<=lim;decide)) rfl) (by show 1<=lim;decide)) (qe8 (by show 0 + 1<=lim;decide)))),[]++[c],rest,_,_,en',el',.inr ⟨[],[c],c,gl,?_,Nat.le_refl _,?_,rfl⟩⟩
    ·rw [en];rfl
    ·rw [en];simp;omega
   ·simp only [List.length_cons] at hlen
    have hpn:p ∈ ns:=by rw [en];exact List.mem_append_left _ (List.mem_of_getLast? hp)
    have dl:1<=don.length:=by
     cases don with
     | nil=>cases hp
     | cons _ _=>simp
    have a1:atI (qaw (ns.map Cl.name)) ((don.length:Int) - 1)=some (.at (.str p.name)):=by
     rw [show ((don.length:Int) - 1)=((don.length - 1:Nat):Int) by omega]
     refine qdx ?_
     unfold qaw
     rw [List.map_map,List.getElem?_map,en,List.getElem?_append_left (by omega),<- List.getLast?_eq_getElem?,hp]
     rfl
    have h0:∀ s4 s6:MSlot,dT (qay pEq (qap 5) (dC (.int 0))) [.sh d.pv,.sh (nmP ns),.ow (.dk (keysOf d.cls) (d.cls.map qqs)),s3,s4,.sh (.at (.int (don.length:Int))),s6]=some false:=fun _ _=>qe2 (qaj rfl rfl ((qw2 _ _).trans (by rw [decide_eq_false (by omega)])))
    have g1:∀ s4 s6:MSlot,qiz (qap 2) (qay pIx (qap 1) (qay qqg (qap 5) (dC (.int 1)))) [.sh d.pv,.sh (nmP ns),.ow (.dk (keysOf d.cls) (d.cls.map qqs)),s3,s4,.sh (.at (.int (don.length:Int))),s6]=some (qqs p):=fun _ _=>lk p hpn _ _ _ _ _ _ _ (qaj rfl (qaj rfl rfl rfl) a1)
    have g2:∀ s4 s5:MSlot,qiz (qap 2) (qap 6) [.sh d.pv,.sh (nmP ns),.ow (.dk (keysOf d.cls) (d.cls.map qqs)),s3,s4,s5,.sh (.at (.str c.name))]=some (qqs c):=fun _ _=>lk c hc _ _ _ _ _ _ _ rfl
    by_cases hh:p.hue=c.hue
    ·refine ⟨_,_,rfl,qdj (qko (h0 _ _) (qe2 (v:=false) (qaj (g1 _ _) (g2 _ _) ((ql6 _ _).trans (by rw [hh,decide_eq_true rfl];rfl))))) (qbi (x:= .lst ((pre++[g++[c]]).map nmP)) (qaj (x:= .lst (pre.map nmP)) ((ev_sl rfl rfl rfl).trans ?_) (qdu (qau (qaj (qaj rfl rfl (qn0 (x:=nmP g) ?_)) (qdu rfl (by show 1<=lim;decide)) (qe8 ?_)) rfl) (by show 1<=lim;decide)) ?_)),don++[c],rest,_,_,en',el',.inr ⟨pre,g++[c],c,gl,?_,?_,?_,rfl⟩⟩
     ·rw [List.map_append];exact congrArg (fun z=>some (PV.lst z)) (cut_init _ _)
     ·rw [List.map_append];simp
     ·rw [qbc,List.length_map];show g.length + 1<=lim;omega
     ·refine (qe8 (by rw [List.length_map];show pre.length + 1<=lim;omega)).trans ?_
      have e1:nmP (g++[c]) = .lst (qaw (g.map Cl.name)++[.at (.str c.name)]):=by unfold nmP qaw;rw [List.map_append,List.map_append];rfl
      rw [List.map_append]
      show _=some (PV.lst (pre.map nmP++[nmP (g++[c])]))
      rw [e1]
     ·rw [<- erun]
      show _=if p.hue=c.hue then qfm pre (g++[c]) c rest else _
      rw [if_pos hh]
     ·rw [List.length_append];omega
     ·rw [List.length_append];show pre.length + (g.length + 1) + rest.length<=_;omega
    ·have hh':¬ ((p.hue:Int)=(c.hue:Int)):=fun z=>hh (Int.ofNat.inj z)
     refine ⟨_,_,rfl,qw0 (dOr_r (h0 _ _) (qe2 (v:=true) (qaj (g1 _ _) (g2 _ _) ((ql6 _ _).trans (by rw [decide_eq_false hh'];rfl))))) (qbi (x:= .lst (((pre++[g])++[[c]]).map nmP)) (qaj rfl (qdu (qau (qdu rfl (by show 1<=lim;decide)) rfl) (by show 1<=lim;decide)) ((qe8 ?_).trans ?_))),don++[c],rest,_,_,en',el',.inr ⟨pre++[g],[c],c,gl,?_,Nat.le_refl _,?_,rfl⟩⟩
     ·rw [List.length_map,List.length_append];show pre.length + 1 + 1<=lim;omega
     ·rw [List.map_append (l₁:=pre++[g])];rfl
     ·rw [<- erun]
      show _=if p.hue=c.hue then _ else qfm (pre++[g]) [c] c rest
      rw [if_neg hh]
     ·rw [List.length_append];show pre.length + 1 + 1 + rest.length<=_;omega) (qtz 0 ns) _ ⟨[],ns,.no,.no,rfl,rfl,.inl ⟨rfl,rfl⟩⟩
 refine qef rfl (qa6 (qnp rfl) (qa6 (qkk (qwy (qaj rfl rfl rfl)) e1) (qa6 (qbi (x:= .lst []) (qdu rfl (by show 0<=lim;decide))) (qa6 (qkk (xs:=(qtz 0 ns).map fun p=>PV.tup [.at (.int (p.1:Int)),.at (.str p.2.name)]) ?_ e2) ?_))))
 ·show some (qhl 0 (qaw (ns.map Cl.name)))=_
  rw [qr9]
 ·obtain ⟨don,rest,s5,s6,en,el,cas⟩:=i2
  have er:rest=[]:=by cases rest with | nil=>rfl | cons _ _=>cases el
  subst er
  rcases cas with ⟨rfl,rfl⟩ | ⟨pre,g,p,hp,erun,hg1,hlen,rfl⟩
  ·rw [en];rfl
  ·rw [<- erun];rfl
theorem qmr (n:Int):qfr [.at (.int n)]=some (.at (.bl true)):=qef rfl (qb2 (qeg (qah rfl qwl) (qwx (qah rfl qr4))))
theorem v_ldone {rs:List (Cl × Int × Int)} (h:rs.length<=lim):qov [.lst (rs.map rwP),.lst (rs.map rwP)]=some (.at (.bl true)):=by
 refine qef rfl (qa6 (qdj (qko (qde (qdv (qah rfl qjc))) (qe2 (v:=false) (qaj rfl rfl (qhg ql1)))) qch) (qb2 (qah (qau (qfc rwP (fun _=>PV.at (.bl true)) rs rfl rfl h fun r _=>⟨_,rfl,qeg (qah rfl qwj) (qeg (qah (qau (qaj rfl rfl rfl) rfl) (qmr _)) (qah (qau (qaj rfl rfl rfl) rfl) (qmr _)))⟩) rfl) (qhw _))))
theorem ql0 {rs:List (List Cl)}:qhf 6 (.lst (rs.map nmP)):=fun x hx=>by
 obtain ⟨r,_,rfl⟩:=List.mem_map.mp hx
 intro y hy
 obtain ⟨s,_,rfl⟩:=List.mem_map.mp hy
 rfl
theorem qs8 {ss:List Str}:qhf 6 (.lst (qaw ss)):=fun x hx=>by
 obtain ⟨s,_,rfl⟩:=List.mem_map.mp hx
 rfl
theorem pv_shs (ys:List PV):DT.pvs (ys.map .sh)=ys:=by
 rw [qm8]
 exact List.map_id'' (fun _=>rfl) ys
theorem qsd {f:List DT->Option (List DT)} {xs:List DT} {i:Int} {k:Nat} {z z':DT} {p:List Int} (h1:ixN xs.length i=some k) (h2:xs[k]?=some z) (h3:DT.chg f p z=some z'):DT.chg f (i::p) (.ls xs)=some (.ls (xs.set k z')):=by
 unfold DT.chg
 rw [h1,Option.bind_some,h2,Option.bind_some,h3]
 rfl
theorem ne_nilP {xs:List PV}:pNe (.lst xs) (.lst [])=some (.at (.bl (!xs.isEmpty))):=by
 cases xs with
 | nil=>rfl
 | cons x xs=>rfl
end
open Classical in
noncomputable def qfu (C:Addr):List PV->Option PV:=fun xs=>if ∃ (d:Dr) (ns:List Cl),d.Ok/\Lst d ns/\xs=[d.ob C,d.pv,nmP ns] then some (.at (.bl true)) else none
theorem v_asked {C:Addr} {d:Dr} {ns:List Cl} (ok:d.Ok) (L:Lst d ns):qfu C [d.ob C,d.pv,nmP ns]=some (.at (.bl true)):=if_pos ⟨d,ns,ok,L,rfl⟩
theorem ql8 {C:Addr} {xs:List PV} {y:PV} (h:qfu C xs=some y):y = .at (.bl true)/\∃ (d:Dr) (ns:List Cl),d.Ok/\Lst d ns/\xs=[d.ob C,d.pv,nmP ns]:=by
 unfold qfu at h
 split at h
 ·rename_i hx
  cases h
  exact ⟨rfl,hx⟩
 ·cases h
theorem hl_asked {C:Addr} {vs:List V} {H:Hp} {Q:VK} {E:XK} (h:spP (qfu C) vs H Q E):vs.length=3:=by
 obtain ⟨Hs,xs,y,_,r,e,_⟩:=h
 obtain ⟨_,d,ns,_,_,rfl⟩:=ql8 e
 exact r.length
theorem end_row {d:Dr} {ns:List Cl}:((([d.time]:List Int)++(d.go d.last d.time ns).map fun r=>r.2.2).getLast?)=some (d.endT d.last d.time ns):=by
 by_cases h:ns=[]
 ·subst h;rfl
 ·obtain ⟨r,e1,e2⟩:=qqv (d:=d) (l:=d.last) (t:=d.time) h
  rw [List.getLast?_append,List.getLast?_map,e1,<- e2]
  rfl
abbrev qh5:Stmt:=top 61
theorem sc_asked:qar ["works", "drawn", "names", "handed", "due", "end", "told", "found"] ["works", "drawn", "names"] (qab qh5):=⟨rfl,rfl,rfl,by decide +kernel,rfl,by decide +kernel,by decide +kernel⟩
theorem ok_asked {P:Program} {w:World} {K:PySem.W.Frag} {mg:Str->Option Value} {base:Heap} {f:Addr} {fd:FuncData} {C_Works:Addr} (F:Fun K "_law_asked" "_law_asked" qh5 f fd) (c_done:Fn P w K mg base 2 "_law_done" ["found", "due"] (spP qov)) (c_done_rows:Fn P w K mg base 4 "done_rows" ["works", "names"] (spO (qbs C_Works))) (c_end_of:Fn P w K mg base 5 "end_of" ["works", "names"] (spP (qhj C_Works))) (c_rows:Fn P w K mg base 2 "_law_rows" ["works", "names"] (spO qou)) (c_runs:Fn P w K mg base 1 "_law_runs" ["works", "names"] (spP qj9)) (c_runs_of:Fn P w K mg base 4 "runs_of" ["works", "names"] (spDX [false,false] (qfa C_Works) noX)) (c_whole:Fn P w K mg base 1 "_law_whole" ["found"] (spP qfr)) (m_list:mg "list"=none):FnOk P w K mg base CX0 6 f fd ["works", "drawn", "names"] (spP (qfu C_Works)):=by
 refine F.ok (k:=5) sc_asked (fun vs H Q E h=>hl_asked h) (fun cdv A outer s H vs Q E hr h=>⟨_,(@qae _ _ _ _ _ (@qaz _ _ 3 _ _ _ _ sc_asked.nd rfl (Or.inl rfl) (qeu (qdy (K:=K) rfl) rfl m_list qc5 (@qaa _ _ _ _ _ (pv 2) qac (by rfl))) (by rfl) (.inl rfl))
  (@qae _ _ _ _ _ (@qaz _ _ 4 _ _ _ _ sc_asked.nd rfl (Or.inl rfl) (qa3 c_rows hr (by decide) rfl (@qaa _ _ _ _ _ (pv 1) (@qaa _ _ _ _ _ (pv 2) qac (by rfl)) (by rfl))) (by rfl) (.inl rfl))
  (@qae _ _ _ _ _ (@qaz _ _ 5 _ _ _ _ sc_asked.nd rfl (Or.inl rfl) (qbb (qao (K:=K) rfl) (qa8 (qbj (K:=K) rfl) (@qbx _ _ _ _ (@qaa _ _ _ _ _ (qbb (qao (K:=K) rfl) (pv 1) qaf (fun _ _=>rfl)) qac (by rfl))) (qbv (N':=["row"]) (cap:=[none]) (qci rfl rfl rfl) rfl (@qbg _ K _ _ _ rfl (pv 4)) (fun _ _ _ _ _ _=>(qa2 (i:=0) (by show (["row"]:List Str).Nodup;decide +kernel) rfl (Or.inl rfl))) (fun _ _ _ _ _ _=>qbm) (fun _ _ _ _ _ _=>(qbb (qao (K:=K) rfl) (pv 0) qaf (fun _ _=>rfl))))) (qnc qg8 qaf) (fun _ _=>rfl)) (by rfl) (.inl rfl))
  (@qae _ _ _ _ _ (@qaz _ _ 6 _ _ _ _ sc_asked.nd rfl (Or.inl rfl) (@qbx _ _ _ _ (@qaa _ _ _ _ _ (qa3 c_done_rows hr (by decide) rfl (@qaa _ _ _ _ _ (pv 0) (@qaa _ _ _ _ _ (pv 3) qac (by rfl)) (by rfl))) (@qaa _ _ _ _ _ (qa3 c_runs_of hr (by decide) rfl (@qaa _ _ _ _ _ (pv 0) (@qaa _ _ _ _ _ (pv 3) qac (by rfl)) (by rfl))) qac (by rfl)) (by rfl))) (by rfl) (.inl rfl))
  (@qae _ _ _ _ _ (qc7 (PW.pt (qjv (qc8 (qcd (K:=K) rfl (qa3 c_done hr (by decide) rfl (@qaa _ _ _ _ _ (qbb (qao (K:=K) rfl) (pv 6) qaf (fun _ _=>rfl)) (@qaa _ _ _ _ _ (pv 4) qac (by rfl)) (by rfl))) (fun _=>rfl))) (qjv (qbe (qfe (K:=K) (hu6 hr) rfl) (qbb (qao (K:=K) rfl) (pv 6) qaf (fun _ _=>rfl)) (qa3 c_runs hr (by decide) rfl (@qaa _ _ _ _ _ (pv 1) (@qaa _ _ _ _ _ (pv 2) qac (by rfl)) (by rfl))) (qbl _)) (qhd (qbe (qfe (K:=K) (hu6 hr) rfl) (pv 3) (pv 2) (qbl _)))))) (@qag _ _ _ (qa5 qj1)) qbf)
  (@qae _ _ _ _ _ (@qaz _ _ 7 _ _ _ _ sc_asked.nd rfl (Or.inl rfl) (qa3 c_end_of hr (by decide) rfl (@qaa _ _ _ _ _ (pv 0) (@qaa _ _ _ _ _ (pv 3) qac (by rfl)) (by rfl))) (by rfl) (.inl rfl))
  (@qae _ _ _ _ _ (qc7 (PW.pt (qjv (qc8 (qcd (K:=K) rfl (qa3 c_whole hr (by decide) rfl (@qaa _ _ _ _ _ (pv 7) qac (by rfl))) (fun _=>rfl))) (qhd (qbe (qfe (K:=K) (hu6 hr) rfl) (pv 7) (pv 5) (qbl _))))) (@qag _ _ _ (qa5 qj1)) qbf)
  (@qae _ _ _ _ _ (qc9 (qgk (K:=K) rfl PySem.F.plainAttrs_list PySem.F.slot_list_append PySem.F.type_list_append qdb (qbb (qao (K:=K) rfl) (pv 6) qaf (fun _ _=>rfl)) (qaa (@qgj _ _ _ _ _ (@qaa _ _ _ _ _ qjz (@qaa _ _ _ _ _ qaf (@qaa _ _ _ _ _ qaf qac (by rfl)) (by rfl)) (by rfl))) qac)))
  (@qae _ _ _ _ _ (qc7 (qbe (qfe (K:=K) (hu6 hr) rfl) (qbb (qao (K:=K) rfl) (pv 6) qaf (fun _ _=>rfl)) (@qbx _ _ _ _ qac) (qbl _)) (@qag _ _ _ (qc9 (qgk (K:=K) rfl PySem.F.plainAttrs_list PySem.F.slot_list_append PySem.F.type_list_append qdb (qbb (qao (K:=K) rfl) (qbb (qao (K:=K) rfl) (pv 6) qaf (fun _ _=>rfl)) qaf (fun _ _=>rfl)) (qaa qjz qac)))) qbf)
  (@qae _ _ _ _ _ (qc9 (qgk (K:=K) rfl PySem.F.plainAttrs_list PySem.F.slot_list_append PySem.F.type_list_append qdb (qbb (qao (K:=K) rfl) (pv 6) qaf (fun _ _=>rfl)) (qaa (@qbx _ _ _ _ qac) qac)))
  (@qag _ _ _ (qa5 (qgl (qh6 (qik (K:=K) (hu6 hr) rfl) (qa3 c_done_rows hr (by decide) rfl (@qaa _ _ _ _ _ (pv 0) (@qaa _ _ _ _ _ (pv 3) qac (by rfl)) (by rfl))) (pv 4) (qbl _)) (qij (qh6 (qik (K:=K) (hu6 hr) rfl) (qa3 c_runs_of hr (by decide) rfl (@qaa _ _ _ _ _ (pv 0) (@qaa _ _ _ _ _ (pv 3) qac (by rfl)) (by rfl))) (qa3 c_runs hr (by decide) rfl (@qaa _ _ _ _ _ (pv 1) (@qaa _ _ _ _ _ (pv 2) qac (by rfl)) (by rfl))) (qbl _)))))))))))))))),?_⟩)
 have hlim:lim=1000000:=rfl
 obtain ⟨Hs,xs,y,sm,r,e,q⟩:=h
 obtain ⟨rfl,d,ns,ok,L,rfl⟩:=ql8 e
 have l10:=L.len ok
 have gl:=go_len (d:=d) (ns:=ns) (l:=d.last) (t:=d.time)
 have rs:=qe6 (N:=["works", "drawn", "names", "handed", "due", "end", "told", "found"]) sm r
 have vrows:=v_rows ok L
 have vdone:=quo (C:=C_Works) ok L
 have vend:=v_end (C:=C_Works) ok L
 have vlr:=v_lruns ok L
 have vD:=v_runsD (C:=C_Works) ok L
 have pl6:qhf 6 (.lst ((d.go d.last d.time ns).map rwP)):=ql1
 refine sq_S (fr:=false) (b:=qdk 3 (qaq qe7 (qad (qap 2) qav))) (ε':=[.sh (d.ob C_Works),.sh d.pv,.sh (nmP ns),.sh (nmP ns),.no,.no,.no,.no]) rs (qbi (qah rfl rfl)) fun Hs1 H1 σ1 r1=>?_
 refine sq_S (fr:=false) (b:=qdk 4 (qaq qou (qad (qat 1) (qad (qat 2) qav)))) (ε':=[.sh (d.ob C_Works),.sh d.pv,.sh (nmP ns),.sh (nmP ns),.sh (.lst ((d.go d.last d.time ns).map rwP)),.no,.no,.no]) r1 (qbi (qah rfl vrows)) fun Hs2 H2 σ2 r2=>?_
 refine sq_S (fr:=false) (b:=qdk 5 (qay pIx (qay qd5 (qff (qad (qay pIx (qap 1) (dC (.int 3))) qav)) (qba [none] [0] (qfg (qat 4)) (qa4 0) qd7 (qay pIx (qap 0) (dC (.int 2))))) (dUn pNeg (dC (.int 1))))) (ε':=[.sh (d.ob C_Works),.sh d.pv,.sh (nmP ns),.sh (nmP ns),.sh (.lst ((d.go d.last d.time ns).map rwP)),.sh (.at (.int (d.endT d.last d.time ns))),.no,.no]) r2 (qbi (x:= .at (.int (d.endT d.last d.time ns))) (qaj (x:= .lst ((([d.time]:List Int)++(d.go d.last d.time ns).map fun r=>r.2.2).map fun t=>PV.at (.int t))) (qaj (qdu (qau (qaj rfl rfl rfl) rfl) (by show 1<=lim;decide)) (qfc rwP (fun r=>PV.at (.int r.2.2)) (d.go d.last d.time ns) rfl rfl (by omega) fun r _=>⟨_,rfl,qaj rfl rfl rfl⟩) ((qe8 (by rw [List.length_map];show 1 + (d.go d.last d.time ns).length<=lim;omega)).trans ?_)) rfl (qn0 ?_))) fun Hs3 H3 σ3 r3=>?_
 ·rw [List.map_append,List.map_map];rfl
 ·rw [List.getLast?_map,end_row];rfl
 have all0:AllSh [.sh (d.ob C_Works),.sh d.pv,.sh (nmP ns),.sh (nmP ns),.sh (.lst ((d.go d.last d.time ns).map rwP)),.sh (.at (.int (d.endT d.last d.time ns))),.no,.no]:=qak qdh (qak qdh (qak qdh (qak qdh (qak qdh (qak qdh (qak qm2 (qak qm2 qf2)))))))
 have all1:AllSh [.sh (d.ob C_Works),.sh d.pv,.sh (nmP ns),.sh (nmP ns),.sh (.lst ((d.go d.last d.time ns).map rwP)),.sh (.at (.int (d.endT d.last d.time ns))),.no,.sh (.at (.int (d.endT d.last d.time ns)))]:=qak qdh (qak qdh (qak qdh (qak qdh (qak qdh (qak qdh (qak qm2 (qak qdh qf2)))))))
 refine sq_new2 (j:=6) (f:=qaq (qbs C_Works) (qad (qat 0) (qad (qat 3) qav))) (as:=qad (qat 0) (qad (qat 3) qav)) r3 all0 (by show 6 < 8;decide) (qah rfl vdone) rfl vD fun Hs4 H4 σ4 r4=>?_
 have ex:(DT.ls [.ls (((d.go d.last d.time ns).map rwP).map .sh),qe5 (qgu ns)]).pv = .lst [.lst ((d.go d.last d.time ns).map rwP),.lst ((qgu ns).map nmP)]:=by
  show PV.lst [.lst (DT.pvs (((d.go d.last d.time ns).map rwP).map .sh)),(qe5 (qgu ns)).pv]=_
  rw [pv_shs,qm4]
 refine qu0 (c:=dOr (qjg (qk3 (qaq qov (qad (qay pIx (qap 6) (dC (.int 0))) (qad (qat 4) qav))))) (dOr (dT (qay pNe (qay pIx (qap 6) (dC (.int 1))) (qaq qj9 (qad (qat 1) (qad (qat 2) qav))))) (dT (qay pNe (qap 3) (qap 2))))) (k:=false) r4 ?_ (fun z=>nomatch z) (fun _ H5 r5=>qmt ?_)
 ·rw [ex]
  exact qko (qde (qdv (qah (qau (qaj rfl rfl rfl) rfl) (v_ldone (by omega))))) (qko (qe2 (v:=false) (qaj (qaj rfl rfl rfl) (qah rfl vlr) (qhg ql0))) (qe2 (v:=false) (qaj rfl rfl (qhg qs8))))
 refine qmu (fr:=false) (b:=qdk 7 (qaq (qhj C_Works) (qad (qat 0) (qad (qat 3) qav)))) (ε':=[.sh (d.ob C_Works),.sh d.pv,.sh (nmP ns),.sh (nmP ns),.sh (.lst ((d.go d.last d.time ns).map rwP)),.sh (.at (.int (d.endT d.last d.time ns))),.no,.sh (.at (.int (d.endT d.last d.time ns)))]) r5 (fun a=>qbi (qah rfl vend)) all1 (by show 6 < 8;decide) fun Hs6 H6 σ6 r6=>?_
 refine qu0 (c:=dOr (qjg (qk3 (qaq qfr (qad (qat 7) qav)))) (dT (qay pNe (qap 7) (qap 5)))) (k:=false) r6 (qko (qde (qdv (qah rfl (qmr _)))) (qe2 (v:=false) (qaj rfl rfl (qhg rfl)))) (fun z=>nomatch z) (fun _ H7 r7=>qmt ?_)
 refine qjo (f:=qpb (qad (dC (.str "zz")) (qad (dC (.int 0)) (qad (dC (.int 0)) qav)))) (y:= .tup [.at (.str "zz"),.at (.int 0),.at (.int 0)]) r7 (fun a=>qo6 rfl (by show 3<=lim;decide)) (qsd (i:=0) (k:=0) (p:=[]) rfl rfl (qnx (by rw [List.length_map,List.length_map];omega))) fun Hs8 H8 r8=>?_
 have ex8:(DT.ls ([DT.ls (((d.go d.last d.time ns).map rwP).map .sh),qe5 (qgu ns)].set 0 (.ls (((d.go d.last d.time ns).map rwP).map DT.sh++[.sh (.tup [.at (.str "zz"),.at (.int 0),.at (.int 0)])])))).pv = .lst [.lst ((d.go d.last d.time ns).map rwP++[.tup [.at (.str "zz"),.at (.int 0),.at (.int 0)]]),.lst ((qgu ns).map nmP)]:=by
  show PV.lst [.lst (DT.pvs (((d.go d.last d.time ns).map rwP).map DT.sh++[.sh (.tup [.at (.str "zz"),.at (.int 0),.at (.int 0)])])),(qe5 (qgu ns)).pv]=_
  rw [show ((d.go d.last d.time ns).map rwP).map DT.sh++[DT.sh (.tup [.at (.str "zz"),.at (.int 0),.at (.int 0)])]=((d.go d.last d.time ns).map rwP++[PV.tup [.at (.str "zz"),.at (.int 0),.at (.int 0)]]).map DT.sh by rw [List.map_append];rfl,pv_shs,qm4]
 have last:∀ (Hs9 H9:Hp) (x0:DT) (T:List DT),T.length<=lim->RX 6 Hs H Hs9 H9 σ6 [.sh (d.ob C_Works),.sh d.pv,.sh (nmP ns),.sh (nmP ns),.sh (.lst ((d.go d.last d.time ns).map rwP)),.sh (.at (.int (d.endT d.last d.time ns))),.no,.sh (.at (.int (d.endT d.last d.time ns)))] (.ls [x0,.ls T])->tSeq (qiw (tBM K "list" qfp (tOp (rIx K) (qiu 6) (tC (.int 1))) (qc6 (tLst qiv) qiv))) (tRet (tAndV (tOp (rEqD K 6 false) (qgg (spO (qbs C_Works)) [] E0 (qc6 (qiu 0) (qc6 (qiu 3) qiv))) (qiu 4)) (tOp (rEqD K 6 false) (qgg (spDX [false,false] (qfa C_Works) noX) [] E0 (qc6 (qiu 0) (qc6 (qiu 3) qiv))) (qgg (spP qj9) [] E0 (qc6 (qiu 1) (qc6 (qiu 2) qiv)))))) { nx:=fun _ H'=>Q .non H',rt:=Q } σ6 H9:=fun Hs9 H9 x0 T hT r9=>by
  refine qp5 (f:=qff qav) (ys0:=[]) r9 (fun a=>qdu rfl (by show 0<=lim;decide)) (qsd (i:=1) (k:=1) (p:=[]) rfl rfl (qnx hT)) fun Hs10 H10 r10=>?_
  exact dm_ret (f:=qia (qay pEq (qaq (qbs C_Works) (qad (qat 0) (qad (qat 3) qav))) (qap 4)) (qay pEq (qaq (fun xs=>(qfa C_Works xs).map DT.pv) (qad (qat 0) (qad (qat 3) qav))) (qaq qj9 (qad (qat 1) (qad (qat 2) qav))))) (y:= .at (.bl true)) r10 (fun a=>qeg (qaj (qah rfl vdone) rfl (qnf pl6)) (qaj (qah rfl (by rw [vD,Option.map_some,qm4])) (qah rfl vlr) (qnf ql0))) fun v Hs' H' x rv=>q v Hs' H' x rv
 have rl:(qgu ns).length<=lim:=by
  have:∀ (cs:List Cl) (pre:List (List Cl)) (g:List Cl) (p:Cl),(qfm pre g p cs).length<=pre.length + 1 + cs.length:=by
   intro cs
   induction cs with
   | nil=>intro pre g p;show (pre++[g]).length<=_;rw [List.length_append];simp
   | cons c cs ih =>
    intro pre g p
    show (if p.hue=c.hue then _ else _:List (List Cl)).length<=_
    split
    ·have:=ih pre (g++[c]) c;simp only [List.length_cons];omega
    ·have:=ih (pre++[g]) [c] c;rw [List.length_append] at this;simp only [List.length_cons,List.length_nil] at this ⊢;omega
  cases ns with
  | nil=>show 0<=lim;omega
  | cons c cs =>
   have:=this cs [] [c] c
   simp only [List.length_cons,List.length_nil] at this l10
   show (qfm [] [c] c cs).length<=lim
   omega
 refine qu0 (c:=dT (qay pNe (qay pIx (qap 6) (dC (.int 1))) (qff qav))) (k:=!((qgu ns).map nmP).isEmpty) r8 ?_ (fun hk H9 r9=>?_) (fun hk H9 r9=>qmt ?_)
 ·rw [ex8]
  exact qe2 (qaj (qaj rfl rfl rfl) (qdu rfl (by show 0<=lim;decide)) ne_nilP)
 ·cases hr:qgu ns with
  | nil=>rw [hr] at hk;cases hk
  | cons g gs =>
   rw [hr] at r9
   have gl2:g.length<=lim:=by
    have key:∀ (cs:List Cl) (pre:List (List Cl)) (g:List Cl) (p:Cl),∀ h ∈ qfm pre g p cs,h ∈ pre ∨ h.length<=g.length + cs.length:=by
     intro cs
     induction cs with
     | nil =>
      intro pre g p h hh
      rcases List.mem_append.mp (show h ∈ pre++[g] from hh) with z | z
      ·exact .inl z
      ·rw [List.mem_singleton.mp z];exact .inr (by simp)
     | cons c cs ih =>
      intro pre g p h hh
      have hh':h ∈ (if p.hue=c.hue then qfm pre (g++[c]) c cs else qfm (pre++[g]) [c] c cs):=hh
      split at hh'
      ·rcases ih _ _ _ h hh' with z | z
       ·exact .inl z
       ·rw [List.length_append] at z;simp only [List.length_cons,List.length_nil] at z ⊢;exact .inr (by omega)
      ·rcases ih _ _ _ h hh' with z | z
       ·rcases List.mem_append.mp z with z | z
        ·exact .inl z
        ·rw [List.mem_singleton.mp z];exact .inr (by omega)
       ·simp only [List.length_cons,List.length_nil] at z ⊢;exact .inr (by omega)
    cases ns with
    | nil=>cases hr
    | cons c cs =>
     have hm:g ∈ qfm [] [c] c cs:=by
      have:qfm [] [c] c cs=g::gs:=hr
      rw [this];exact List.mem_cons_self
     rcases key cs [] [c] c g hm with z | z
     ·cases z
     ·simp only [List.length_cons,List.length_nil] at z l10;omega
   refine qjo (f:=dC (.str "zz")) (y:= .at (.str "zz")) r9 (fun a=>rfl) (qsd (i:=1) (k:=1) (p:=[0]) (z:=qe5 (g::gs)) rfl rfl (qsd (i:=0) (k:=0) (p:=[]) (xs:=(g::gs).map nmD) (z:=nmD g) ?_ rfl (qnx (by rw [List.length_map];exact gl2)))) fun Hs10 H10 r10=>?_
   ·show (if (0:Int)<=0 then (if (0:Int) < (((g::gs).map nmD).length:Int) then some (0:Int).toNat else none) else _)=_
    rw [if_pos (by decide),if_pos (by rw [List.length_map,List.length_cons];omega)]
    rfl
   ·refine last _ _ _ _ ?_ r10
    rw [List.length_set,List.length_map,<- hr];exact rl
 ·exact last _ _ _ _ (by rw [List.length_map];exact rl) r9
end Lw
namespace Lw
open PySem L2 Mi
abbrev qm3:Stmt:=top 62
abbrev b_law (K:PySem.W.Frag) (C_Works:Addr):WS:=(wSeq (qis 1 (wCallV (qer K) qid (qfh (wP (qat 0)) (qfh (wP (dC (.int 10))) wNil))))
  (wSeq (wSetN 2 (qi2 K) qce (qfh (wP (qat 0)) wNil))
  (wSeq (qis 3 (quh 2 qet qkz (qfh (wP (qba [none] [0] (qfg (qay pIx (qap 1) (dC (.int 1)))) (qa4 0) qd7 (qay pIx (qap 0) (dC (.int 0))))) wNil)))
  (wSeq (qis 4 (wTk 2 (wP (qay qd5 (qaq qn7 (qad (qap 3) qav)) (dC (.int 1))))))
  (wSeq (qis 5 (wP (qaq (qc2 C_Works) (qad (qay pIx (qap 1) (dC (.int 0))) (qad (qay pIx (qap 1) (dC (.int 1))) (qad (qay pIx (qap 1) (dC (.int 2))) (qad (qay pIx (qap 1) (dC (.int 3))) qav)))))))
  (wSeq (wFor (wIp (qfg (qff (qad (qat 3) (qad (dSlL (qap 3) pNo (pSo (qat 4))) (qad (dSlL (qap 3) (pSo (qat 4)) pNo) (qad (qff qav) (qad (dRev (qap 3) (pSo (dUn pNeg (dC (.int 1))))) (qad (qat 3) qav))))))))) (qa4 6) (qrg (wPT (qjg (qk3 (qaq (qfu C_Works) (qad (qat 5) (qad (qat 1) (qad (qat 6) qav))))))) (qpx (wP (dC (.bl false)))) qir))
  (qpx (wP (dC (.bl true))))))))))
theorem sc_law:qar ["script", "drawn", "stream", "order", "many", "works", "names"] ["script"] (qab qm3):=⟨rfl,rfl,rfl,by decide +kernel,rfl,by decide +kernel,by decide +kernel⟩
theorem cls_of {cs:List Cl}:∀ {os:List Str},(∀ s ∈ os,s ∈ cs.map Cl.name)->∃ ns:List Cl,ns.map Cl.name=os/\∀ c ∈ ns,c ∈ cs
 | [],_=>⟨[],rfl,fun _ z=>nomatch z⟩
 | s::os,h=>by
  obtain ⟨ns,e,q⟩:=cls_of (os:=os) fun x hx=>h x (List.mem_cons_of_mem _ hx)
  obtain ⟨c,hc,ec⟩:=List.mem_map.mp (h s List.mem_cons_self)
  refine ⟨c::ns,by rw [List.map_cons,e,ec],fun x hx=>?_⟩
  rcases List.mem_cons.mp hx with rfl | hx
  ·exact hc
  ·exact q x hx
def GoodL (d:Dr) (x:PV):Prop:=∃ ns:List Cl,x=nmP ns/\Lst d ns
theorem qwt {d:Dr} {os:List Str} (h:∀ s ∈ os,s ∈ d.names) (nd:os.Nodup):GoodL d (.lst (qaw os)):=by
 obtain ⟨ns,e,q⟩:=cls_of (cs:=d.cls) h
 refine ⟨ns,?_,q,by rw [e];exact nd⟩
 unfold nmP
 rw [e]
theorem qr6 {d:Dr} {os:List Str} (h:∀ s ∈ os,s ∈ d.names) (nd:os.Nodup) (lo hi:Option Int):GoodL d (.lst (qxg (qaw os) lo hi)):=by
 have e:qxg (qaw os) lo hi=qaw ((os.drop (HT.sIx (qaw os).length 0 lo)).take (HT.sIx (qaw os).length (qaw os).length hi - HT.sIx (qaw os).length 0 lo)):=by
  unfold qxg qaw
  rw [List.map_take,List.map_drop]
 rw [e]
 have sb:((os.drop (HT.sIx (qaw os).length 0 lo)).take (HT.sIx (qaw os).length (qaw os).length hi - HT.sIx (qaw os).length 0 lo)).Sublist os:=(List.take_sublist _ _).trans (List.drop_sublist _ _)
 exact qwt (fun s hs=>h s (sb.subset hs)) (nd.sublist sb)
theorem good_rev {d:Dr} {os:List Str} (h:∀ s ∈ os,s ∈ d.names) (nd:os.Nodup):GoodL d (.lst (qaw os).reverse):=by
 have e:(qaw os).reverse=qaw os.reverse:=by unfold qaw;rw [List.map_reverse]
 rw [e]
 exact qwt (fun s hs=>h s (List.mem_reverse.mp hs)) ((List.reverse_perm os).nodup_iff.mpr nd)
theorem hw_law {K:PySem.W.Frag} {C_Works:Addr}:∀ ns:List Int,ns.length<=63->b_law K C_Works (.sh (scr K ns)::List.replicate ((["script", "drawn", "stream", "order", "many", "works", "names"]:List Str).length - 1) .no) (fun _=>False) fun y _=>y = .at (.bl true):=by
 intro ns h63
 have hlim:lim=1000000:=rfl
 have big:=qk2
 refine ⟨_,rfl,_,rfl,⟨ns,10,rfl,h63,by decide⟩,?_⟩
 rintro _ ⟨d,rfl,ok,_⟩
 have ten:=ok.ten
 refine ⟨_,rfl,⟨ns,rfl,h63⟩,?_⟩
 rintro _ ⟨n,rfl⟩
 refine ⟨⟨n,rfl⟩,.lst (qaw d.names),?_,⟨n,rfl⟩,⟨d.names,rfl,by unfold Dr.names;rw [List.length_map];exact ten⟩,?_⟩
 ·refine (qfc Cl.pv (fun c=>PV.at (.str c.name)) d.cls rfl rfl (by omega) fun c _=>⟨_,rfl,qaj rfl rfl rfl⟩).trans ?_
  unfold Dr.names qaw
  rw [List.map_map];rfl
 rintro _ n2 ⟨ss,os,e,rfl,hp⟩
 injection e with e _
 injection e with e
 have e':=qg9 e
 subst e'
 have hs:∀ s ∈ os,s ∈ d.names:=fun s h=>hp.mem_iff.mp h
 have nd:os.Nodup:=hp.nodup_iff.mpr ok.nd
 have ol:os.length<=10:=by rw [hp.length_eq];unfold Dr.names;rw [List.length_map];exact ten
 refine ⟨⟨n2,rfl⟩,_,rfl,n2,((qaw os).length:Int) + 1,rfl,rfl,cdiv (by rw [qbc];omega) (by rw [qbc];omega),?_⟩
 generalize n2 % (((qaw os).length:Int) + 1)=many
 refine ⟨d.ob C_Works,qah (qau (qaj rfl rfl rfl) (qau (qaj rfl rfl rfl) (qau (qaj rfl rfl rfl) (qau (qaj rfl rfl rfl) rfl)))) (v_init ok),?_⟩
 refine ⟨[.lst (qaw os),.lst (qxg (qaw os) none (some many)),.lst (qxg (qaw os) (some many) none),.lst (qaw []),.lst (qaw os).reverse,.lst (qaw os)],?_,?_⟩
 ·exact qwy (qdu (qau rfl (qau (ev_sl rfl rfl rfl) (qau (ev_sl rfl rfl rfl) (qau (qdu rfl (by show 0<=lim;decide)) (qau rfl (qau rfl rfl)))))) (by show 6<=lim;decide))
 refine qi8 (fun rest ε=>(∀ x ∈ rest,GoodL d x)/\∃ (s2 s7:MSlot),ε=[.sh (scr K ns),.sh d.pv,s2,.sh (.lst (qaw os)),.sh (.at (.int many)),.sh (d.ob C_Works),s7]) ?_ ?_ _ _ ⟨?_,_,_,rfl⟩
 ·rintro ε ⟨_,s2,s7,rfl⟩
  exact ⟨_,rfl,rfl⟩
 ·rintro x rest ε ⟨hg,s2,s7,rfl⟩
  obtain ⟨cs,rfl,L⟩:=hg x List.mem_cons_self
  refine ⟨_,rfl,qfj (qde (qdv (qah rfl (v_asked ok L)))) ?_⟩
  exact ⟨fun y hy=>hg y (List.mem_cons_of_mem _ hy),_,_,rfl⟩
 ·intro x hx
  rcases List.mem_cons.mp hx with rfl | hx
  ·exact qwt hs nd
  rcases List.mem_cons.mp hx with rfl | hx
  ·exact qr6 hs nd _ _
  rcases List.mem_cons.mp hx with rfl | hx
  ·exact qr6 hs nd _ _
  rcases List.mem_cons.mp hx with rfl | hx
  ·exact qwt (fun _ z=>nomatch z) List.nodup_nil
  rcases List.mem_cons.mp hx with rfl | hx
  ·exact good_rev hs nd
  rcases List.mem_cons.mp hx with rfl | hx
  ·exact qwt hs nd
  cases hx
theorem ok_law {P:Program} {w:World} {K:PySem.W.Frag} {mg:Str->Option Value} {base:Heap} {f:Addr} {fd:FuncData} {C_Works:Addr} (F:Fun K "law" "law" qm3 f fd) (c_asked:Fn P w K mg base 6 "_law_asked" ["works", "drawn", "names"] (spP (qfu C_Works))) (c_more:Fn P w K mg base 3 "_law_more" ["script"] (spN (qi2 K) qce)) (c_order:Fn P w K mg base 2 "_law_order" ["stream", "names"] (spD qet qkz)) (c_take:Fn P w K mg base 1 "_law_take" ["stream", "many"] qha) (c_works:Fn P w K mg base 4 "_law_works" ["script", "most"] (spV (qer K) qid)) (m_len:mg "len"=none) (g_Works:mg "Works"=some (.ref C_Works)) (w_Works:Mkr P w K mg base 5 C_Works ["self", "rinses", "cloths", "last", "time"] (spI C_Works (qc2 C_Works))):FnOk P w K mg base CX0 7 f fd ["script"] (qu1 K) :=
 okL (k:=6) (b:=b_law K C_Works) F sc_law (fun cdv A outer s H E hr=>⟨_,(@qae _ _ _ _ _ (@qaz _ _ 1 _ _ _ _ sc_law.nd rfl (Or.inl rfl) (qa3 c_works hr (by decide) rfl (@qaa _ _ _ _ _ (pv 0) (@qaa _ _ _ _ _ qaf qac (by rfl)) (by rfl))) (by rfl) (.inl rfl))
  (@qae _ _ _ _ _ (@qaz _ _ 2 _ _ _ _ sc_law.nd rfl (Or.inl rfl) (qa3 c_more hr (by decide) rfl (@qaa _ _ _ _ _ (pv 0) qac (by rfl))) (by rfl) (.inl rfl))
  (@qae _ _ _ _ _ (@qaz _ _ 3 _ _ _ _ sc_law.nd rfl (Or.inl rfl) (qa3 c_order hr (by decide) rfl (@qaa _ _ _ _ _ (pv 2) (@qaa _ _ _ _ _ (qbv (N':=["cloth"]) (cap:=[none]) (qci rfl rfl rfl) rfl (@qbg _ K _ _ _ rfl (qbb (qao (K:=K) rfl) (pv 1) qaf (fun _ _=>rfl))) (fun _ _ _ _ _ _=>(qa2 (i:=0) (by show (["cloth"]:List Str).Nodup;decide +kernel) rfl (Or.inl rfl))) (fun _ _ _ _ _ _=>qbm) (fun _ _ _ _ _ _=>(qbb (qao (K:=K) rfl) (pv 0) qaf (fun _ _=>rfl)))) qac (by rfl)) (by rfl))) (by rfl) (.inl rfl))
  (@qae _ _ _ _ _ (@qaz _ _ 4 _ _ _ _ sc_law.nd rfl (Or.inl rfl) (qa3 c_take hr (by decide) rfl (@qaa _ _ _ _ _ (pv 2) (@qaa _ _ _ _ _ (qa8 (qbj (K:=K) rfl) (qa1 (qb3 (K:=K) rfl) rfl m_len PySem.boot_len (@qaa _ _ _ _ _ (pv 3) qac (by rfl))) qaf) qac (by rfl)) (by rfl))) (by rfl) (.inl rfl))
  (@qae _ _ _ _ _ (@qaz _ _ 5 _ _ _ _ sc_law.nd rfl (Or.inl rfl) (pe_mk w_Works hr (by decide) rfl g_Works (@qaa _ _ _ _ _ (qbb (qao (K:=K) rfl) (pv 1) qaf (fun _ _=>rfl)) (@qaa _ _ _ _ _ (qbb (qao (K:=K) rfl) (pv 1) qaf (fun _ _=>rfl)) (@qaa _ _ _ _ _ (qbb (qao (K:=K) rfl) (pv 1) qaf (fun _ _=>rfl)) (@qaa _ _ _ _ _ (qbb (qao (K:=K) rfl) (pv 1) qaf (fun _ _=>rfl)) qac (by rfl)) (by rfl)) (by rfl)) (by rfl))) (by rfl) (.inl rfl))
  (@qae _ _ _ _ _ (qeq PassesOwn.never rfl (@qbg _ K _ _ _ rfl (@qbx _ _ _ _ (@qaa _ _ _ _ _ (pv 3) (@qaa _ _ _ _ _ (qnd (qmy (K:=K) rfl) (pv 3) qm9 (qjx (pv 4))) (@qaa _ _ _ _ _ (qnd (qmy (K:=K) rfl) (pv 3) (qjx (pv 4)) qm9) (@qaa _ _ _ _ _ (@qbx _ _ _ _ qac) (@qaa _ _ _ _ _ (pe_revK (K:=K) rfl (pv 3) (qjx (qnc qg8 qaf))) (@qaa _ _ _ _ _ (pv 3) qac (by rfl)) (by rfl)) (by rfl)) (by rfl)) (by rfl)) (by rfl)))) (qa2 (i:=6) sc_law.nd rfl (Or.inl rfl))
   (@qag _ _ _ (qc7 (qc8 (qcd (K:=K) rfl (qa3 c_asked hr (by decide) rfl (@qaa _ _ _ _ _ (pv 5) (@qaa _ _ _ _ _ (pv 1) (@qaa _ _ _ _ _ (pv 6) qac (by rfl)) (by rfl)) (by rfl))) (fun _=>rfl))) (@qag _ _ _ (qa5 qj1)) qbf)))
  (@qag _ _ _ (qa5 qj1)))))))),
  (by repeat' first | infer_instance | (refine @Mi.instSemWSTSeqWSeq _ _ _ _ ?_ ?_) | (apply @Mi.instSemWSTForWForOfSemWIOfSemWG))⟩) hw_law
end Lw
namespace Lw
open PySem L2 Mi
theorem binds_d {K:PySem.W.Frag} {fd:FuncData} {ps:List Str} {T:Addr} {ob:Obj} {items:Array Value} {n:Nat} (hd:fd.defaults = .ref T) (q:K.lookup T=some ob) (hs:ob.data = .seq items n)
  (h:∀ us:List Value,us.length=ps.length->∃ k:Option (Array Value)->Sem (List (Str × Value)),bindArgs fd ⟨us,[]⟩=seqItems? fd.defaults >>= k/\k (some items)=pure (ps.zip us)):Binds K fd ps []:=fun s us X hl=>by
 rw [List.append_nil] at hl ⊢
 obtain ⟨k,e1,e2⟩:=h us hl
 exact BindsTo.of_defaults hd (X _ _ q) hs e1 e2
theorem all_mk {l:PySem.W.OpenLaw} {w:World} {K:PySem.W.Frag} {h:Heap} {mg:Str->Option Value} {fa f0 f1 f2 f3 f4 f5 f6 f7 f8 f9 f10 f11 f12 f13 f14 f15 f16 f17 f18 f19 f20 f21 f22 f23 f24 f25 f26 f27 f28 f29 f30 f31 f32 f33 f34 f35 f36 f37 f38 f39 f40 f41 f42 f43 f44 f45 f46 f47 f48:Addr} (X:K.In h) (G:h.Ns mainGlobals mg) (hfa:mg "law"=some (.ref fa))
  {C_Works:Addr} (y_Works:PySem.W.nsIn K mainGlobals "Works"=some (some (.ref C_Works)))
  (pg_Works:PySem.W.plainGet K C_Works Str.empty=true) (hd_Works:PySem.W.hasDictIn K C_Works=true) (po_Works:PySem.W.plainOver K C_Works=true) (sa_Works:PySem.W.findIn K (.ref C_Works) "__setattr__"=some (some (.builtin "object.__setattr__"))) (mk_Works:PySem.W.makesIn K C_Works=true) (kc_Works:PySem.W.keepIn K (.ref C_Works)=true)
  (n_Works_given:PySem.W.findIn K (.ref C_Works) "given"=some none)
  (n_Works_held:PySem.W.findIn K (.ref C_Works) "held"=some none)
  (n_Works_last:PySem.W.findIn K (.ref C_Works) "last"=some none)
  (n_Works_least:PySem.W.findIn K (.ref C_Works) "least"=some none)
  (n_Works_time:PySem.W.findIn K (.ref C_Works) "time"=some none)
  {od0 an0:Option Addr} {sl0:Array (Option Value)} {oc0 kV0 dc0 pm0 cd0 ct0:Value} (a0:PySem.W.nsIn K mainGlobals "_law_mixed"=some (some (.ref f0))) (l0:K.lookup f0=some ⟨oc0,od0,.func (PySem.W.fnOf "_law_mixed" "_law_mixed" (qas qh3) (qal qh3) (qab qh3) .none kV0 dc0 pm0 an0 cd0 ct0),sl0⟩) (c0:PySem.W.codeIn K cd0 "_law_mixed"=true) (k0:PySem.W.keepIn K (.ref f0)=true)
  {od1 an1:Option Addr} {sl1:Array (Option Value)} {oc1 kV1 dc1 pm1 cd1 ct1:Value} (a1:PySem.W.nsIn K mainGlobals "_law_take"=some (some (.ref f1))) (l1:K.lookup f1=some ⟨oc1,od1,.func (PySem.W.fnOf "_law_take" "_law_take" (qas qlr) (qal qlr) (qab qlr) .none kV1 dc1 pm1 an1 cd1 ct1),sl1⟩) (c1:PySem.W.codeIn K cd1 "_law_take"=true) (k1:PySem.W.keepIn K (.ref f1)=true)
  {od2 an2:Option Addr} {sl2:Array (Option Value)} {oc2 kV2 dc2 pm2 cd2 ct2:Value} (a2:PySem.W.nsIn K mainGlobals "_law_stream"=some (some (.ref f2))) (l2:K.lookup f2=some ⟨oc2,od2,.func (PySem.W.fnOf "_law_stream" "_law_stream" (qas qe4) (qal qe4) (qab qe4) .none kV2 dc2 pm2 an2 cd2 ct2),sl2⟩) (c2:PySem.W.codeIn K cd2 "_law_stream"=true) (k2:PySem.W.keepIn K (.ref f2)=true)
  {od3 an3:Option Addr} {sl3:Array (Option Value)} {oc3 kV3 dc3 pm3 cd3 ct3:Value} (a3:PySem.W.nsIn K mainGlobals "_law_more"=some (some (.ref f3))) (l3:K.lookup f3=some ⟨oc3,od3,.func (PySem.W.fnOf "_law_more" "_law_more" (qas qlw) (qal qlw) (qab qlw) .none kV3 dc3 pm3 an3 cd3 ct3),sl3⟩) (c3:PySem.W.codeIn K cd3 "_law_more"=true) (k3:PySem.W.keepIn K (.ref f3)=true)
  {od4 an4:Option Addr} {sl4:Array (Option Value)} {oc4 kV4 dc4 pm4 cd4 ct4:Value} (a4:PySem.W.nsIn K mainGlobals "_law_rinse"=some (some (.ref f4))) (l4:K.lookup f4=some ⟨oc4,od4,.func (PySem.W.fnOf "_law_rinse" "_law_rinse" (qas qh1) (qal qh1) (qab qh1) .none kV4 dc4 pm4 an4 cd4 ct4),sl4⟩) (c4:PySem.W.codeIn K cd4 "_law_rinse"=true) (k4:PySem.W.keepIn K (.ref f4)=true)
  {od5 an5:Option Addr} {sl5:Array (Option Value)} {oc5 kV5 dc5 pm5 cd5 ct5:Value} (a5:PySem.W.nsIn K mainGlobals "_law_rinses"=some (some (.ref f5))) (l5:K.lookup f5=some ⟨oc5,od5,.func (PySem.W.fnOf "_law_rinses" "_law_rinses" (qas qf4) (qal qf4) (qab qf4) .none kV5 dc5 pm5 an5 cd5 ct5),sl5⟩) (c5:PySem.W.codeIn K cd5 "_law_rinses"=true) (k5:PySem.W.keepIn K (.ref f5)=true)
  {od6 an6:Option Addr} {sl6:Array (Option Value)} {oc6 kV6 dc6 pm6 cd6 ct6:Value} (a6:PySem.W.nsIn K mainGlobals "_law_name"=some (some (.ref f6))) (l6:K.lookup f6=some ⟨oc6,od6,.func (PySem.W.fnOf "_law_name" "_law_name" (qas qlv) (qal qlv) (qab qlv) .none kV6 dc6 pm6 an6 cd6 ct6),sl6⟩) (c6:PySem.W.codeIn K cd6 "_law_name"=true) (k6:PySem.W.keepIn K (.ref f6)=true)
  {od7 an7:Option Addr} {sl7:Array (Option Value)} {oc7 kV7 dc7 pm7 cd7 ct7:Value} (a7:PySem.W.nsIn K mainGlobals "_law_cloth"=some (some (.ref f7))) (l7:K.lookup f7=some ⟨oc7,od7,.func (PySem.W.fnOf "_law_cloth" "_law_cloth" (qas qh4) (qal qh4) (qab qh4) .none kV7 dc7 pm7 an7 cd7 ct7),sl7⟩) (c7:PySem.W.codeIn K cd7 "_law_cloth"=true) (k7:PySem.W.keepIn K (.ref f7)=true)
  {od8 an8:Option Addr} {sl8:Array (Option Value)} {oc8 kV8 dc8 pm8 cd8 ct8:Value} (a8:PySem.W.nsIn K mainGlobals "_law_works"=some (some (.ref f8))) (l8:K.lookup f8=some ⟨oc8,od8,.func (PySem.W.fnOf "_law_works" "_law_works" (qas qhz) (qal qhz) (qab qhz) .none kV8 dc8 pm8 an8 cd8 ct8),sl8⟩) (c8:PySem.W.codeIn K cd8 "_law_works"=true) (k8:PySem.W.keepIn K (.ref f8)=true)
  {od9 an9:Option Addr} {sl9:Array (Option Value)} {oc9 kV9 dc9 pm9 cd9 ct9:Value} (a9:PySem.W.nsIn K mainGlobals "_law_order"=some (some (.ref f9))) (l9:K.lookup f9=some ⟨oc9,od9,.func (PySem.W.fnOf "_law_order" "_law_order" (qas qh2) (qal qh2) (qab qh2) .none kV9 dc9 pm9 an9 cd9 ct9),sl9⟩) (c9:PySem.W.codeIn K cd9 "_law_order"=true) (k9:PySem.W.keepIn K (.ref f9)=true)
  {od10 an10:Option Addr} {sl10:Array (Option Value)} {oc10 kV10 dc10 pm10 cd10 ct10:Value} (a10:PySem.W.nsIn K mainGlobals "is_whole"=some (some (.ref f10))) (l10:K.lookup f10=some ⟨oc10,od10,.func (PySem.W.fnOf "is_whole" "is_whole" (qas qdz) (qal qdz) (qab qdz) .none kV10 dc10 pm10 an10 cd10 ct10),sl10⟩) (c10:PySem.W.codeIn K cd10 "is_whole"=true) (k10:PySem.W.keepIn K (.ref f10)=true)
  {od11 an11:Option Addr} {sl11:Array (Option Value)} {oc11 kV11 dc11 pm11 cd11 ct11:Value} (a11:PySem.W.nsIn K mainGlobals "name_of"=some (some (.ref f11))) (l11:K.lookup f11=some ⟨oc11,od11,.func (PySem.W.fnOf "name_of" "name_of" (qas qem) (qal qem) (qab qem) .none kV11 dc11 pm11 an11 cd11 ct11),sl11⟩) (c11:PySem.W.codeIn K cd11 "name_of"=true) (k11:PySem.W.keepIn K (.ref f11)=true)
  {od12 an12:Option Addr} {sl12:Array (Option Value)} {oc12 kV12 dc12 pm12 cd12 ct12:Value} (a12:PySem.W.nsIn K mainGlobals "hue_of"=some (some (.ref f12))) (l12:K.lookup f12=some ⟨oc12,od12,.func (PySem.W.fnOf "hue_of" "hue_of" (qas qf7) (qal qf7) (qab qf7) .none kV12 dc12 pm12 an12 cd12 ct12),sl12⟩) (c12:PySem.W.codeIn K cd12 "hue_of"=true) (k12:PySem.W.keepIn K (.ref f12)=true)
  {od13 an13:Option Addr} {sl13:Array (Option Value)} {oc13 kV13 dc13 pm13 cd13 ct13:Value} (a13:PySem.W.nsIn K mainGlobals "length_of"=some (some (.ref f13))) (l13:K.lookup f13=some ⟨oc13,od13,.func (PySem.W.fnOf "length_of" "length_of" (qas qdm) (qal qdm) (qab qdm) .none kV13 dc13 pm13 an13 cd13 ct13),sl13⟩) (c13:PySem.W.codeIn K cd13 "length_of"=true) (k13:PySem.W.keepIn K (.ref f13)=true)
  {od14 an14:Option Addr} {sl14:Array (Option Value)} {oc14 kV14 dc14 pm14 cd14 ct14:Value} (a14:PySem.W.nsIn K mainGlobals "due_of"=some (some (.ref f14))) (l14:K.lookup f14=some ⟨oc14,od14,.func (PySem.W.fnOf "due_of" "due_of" (qas qf9) (qal qf9) (qab qf9) .none kV14 dc14 pm14 an14 cd14 ct14),sl14⟩) (c14:PySem.W.codeIn K cd14 "due_of"=true) (k14:PySem.W.keepIn K (.ref f14)=true)
  {od15 an15:Option Addr} {sl15:Array (Option Value)} {oc15 kV15 dc15 pm15 cd15 ct15:Value} (a15:PySem.W.nsIn K mainGlobals "weight_of"=some (some (.ref f15))) (l15:K.lookup f15=some ⟨oc15,od15,.func (PySem.W.fnOf "weight_of" "weight_of" (qas qdl) (qal qdl) (qab qdl) .none kV15 dc15 pm15 an15 cd15 ct15),sl15⟩) (c15:PySem.W.codeIn K cd15 "weight_of"=true) (k15:PySem.W.keepIn K (.ref f15)=true)
  {od16 an16:Option Addr} {sl16:Array (Option Value)} {oc16 kV16 dc16 pm16 cd16 ct16:Value} (a16:PySem.W.nsIn K mainGlobals "is_from"=some (some (.ref f16))) (l16:K.lookup f16=some ⟨oc16,od16,.func (PySem.W.fnOf "is_from" "is_from" (qas qeo) (qal qeo) (qab qeo) .none kV16 dc16 pm16 an16 cd16 ct16),sl16⟩) (c16:PySem.W.codeIn K cd16 "is_from"=true) (k16:PySem.W.keepIn K (.ref f16)=true)
  {od17 an17:Option Addr} {sl17:Array (Option Value)} {oc17 kV17 dc17 pm17 cd17 ct17:Value} (a17:PySem.W.nsIn K mainGlobals "is_name"=some (some (.ref f17))) (l17:K.lookup f17=some ⟨oc17,od17,.func (PySem.W.fnOf "is_name" "is_name" (qas qen) (qal qen) (qab qen) .none kV17 dc17 pm17 an17 cd17 ct17),sl17⟩) (c17:PySem.W.codeIn K cd17 "is_name"=true) (k17:PySem.W.keepIn K (.ref f17)=true)
  {od18 an18:Option Addr} {sl18:Array (Option Value)} {oc18 kV18 dc18 pm18 cd18 ct18:Value} (a18:PySem.W.nsIn K mainGlobals "is_cloth"=some (some (.ref f18))) (l18:K.lookup f18=some ⟨oc18,od18,.func (PySem.W.fnOf "is_cloth" "is_cloth" (qas qd0) (qal qd0) (qab qd0) .none kV18 dc18 pm18 an18 cd18 ct18),sl18⟩) (c18:PySem.W.codeIn K cd18 "is_cloth"=true) (k18:PySem.W.keepIn K (.ref f18)=true)
  {od19 an19:Option Addr} {sl19:Array (Option Value)} {oc19 kV19 dc19 pm19 cd19 ct19:Value} (a19:PySem.W.nsIn K mainGlobals "is_rinse_row"=some (some (.ref f19))) (l19:K.lookup f19=some ⟨oc19,od19,.func (PySem.W.fnOf "is_rinse_row" "is_rinse_row" (qas qb7) (qal qb7) (qab qb7) .none kV19 dc19 pm19 an19 cd19 ct19),sl19⟩) (c19:PySem.W.codeIn K cd19 "is_rinse_row"=true) (k19:PySem.W.keepIn K (.ref f19)=true)
  {od20 an20:Option Addr} {sl20:Array (Option Value)} {oc20 kV20 dc20 pm20 cd20 ct20:Value} (a20:PySem.W.nsIn K mainGlobals "check_rinses"=some (some (.ref f20))) (l20:K.lookup f20=some ⟨oc20,od20,.func (PySem.W.fnOf "check_rinses" "check_rinses" (qas qb8) (qal qb8) (qab qb8) .none kV20 dc20 pm20 an20 cd20 ct20),sl20⟩) (c20:PySem.W.codeIn K cd20 "check_rinses"=true) (k20:PySem.W.keepIn K (.ref f20)=true)
  {od21 an21:Option Addr} {sl21:Array (Option Value)} {oc21 kV21 dc21 pm21 cd21 ct21:Value} (a21:PySem.W.nsIn K mainGlobals "straight_ways"=some (some (.ref f21))) (l21:K.lookup f21=some ⟨oc21,od21,.func (PySem.W.fnOf "straight_ways" "straight_ways" (qas qbu) (qal qbu) (qab qbu) .none kV21 dc21 pm21 an21 cd21 ct21),sl21⟩) (c21:PySem.W.codeIn K cd21 "straight_ways"=true) (k21:PySem.W.keepIn K (.ref f21)=true)
  {od22 an22:Option Addr} {sl22:Array (Option Value)} {oc22 kV22 dc22 pm22 cd22 ct22:Value} (a22:PySem.W.nsIn K mainGlobals "joined"=some (some (.ref f22))) (l22:K.lookup f22=some ⟨oc22,od22,.func (PySem.W.fnOf "joined" "joined" (qas qf6) (qal qf6) (qab qf6) .none kV22 dc22 pm22 an22 cd22 ct22),sl22⟩) (c22:PySem.W.codeIn K cd22 "joined"=true) (k22:PySem.W.keepIn K (.ref f22)=true)
  {od23 an23:Option Addr} {sl23:Array (Option Value)} {oc23 kV23 dc23 pm23 cd23 ct23:Value} (a23:PySem.W.nsIn K mainGlobals "lesser"=some (some (.ref f23))) (l23:K.lookup f23=some ⟨oc23,od23,.func (PySem.W.fnOf "lesser" "lesser" (qas qf5) (qal qf5) (qab qf5) .none kV23 dc23 pm23 an23 cd23 ct23),sl23⟩) (c23:PySem.W.codeIn K cd23 "lesser"=true) (k23:PySem.W.keepIn K (.ref f23)=true)
  {od24 an24:Option Addr} {sl24:Array (Option Value)} {oc24 kV24 dc24 pm24 cd24 ct24:Value} (a24:PySem.W.nsIn K mainGlobals "ways_through"=some (some (.ref f24))) (l24:K.lookup f24=some ⟨oc24,od24,.func (PySem.W.fnOf "ways_through" "ways_through" (qas qb5) (qal qb5) (qab qb5) .none kV24 dc24 pm24 an24 cd24 ct24),sl24⟩) (c24:PySem.W.codeIn K cd24 "ways_through"=true) (k24:PySem.W.keepIn K (.ref f24)=true)
  {od25 an25:Option Addr} {sl25:Array (Option Value)} {oc25 kV25 dc25 pm25 cd25 ct25:Value} (a25:PySem.W.nsIn K mainGlobals "least_ways"=some (some (.ref f25))) (l25:K.lookup f25=some ⟨oc25,od25,.func (PySem.W.fnOf "least_ways" "least_ways" (qas qc0) (qal qc0) (qab qc0) .none kV25 dc25 pm25 an25 cd25 ct25),sl25⟩) (c25:PySem.W.codeIn K cd25 "least_ways"=true) (k25:PySem.W.keepIn K (.ref f25)=true)
  {od26 an26:Option Addr} {sl26:Array (Option Value)} {oc26 kV26 dc26 pm26 cd26 ct26:Value} (a26:PySem.W.nsIn K mainGlobals "sums_of"=some (some (.ref f26))) (l26:K.lookup f26=some ⟨oc26,od26,.func (PySem.W.fnOf "sums_of" "sums_of" (qas qek) (qal qek) (qab qek) .none kV26 dc26 pm26 an26 cd26 ct26),sl26⟩) (c26:PySem.W.codeIn K cd26 "sums_of"=true) (k26:PySem.W.keepIn K (.ref f26)=true)
  {od27 an27:Option Addr} {sl27:Array (Option Value)} {oc27 kV27 dc27 pm27 cd27 ct27:Value} (a27:PySem.W.nsIn K mainGlobals "least_rinses"=some (some (.ref f27))) (l27:K.lookup f27=some ⟨oc27,od27,.func (PySem.W.fnOf "least_rinses" "least_rinses" (qas qb6) (qal qb6) (qab qb6) .none kV27 dc27 pm27 an27 cd27 ct27),sl27⟩) (c27:PySem.W.codeIn K cd27 "least_rinses"=true) (k27:PySem.W.keepIn K (.ref f27)=true)
  {od28 an28:Option Addr} {sl28:Array (Option Value)} {oc28 kV28 dc28 pm28 cd28 ct28:Value} (a28:PySem.W.nsIn K mainGlobals "check_start"=some (some (.ref f28))) (l28:K.lookup f28=some ⟨oc28,od28,.func (PySem.W.fnOf "check_start" "check_start" (qas qcl) (qal qcl) (qab qcl) .none kV28 dc28 pm28 an28 cd28 ct28),sl28⟩) (c28:PySem.W.codeIn K cd28 "check_start"=true) (k28:PySem.W.keepIn K (.ref f28)=true)
  {od29 an29:Option Addr} {sl29:Array (Option Value)} {oc29 kV29 dc29 pm29 cd29 ct29:Value} (a29:PySem.W.nsIn K mainGlobals "check_cloths"=some (some (.ref f29))) (l29:K.lookup f29=some ⟨oc29,od29,.func (PySem.W.fnOf "check_cloths" "check_cloths" (qas qb9) (qal qb9) (qab qb9) .none kV29 dc29 pm29 an29 cd29 ct29),sl29⟩) (c29:PySem.W.codeIn K cd29 "check_cloths"=true) (k29:PySem.W.keepIn K (.ref f29)=true)
  {od30 an30:Option Addr} {sl30:Array (Option Value)} {oc30 kV30 dc30 pm30 cd30 ct30:Value} (a30:PySem.W.findIn K (.ref C_Works) "hues"=some (some (.ref f30))) (i30:PySem.W.isFn K (.ref f30)=true) (l30:K.lookup f30=some ⟨oc30,od30,.func (PySem.W.fnOf "hues" "Works.hues" (qas qc1) (qal qc1) (qab qc1) .none kV30 dc30 pm30 an30 cd30 ct30),sl30⟩) (c30:PySem.W.codeIn K cd30 "Works.hues"=true) (k30:PySem.W.keepIn K (.ref f30)=true)
  {od31 an31:Option Addr} {sl31:Array (Option Value)} {oc31 kV31 dc31 pm31 cd31 ct31:Value} (a31:PySem.W.findIn K (.ref C_Works) "tray_rinse"=some (some (.ref f31))) (i31:PySem.W.isFn K (.ref f31)=true) (l31:K.lookup f31=some ⟨oc31,od31,.func (PySem.W.fnOf "tray_rinse" "Works.tray_rinse" (qas qbh) (qal qbh) (qab qbh) .none kV31 dc31 pm31 an31 cd31 ct31),sl31⟩) (c31:PySem.W.codeIn K cd31 "Works.tray_rinse"=true) (k31:PySem.W.keepIn K (.ref f31)=true)
  {od32 an32:Option Addr} {sl32:Array (Option Value)} {oc32 kV32 dc32 pm32 cd32 ct32:Value} (a32:PySem.W.findIn K (.ref C_Works) "rinse"=some (some (.ref f32))) (i32:PySem.W.isFn K (.ref f32)=true) (l32:K.lookup f32=some ⟨oc32,od32,.func (PySem.W.fnOf "rinse" "Works.rinse" (qas qco) (qal qco) (qab qco) .none kV32 dc32 pm32 an32 cd32 ct32),sl32⟩) (c32:PySem.W.codeIn K cd32 "Works.rinse"=true) (k32:PySem.W.keepIn K (.ref f32)=true)
  {od33 an33:Option Addr} {sl33:Array (Option Value)} {oc33 kV33 dc33 pm33 cd33 ct33:Value} (a33:PySem.W.findIn K (.ref C_Works) "start"=some (some (.ref f33))) (i33:PySem.W.isFn K (.ref f33)=true) (l33:K.lookup f33=some ⟨oc33,od33,.func (PySem.W.fnOf "start" "Works.start" (qas qcn) (qal qcn) (qab qcn) .none kV33 dc33 pm33 an33 cd33 ct33),sl33⟩) (c33:PySem.W.codeIn K cd33 "Works.start"=true) (k33:PySem.W.keepIn K (.ref f33)=true)
  {od34 an34:Option Addr} {sl34:Array (Option Value)} {oc34 kV34 dc34 pm34 cd34 ct34:Value} (a34:PySem.W.findIn K (.ref C_Works) "names"=some (some (.ref f34))) (i34:PySem.W.isFn K (.ref f34)=true) (l34:K.lookup f34=some ⟨oc34,od34,.func (PySem.W.fnOf "names" "Works.names" (qas qcp) (qal qcp) (qab qcp) .none kV34 dc34 pm34 an34 cd34 ct34),sl34⟩) (c34:PySem.W.codeIn K cd34 "Works.names"=true) (k34:PySem.W.keepIn K (.ref f34)=true)
  {od35 an35:Option Addr} {sl35:Array (Option Value)} {oc35 kV35 dc35 pm35 cd35 ct35:Value} (a35:PySem.W.findIn K (.ref C_Works) "cloth"=some (some (.ref f35))) (i35:PySem.W.isFn K (.ref f35)=true) (l35:K.lookup f35=some ⟨oc35,od35,.func (PySem.W.fnOf "cloth" "Works.cloth" (qas qcq) (qal qcq) (qab qcq) .none kV35 dc35 pm35 an35 cd35 ct35),sl35⟩) (c35:PySem.W.codeIn K cd35 "Works.cloth"=true) (k35:PySem.W.keepIn K (.ref f35)=true)
  {od36 an36:Option Addr} {sl36:Array (Option Value)} {oc36 kV36 dc36 pm36 cd36 ct36:Value} (a36:PySem.W.nsIn K mainGlobals "are_names"=some (some (.ref f36))) (l36:K.lookup f36=some ⟨oc36,od36,.func (PySem.W.fnOf "are_names" "are_names" (qas qdo) (qal qdo) (qab qdo) .none kV36 dc36 pm36 an36 cd36 ct36),sl36⟩) (c36:PySem.W.codeIn K cd36 "are_names"=true) (k36:PySem.W.keepIn K (.ref f36)=true)
  {od37 an37:Option Addr} {sl37:Array (Option Value)} {oc37 kV37 dc37 pm37 cd37 ct37:Value} (a37:PySem.W.nsIn K mainGlobals "check_names"=some (some (.ref f37))) (l37:K.lookup f37=some ⟨oc37,od37,.func (PySem.W.fnOf "check_names" "check_names" (qas qcm) (qal qcm) (qab qcm) .none kV37 dc37 pm37 an37 cd37 ct37),sl37⟩) (c37:PySem.W.codeIn K cd37 "check_names"=true) (k37:PySem.W.keepIn K (.ref f37)=true)
  {od38 an38:Option Addr} {sl38:Array (Option Value)} {oc38 kV38 dc38 pm38 cd38 ct38:Value} (a38:PySem.W.nsIn K mainGlobals "done_rows"=some (some (.ref f38))) (l38:K.lookup f38=some ⟨oc38,od38,.func (PySem.W.fnOf "done_rows" "done_rows" (qas qdn) (qal qdn) (qab qdn) .none kV38 dc38 pm38 an38 cd38 ct38),sl38⟩) (c38:PySem.W.codeIn K cd38 "done_rows"=true) (k38:PySem.W.keepIn K (.ref f38)=true)
  {od39 an39:Option Addr} {sl39:Array (Option Value)} {oc39 kV39 dc39 pm39 cd39 ct39:Value} (a39:PySem.W.nsIn K mainGlobals "end_of"=some (some (.ref f39))) (l39:K.lookup f39=some ⟨oc39,od39,.func (PySem.W.fnOf "end_of" "end_of" (qas qf8) (qal qf8) (qab qf8) .none kV39 dc39 pm39 an39 cd39 ct39),sl39⟩) (c39:PySem.W.codeIn K cd39 "end_of"=true) (k39:PySem.W.keepIn K (.ref f39)=true)
  {T40:Addr} {od40 an40:Option Addr} {sl40:Array (Option Value)} {oc40 kV40 dc40 pm40 cd40 ct40:Value} (a40:PySem.W.findIn K (.ref C_Works) "__init__"=some (some (.ref f40))) (i40:PySem.W.isFn K (.ref f40)=true) (l40:K.lookup f40=some ⟨oc40,od40,.func (PySem.W.fnOf "__init__" "Works.__init__" (qas qbo) (qal qbo) (qab qbo) (.ref T40) kV40 dc40 pm40 an40 cd40 ct40),sl40⟩) (c40:PySem.W.codeIn K cd40 "Works.__init__"=true) (k40:PySem.W.keepIn K (.ref f40)=true)
  {qc40:Value} {qd40:Option Addr} {qv40_0 qv40_1:Value} {qn40:Nat} {qs40:Array (Option Value)} (q40:K.lookup T40=some ⟨qc40,qd40,.seq #[qv40_0,qv40_1] qn40,qs40⟩)
  {od41 an41:Option Addr} {sl41:Array (Option Value)} {oc41 kV41 dc41 pm41 cd41 ct41:Value} (a41:PySem.W.nsIn K mainGlobals "_law_whole"=some (some (.ref f41))) (l41:K.lookup f41=some ⟨oc41,od41,.func (PySem.W.fnOf "_law_whole" "_law_whole" (qas qh0) (qal qh0) (qab qh0) .none kV41 dc41 pm41 an41 cd41 ct41),sl41⟩) (c41:PySem.W.codeIn K cd41 "_law_whole"=true) (k41:PySem.W.keepIn K (.ref f41)=true)
  {od42 an42:Option Addr} {sl42:Array (Option Value)} {oc42 kV42 dc42 pm42 cd42 ct42:Value} (a42:PySem.W.nsIn K mainGlobals "_law_sums"=some (some (.ref f42))) (l42:K.lookup f42=some ⟨oc42,od42,.func (PySem.W.fnOf "_law_sums" "_law_sums" (qas qls) (qal qls) (qab qls) .none kV42 dc42 pm42 an42 cd42 ct42),sl42⟩) (c42:PySem.W.codeIn K cd42 "_law_sums"=true) (k42:PySem.W.keepIn K (.ref f42)=true)
  {od43 an43:Option Addr} {sl43:Array (Option Value)} {oc43 kV43 dc43 pm43 cd43 ct43:Value} (a43:PySem.W.nsIn K mainGlobals "_law_rows"=some (some (.ref f43))) (l43:K.lookup f43=some ⟨oc43,od43,.func (PySem.W.fnOf "_law_rows" "_law_rows" (qas qlu) (qal qlu) (qab qlu) .none kV43 dc43 pm43 an43 cd43 ct43),sl43⟩) (c43:PySem.W.codeIn K cd43 "_law_rows"=true) (k43:PySem.W.keepIn K (.ref f43)=true)
  {od44 an44:Option Addr} {sl44:Array (Option Value)} {oc44 kV44 dc44 pm44 cd44 ct44:Value} (a44:PySem.W.nsIn K mainGlobals "_law_runs"=some (some (.ref f44))) (l44:K.lookup f44=some ⟨oc44,od44,.func (PySem.W.fnOf "_law_runs" "_law_runs" (qas qlt) (qal qlt) (qab qlt) .none kV44 dc44 pm44 an44 cd44 ct44),sl44⟩) (c44:PySem.W.codeIn K cd44 "_law_runs"=true) (k44:PySem.W.keepIn K (.ref f44)=true)
  {od45 an45:Option Addr} {sl45:Array (Option Value)} {oc45 kV45 dc45 pm45 cd45 ct45:Value} (a45:PySem.W.nsIn K mainGlobals "_law_done"=some (some (.ref f45))) (l45:K.lookup f45=some ⟨oc45,od45,.func (PySem.W.fnOf "_law_done" "_law_done" (qas qlx) (qal qlx) (qab qlx) .none kV45 dc45 pm45 an45 cd45 ct45),sl45⟩) (c45:PySem.W.codeIn K cd45 "_law_done"=true) (k45:PySem.W.keepIn K (.ref f45)=true)
  {od46 an46:Option Addr} {sl46:Array (Option Value)} {oc46 kV46 dc46 pm46 cd46 ct46:Value} (a46:PySem.W.nsIn K mainGlobals "runs_of"=some (some (.ref f46))) (l46:K.lookup f46=some ⟨oc46,od46,.func (PySem.W.fnOf "runs_of" "runs_of" (qas qel) (qal qel) (qab qel) .none kV46 dc46 pm46 an46 cd46 ct46),sl46⟩) (c46:PySem.W.codeIn K cd46 "runs_of"=true) (k46:PySem.W.keepIn K (.ref f46)=true)
  {od47 an47:Option Addr} {sl47:Array (Option Value)} {oc47 kV47 dc47 pm47 cd47 ct47:Value} (a47:PySem.W.nsIn K mainGlobals "_law_asked"=some (some (.ref f47))) (l47:K.lookup f47=some ⟨oc47,od47,.func (PySem.W.fnOf "_law_asked" "_law_asked" (qas qh5) (qal qh5) (qab qh5) .none kV47 dc47 pm47 an47 cd47 ct47),sl47⟩) (c47:PySem.W.codeIn K cd47 "_law_asked"=true) (k47:PySem.W.keepIn K (.ref f47)=true)
  {od48 an48:Option Addr} {sl48:Array (Option Value)} {oc48 kV48 dc48 pm48 cd48 ct48:Value} (a48:PySem.W.nsIn K mainGlobals "law"=some (some (.ref f48))) (l48:K.lookup f48=some ⟨oc48,od48,.func (PySem.W.fnOf "law" "law" (qas qm3) (qal qm3) (qab qm3) .none kV48 dc48 pm48 an48 cd48 ct48),sl48⟩) (c48:PySem.W.codeIn K cd48 "law"=true) (k48:PySem.W.keepIn K (.ref f48)=true)
  (z_all:PySem.W.nsIn K mainGlobals "all"=some none)
  (z_bool:PySem.W.nsIn K mainGlobals "bool"=some none)
  (z_dict:PySem.W.nsIn K mainGlobals "dict"=some none)
  (z_enumerate:PySem.W.nsIn K mainGlobals "enumerate"=some none)
  (z_int:PySem.W.nsIn K mainGlobals "int"=some none)
  (z_isinstance:PySem.W.nsIn K mainGlobals "isinstance"=some none)
  (z_len:PySem.W.nsIn K mainGlobals "len"=some none)
  (z_list:PySem.W.nsIn K mainGlobals "list"=some none)
  (z_min:PySem.W.nsIn K mainGlobals "min"=some none)
  (z_range:PySem.W.nsIn K mainGlobals "range"=some none)
  (z_set:PySem.W.nsIn K mainGlobals "set"=some none)
  (z_sorted:PySem.W.nsIn K mainGlobals "sorted"=some none)
  (z_str:PySem.W.nsIn K mainGlobals "str"=some none)
  (z_sum:PySem.W.nsIn K mainGlobals "sum"=some none)
  (z_tuple:PySem.W.nsIn K mainGlobals "tuple"=some none)
  (z_zip:PySem.W.nsIn K mainGlobals "zip"=some none)
  {t_LONGEST_NAME:Tok} (y_LONGEST_NAME:PySem.W.nsIn K mainGlobals "LONGEST_NAME"=some (some (.int 8 t_LONGEST_NAME)))
  {t_MOST_CLOTHS:Tok} (y_MOST_CLOTHS:PySem.W.nsIn K mainGlobals "MOST_CLOTHS"=some (some (.int 10 t_MOST_CLOTHS)))
  {t_MOST_HUES:Tok} (y_MOST_HUES:PySem.W.nsIn K mainGlobals "MOST_HUES"=some (some (.int 4 t_MOST_HUES)))
  {t_PARTS:Tok} (y_PARTS:PySem.W.nsIn K mainGlobals "PARTS"=some (some (.int 5 t_PARTS)))
  : ∃ fd:FuncData,(∀ (s:Shared) (v:Value),BindsTo s fd ⟨[v],[]⟩ [("script",v)])/\∀ base:Heap,K.In base->base.Ns mainGlobals mg->FnOk l.prog w K mg base CX0 7 fa fd ["script"] (qu1 K):=by
 have e:=hfa.symm.trans (PySem.W.mg_of X G a48)
 cases e
 have m_all:=PySem.W.mg_none_of X G z_all
 have m_bool:=PySem.W.mg_none_of X G z_bool
 have m_dict:=PySem.W.mg_none_of X G z_dict
 have m_enumerate:=PySem.W.mg_none_of X G z_enumerate
 have m_int:=PySem.W.mg_none_of X G z_int
 have m_isinstance:=PySem.W.mg_none_of X G z_isinstance
 have m_len:=PySem.W.mg_none_of X G z_len
 have m_list:=PySem.W.mg_none_of X G z_list
 have m_min:=PySem.W.mg_none_of X G z_min
 have m_range:=PySem.W.mg_none_of X G z_range
 have m_set:=PySem.W.mg_none_of X G z_set
 have m_sorted:=PySem.W.mg_none_of X G z_sorted
 have m_str:=PySem.W.mg_none_of X G z_str
 have m_sum:=PySem.W.mg_none_of X G z_sum
 have m_tuple:=PySem.W.mg_none_of X G z_tuple
 have m_zip:=PySem.W.mg_none_of X G z_zip
 have g_LONGEST_NAME:=PySem.W.mg_of X G y_LONGEST_NAME
 have g_MOST_CLOTHS:=PySem.W.mg_of X G y_MOST_CLOTHS
 have g_MOST_HUES:=PySem.W.mg_of X G y_MOST_HUES
 have g_PARTS:=PySem.W.mg_of X G y_PARTS
 have g_Works:=PySem.W.mg_of X G y_Works
 have k_Works:ClsI K C_Works:=⟨⟨pg_Works,hd_Works,po_Works,sa_Works⟩⟩
 have na_Works_given:NoA K C_Works "given":=⟨n_Works_given⟩
 have na_Works_held:NoA K C_Works "held":=⟨n_Works_held⟩
 have na_Works_last:NoA K C_Works "last":=⟨n_Works_last⟩
 have na_Works_least:NoA K C_Works "least":=⟨n_Works_least⟩
 have na_Works_time:NoA K C_Works "time":=⟨n_Works_time⟩
 have F0:=qa9 (st:=qh3) l0 c0 k0
 have F1:=qa9 (st:=qlr) l1 c1 k1
 have F2:=qa9 (st:=qe4) l2 c2 k2
 have F3:=qa9 (st:=qlw) l3 c3 k3
 have F4:=qa9 (st:=qh1) l4 c4 k4
 have F5:=qa9 (st:=qf4) l5 c5 k5
 have F6:=qa9 (st:=qlv) l6 c6 k6
 have F7:=qa9 (st:=qh4) l7 c7 k7
 have F8:=qa9 (st:=qhz) l8 c8 k8
 have F9:=qa9 (st:=qh2) l9 c9 k9
 have F10:=qa9 (st:=qdz) l10 c10 k10
 have F11:=qa9 (st:=qem) l11 c11 k11
 have F12:=qa9 (st:=qf7) l12 c12 k12
 have F13:=qa9 (st:=qdm) l13 c13 k13
 have F14:=qa9 (st:=qf9) l14 c14 k14
 have F15:=qa9 (st:=qdl) l15 c15 k15
 have F16:=qa9 (st:=qeo) l16 c16 k16
 have F17:=qa9 (st:=qen) l17 c17 k17
 have F18:=qa9 (st:=qd0) l18 c18 k18
 have F19:=qa9 (st:=qb7) l19 c19 k19
 have F20:=qa9 (st:=qb8) l20 c20 k20
 have F21:=qa9 (st:=qbu) l21 c21 k21
 have F22:=qa9 (st:=qf6) l22 c22 k22
 have F23:=qa9 (st:=qf5) l23 c23 k23
 have F24:=qa9 (st:=qb5) l24 c24 k24
 have F25:=qa9 (st:=qc0) l25 c25 k25
 have F26:=qa9 (st:=qek) l26 c26 k26
 have F27:=qa9 (st:=qb6) l27 c27 k27
 have F28:=qa9 (st:=qcl) l28 c28 k28
 have F29:=qa9 (st:=qb9) l29 c29 k29
 have F30:=qa9 (st:=qc1) l30 c30 k30
 have F31:=qa9 (st:=qbh) l31 c31 k31
 have F32:=qa9 (st:=qco) l32 c32 k32
 have F33:=qa9 (st:=qcn) l33 c33 k33
 have F34:=qa9 (st:=qcp) l34 c34 k34
 have F35:=qa9 (st:=qcq) l35 c35 k35
 have F36:=qa9 (st:=qdo) l36 c36 k36
 have F37:=qa9 (st:=qcm) l37 c37 k37
 have F38:=qa9 (st:=qdn) l38 c38 k38
 have F39:=qa9 (st:=qf8) l39 c39 k39
 have F40:=fun_mkD (st:=qbo) l40 c40 k40
 have F41:=qa9 (st:=qh0) l41 c41 k41
 have F42:=qa9 (st:=qls) l42 c42 k42
 have F43:=qa9 (st:=qlu) l43 c43 k43
 have F44:=qa9 (st:=qlt) l44 c44 k44
 have F45:=qa9 (st:=qlx) l45 c45 k45
 have F46:=qa9 (st:=qel) l46 c46 k46
 have F47:=qa9 (st:=qh5) l47 c47 k47
 have F48:=qa9 (st:=qm3) l48 c48 k48
 have b0:=F0.binds (ps:=["cell", "k"]) fun _ _ _ _ _ _ us hl=>match us,hl with | [_,_],_=>rfl
 have b1:=F1.binds (ps:=["stream", "many"]) fun _ _ _ _ _ _ us hl=>match us,hl with | [_,_],_=>rfl
 have b2:=F2.binds (ps:=["script", "k"]) fun _ _ _ _ _ _ us hl=>match us,hl with | [_,_],_=>rfl
 have b3:=F3.binds (ps:=["script"]) fun _ _ _ _ _ _ us hl=>match us,hl with | [_],_=>rfl
 have b4:=F4.binds (ps:=["stream"]) fun _ _ _ _ _ _ us hl=>match us,hl with | [_],_=>rfl
 have b5:=F5.binds (ps:=["stream", "hues"]) fun _ _ _ _ _ _ us hl=>match us,hl with | [_,_],_=>rfl
 have b6:=F6.binds (ps:=["stream", "names"]) fun _ _ _ _ _ _ us hl=>match us,hl with | [_,_],_=>rfl
 have b7:=F7.binds (ps:=["stream", "names", "hues"]) fun _ _ _ _ _ _ us hl=>match us,hl with | [_,_,_],_=>rfl
 have b8:=F8.binds (ps:=["script", "most"]) fun _ _ _ _ _ _ us hl=>match us,hl with | [_,_],_=>rfl
 have b9:=F9.binds (ps:=["stream", "names"]) fun _ _ _ _ _ _ us hl=>match us,hl with | [_,_],_=>rfl
 have b10:=F10.binds (ps:=["thing"]) fun _ _ _ _ _ _ us hl=>match us,hl with | [_],_=>rfl
 have b11:=F11.binds (ps:=["cloth"]) fun _ _ _ _ _ _ us hl=>match us,hl with | [_],_=>rfl
 have b12:=F12.binds (ps:=["cloth"]) fun _ _ _ _ _ _ us hl=>match us,hl with | [_],_=>rfl
 have b13:=F13.binds (ps:=["cloth"]) fun _ _ _ _ _ _ us hl=>match us,hl with | [_],_=>rfl
 have b14:=F14.binds (ps:=["cloth"]) fun _ _ _ _ _ _ us hl=>match us,hl with | [_],_=>rfl
 have b15:=F15.binds (ps:=["cloth"]) fun _ _ _ _ _ _ us hl=>match us,hl with | [_],_=>rfl
 have b16:=F16.binds (ps:=["thing", "least"]) fun _ _ _ _ _ _ us hl=>match us,hl with | [_,_],_=>rfl
 have b17:=F17.binds (ps:=["thing"]) fun _ _ _ _ _ _ us hl=>match us,hl with | [_],_=>rfl
 have b18:=F18.binds (ps:=["thing", "hues"]) fun _ _ _ _ _ _ us hl=>match us,hl with | [_,_],_=>rfl
 have b19:=F19.binds (ps:=["row", "hues"]) fun _ _ _ _ _ _ us hl=>match us,hl with | [_,_],_=>rfl
 have b20:=F20.binds (ps:=["rinses"]) fun _ _ _ _ _ _ us hl=>match us,hl with | [_],_=>rfl
 have b21:=F21.binds (ps:=["row"]) fun _ _ _ _ _ _ us hl=>match us,hl with | [_],_=>rfl
 have b22:=F22.binds (ps:=["way", "onward"]) fun _ _ _ _ _ _ us hl=>match us,hl with | [_,_],_=>rfl
 have b23:=F23.binds (ps:=["way", "other"]) fun _ _ _ _ _ _ us hl=>match us,hl with | [_,_],_=>rfl
 have b24:=F24.binds (ps:=["ways", "hue", "onward"]) fun _ _ _ _ _ _ us hl=>match us,hl with | [_,_,_],_=>rfl
 have b25:=F25.binds (ps:=["rinses"]) fun _ _ _ _ _ _ us hl=>match us,hl with | [_],_=>rfl
 have b26:=F26.binds (ps:=["ways"]) fun _ _ _ _ _ _ us hl=>match us,hl with | [_],_=>rfl
 have b27:=F27.binds (ps:=["rinses"]) fun _ _ _ _ _ _ us hl=>match us,hl with | [_],_=>rfl
 have b28:=F28.binds (ps:=["last", "time", "hues"]) fun _ _ _ _ _ _ us hl=>match us,hl with | [_,_,_],_=>rfl
 have b29:=F29.binds (ps:=["cloths", "hues"]) fun _ _ _ _ _ _ us hl=>match us,hl with | [_,_],_=>rfl
 have b30:=F30.binds (ps:=["self"]) fun _ _ _ _ _ _ us hl=>match us,hl with | [_],_=>rfl
 have b31:=F31.binds (ps:=["self", "first", "then"]) fun _ _ _ _ _ _ us hl=>match us,hl with | [_,_,_],_=>rfl
 have b32:=F32.binds (ps:=["self", "first", "then"]) fun _ _ _ _ _ _ us hl=>match us,hl with | [_,_,_],_=>rfl
 have b33:=F33.binds (ps:=["self"]) fun _ _ _ _ _ _ us hl=>match us,hl with | [_],_=>rfl
 have b34:=F34.binds (ps:=["self"]) fun _ _ _ _ _ _ us hl=>match us,hl with | [_],_=>rfl
 have b35:=F35.binds (ps:=["self", "name"]) fun _ _ _ _ _ _ us hl=>match us,hl with | [_,_],_=>rfl
 have b36:=F36.binds (ps:=["works", "names"]) fun _ _ _ _ _ _ us hl=>match us,hl with | [_,_],_=>rfl
 have b37:=F37.binds (ps:=["works", "names"]) fun _ _ _ _ _ _ us hl=>match us,hl with | [_,_],_=>rfl
 have b38:=F38.binds (ps:=["works", "names"]) fun _ _ _ _ _ _ us hl=>match us,hl with | [_,_],_=>rfl
 have b39:=F39.binds (ps:=["works", "names"]) fun _ _ _ _ _ _ us hl=>match us,hl with | [_,_],_=>rfl
 have b40:Binds K (PySem.W.fnOf "__init__" "Works.__init__" (qas qbo) (qal qbo) (qab qbo) (.ref T40) kV40 dc40 pm40 an40 cd40 ct40) ["self", "rinses", "cloths", "last", "time"] []:=binds_d (T:=T40) rfl q40 rfl fun us hl=>match us,hl with | [_,_,_,_,_],_=>⟨_,rfl,rfl⟩
 have b41:=F41.binds (ps:=["found"]) fun _ _ _ _ _ _ us hl=>match us,hl with | [_],_=>rfl
 have b42:=F42.binds (ps:=["rinses"]) fun _ _ _ _ _ _ us hl=>match us,hl with | [_],_=>rfl
 have b43:=F43.binds (ps:=["works", "names"]) fun _ _ _ _ _ _ us hl=>match us,hl with | [_,_],_=>rfl
 have b44:=F44.binds (ps:=["works", "names"]) fun _ _ _ _ _ _ us hl=>match us,hl with | [_,_],_=>rfl
 have b45:=F45.binds (ps:=["found", "due"]) fun _ _ _ _ _ _ us hl=>match us,hl with | [_,_],_=>rfl
 have b46:=F46.binds (ps:=["works", "names"]) fun _ _ _ _ _ _ us hl=>match us,hl with | [_,_],_=>rfl
 have b47:=F47.binds (ps:=["works", "drawn", "names"]) fun _ _ _ _ _ _ us hl=>match us,hl with | [_,_,_],_=>rfl
 refine ⟨PySem.W.fnOf "law" "law" (qas qm3) (qal qm3) (qab qm3) .none kV48 dc48 pm48 an48 cd48 ct48,fun s v=> .of_eq rfl,fun base _ _=>?_⟩
 have c_mixed:Fn l.prog w K mg base 1 "_law_mixed" ["cell", "k"] qmv:=⟨_,_,ok_mixed F0 ,PySem.W.mg_of X G a0,k0,b0⟩
 have c_take:Fn l.prog w K mg base 1 "_law_take" ["stream", "many"] qha:=⟨_,_,ok_take F1 ,PySem.W.mg_of X G a1,k1,b1⟩
 have c_stream:Fn l.prog w K mg base 2 "_law_stream" ["script", "k"] (spN (qca K) qce):=⟨_,_,qv0 F2 c_mixed m_len m_range m_sum,PySem.W.mg_of X G a2,k2,b2⟩
 have c_more:Fn l.prog w K mg base 3 "_law_more" ["script"] (spN (qi2 K) qce):=⟨_,_,ok_more F3 c_stream,PySem.W.mg_of X G a3,k3,b3⟩
 have c_rinse:Fn l.prog w K mg base 2 "_law_rinse" ["stream"] (spD qes qie):=⟨_,_,ok_rinse F4 c_take,PySem.W.mg_of X G a4,k4,b4⟩
 have c_rinses:Fn l.prog w K mg base 3 "_law_rinses" ["stream", "hues"] (spD qdp qgf):=⟨_,_,qv1 F5 c_rinse m_range,PySem.W.mg_of X G a5,k5,b5⟩
 have c_name:Fn l.prog w K mg base 2 "_law_name" ["stream", "names"] (spD qga qk0):=⟨_,_,ok_name F6 c_take m_len m_range,PySem.W.mg_of X G a6,k6,b6⟩
 have c_cloth:Fn l.prog w K mg base 3 "_law_cloth" ["stream", "names", "hues"] (spD qd4 qif):=⟨_,_,ok_cloth F7 c_name c_take,PySem.W.mg_of X G a7,k7,b7⟩
 have c_works:Fn l.prog w K mg base 4 "_law_works" ["script", "most"] (spV (qer K) qid):=⟨_,_,ok_works F8 c_cloth c_rinses c_stream c_take m_min m_range,PySem.W.mg_of X G a8,k8,b8⟩
 have c_order:Fn l.prog w K mg base 2 "_law_order" ["stream", "names"] (spD qet qkz):=⟨_,_,ok_order F9 c_take m_len m_list,PySem.W.mg_of X G a9,k9,b9⟩
 have c_is_whole:Fn l.prog w K mg base 1 "is_whole" ["thing"] (spP qcr):=⟨_,_,qqh F10 m_bool m_int m_isinstance,PySem.W.mg_of X G a10,k10,b10⟩
 have c_name_of:Fn l.prog w K mg base 1 "name_of" ["cloth"] (spP qcu):=⟨_,_,qtd F11 ,PySem.W.mg_of X G a11,k11,b11⟩
 have c_hue_of:Fn l.prog w K mg base 1 "hue_of" ["cloth"] (spP qcs):=⟨_,_,qv4 F12 ,PySem.W.mg_of X G a12,k12,b12⟩
 have c_length_of:Fn l.prog w K mg base 1 "length_of" ["cloth"] (spP qcy):=⟨_,_,qop F13 ,PySem.W.mg_of X G a13,k13,b13⟩
 have c_due_of:Fn l.prog w K mg base 1 "due_of" ["cloth"] (spP qi6):=⟨_,_,qv6 F14 ,PySem.W.mg_of X G a14,k14,b14⟩
 have c_weight_of:Fn l.prog w K mg base 1 "weight_of" ["cloth"] (spP qe9):=⟨_,_,qoo F15 ,PySem.W.mg_of X G a15,k15,b15⟩
 have c_is_from:Fn l.prog w K mg base 2 "is_from" ["thing", "least"] (spP qcg):=⟨_,_,qtf F16 c_is_whole,PySem.W.mg_of X G a16,k16,b16⟩
 have c_is_name:Fn l.prog w K mg base 1 "is_name" ["thing"] (spP qft):=⟨_,_,qte F17 m_all m_isinstance m_len m_str g_LONGEST_NAME,PySem.W.mg_of X G a17,k17,b17⟩
 have c_is_cloth:Fn l.prog w K mg base 3 "is_cloth" ["thing", "hues"] (spP qew):=⟨_,_,qqi F18 c_due_of c_hue_of c_is_from c_is_name c_is_whole c_length_of c_name_of c_weight_of m_isinstance m_len m_tuple g_PARTS,PySem.W.mg_of X G a18,k18,b18⟩
 have c_is_rinse_row:Fn l.prog w K mg base 2 "is_rinse_row" ["row", "hues"] (spP qcb):=⟨_,_,qj5 F19 c_is_whole m_all m_isinstance m_len m_list,PySem.W.mg_of X G a19,k19,b19⟩
 have c_check_rinses:Fn l.prog w K mg base 3 "check_rinses" ["rinses"] (spP qcw):=⟨_,_,qj6 F20 c_is_rinse_row m_all m_isinstance m_len m_list g_MOST_HUES,PySem.W.mg_of X G a20,k20,b20⟩
 have c_straight_ways:Fn l.prog w K mg base 1 "straight_ways" ["row"] (spO qbw):=⟨_,_,qiy F21 m_enumerate,PySem.W.mg_of X G a21,k21,b21⟩
 have c_joined:Fn l.prog w K mg base 1 "joined" ["way", "onward"] (spP qgc):=⟨_,_,qv3 F22 ,PySem.W.mg_of X G a22,k22,b22⟩
 have c_lesser:Fn l.prog w K mg base 1 "lesser" ["way", "other"] (spP qgb):=⟨_,_,qv2 F23 ,PySem.W.mg_of X G a23,k23,b23⟩
 have c_ways_through:Fn l.prog w K mg base 2 "ways_through" ["ways", "hue", "onward"] (spO qbr):=⟨_,_,qj3 F24 c_joined c_lesser m_zip,PySem.W.mg_of X G a24,k24,b24⟩
 have c_least_ways:Fn l.prog w K mg base 3 "least_ways" ["rinses"] (spP qdt):=⟨_,_,qnj F25 c_straight_ways c_ways_through m_len m_range,PySem.W.mg_of X G a25,k25,b25⟩
 have c_sums_of:Fn l.prog w K mg base 1 "sums_of" ["ways"] (spO qfs):=⟨_,_,qta F26 ,PySem.W.mg_of X G a26,k26,b26⟩
 have c_least_rinses:Fn l.prog w K mg base 4 "least_rinses" ["rinses"] (spO qcv):=⟨_,_,qj4 F27 c_check_rinses c_least_ways c_sums_of,PySem.W.mg_of X G a27,k27,b27⟩
 have c_check_start:Fn l.prog w K mg base 3 "check_start" ["last", "time", "hues"] (spP qdc):=⟨_,_,qlf F28 c_is_from,PySem.W.mg_of X G a28,k28,b28⟩
 have c_check_cloths:Fn l.prog w K mg base 4 "check_cloths" ["cloths", "hues"] (spP qcx):=⟨_,_,qj7 F29 c_is_cloth c_name_of m_len g_MOST_CLOTHS,PySem.W.mg_of X G a29,k29,b29⟩
 have t_Works_hues:Mt l.prog w K mg base 1 C_Works "hues" ["self"] (spP (qc3 C_Works)):=⟨_,_,qnl F30 m_len,⟨a30,i30,k30⟩,k_Works.c,b30⟩
 have t_Works_tray_rinse:Mt l.prog w K mg base 1 C_Works "tray_rinse" ["self", "first", "then"] (spP (qbp C_Works)):=⟨_,_,qg0 F31 ,⟨a31,i31,k31⟩,k_Works.c,b31⟩
 have t_Works_rinse:Mt l.prog w K mg base 2 C_Works "rinse" ["self", "first", "then"] (spP (qct C_Works)):=⟨_,_,qli F32 t_Works_tray_rinse,⟨a32,i32,k32⟩,k_Works.c,b32⟩
 have t_Works_start:Mt l.prog w K mg base 1 C_Works "start" ["self"] (spP (qb0 C_Works)):=⟨_,_,qlh F33 ,⟨a33,i33,k33⟩,k_Works.c,b33⟩
 have t_Works_names:Mt l.prog w K mg base 1 C_Works "names" ["self"] (spO (qdd C_Works)):=⟨_,_,qlj F34 m_sorted,⟨a34,i34,k34⟩,k_Works.c,b34⟩
 have t_Works_cloth:Mt l.prog w K mg base 1 C_Works "cloth" ["self", "name"] (spP (qbk C_Works)):=⟨_,_,qlk F35 m_isinstance m_str,⟨a35,i35,k35⟩,k_Works.c,b35⟩
 have c_are_names:Fn l.prog w K mg base 2 "are_names" ["works", "names"] (spP (qcz C_Works)):=⟨_,_,qor F36 m_all m_isinstance m_len m_list m_set t_Works_names,PySem.W.mg_of X G a36,k36,b36⟩
 have c_check_names:Fn l.prog w K mg base 3 "check_names" ["works", "names"] (spP (qbz C_Works)):=⟨_,_,qlg F37 c_are_names,PySem.W.mg_of X G a37,k37,b37⟩
 have c_done_rows:Fn l.prog w K mg base 4 "done_rows" ["works", "names"] (spO (qbs C_Works)):=⟨_,_,qoq F38 c_check_names c_hue_of c_length_of t_Works_cloth t_Works_rinse t_Works_start,PySem.W.mg_of X G a38,k38,b38⟩
 have c_end_of:Fn l.prog w K mg base 5 "end_of" ["works", "names"] (spP (qhj C_Works)):=⟨_,_,qv5 F39 c_done_rows t_Works_start,PySem.W.mg_of X G a39,k39,b39⟩
 have w_Works:Mkr l.prog w K mg base 5 C_Works ["self", "rinses", "cloths", "last", "time"] (spI C_Works (qc2 C_Works)):=⟨_,_,qnk F40 c_check_cloths c_check_start c_least_rinses c_name_of m_dict m_list t_Works_hues,⟨mk_Works,a40,i40,kc_Works⟩,b40⟩
 have c_whole:Fn l.prog w K mg base 1 "_law_whole" ["found"] (spP qfr):=⟨_,_,ok_whole F41 m_bool m_int m_isinstance,PySem.W.mg_of X G a41,k41,b41⟩
 have c_sums:Fn l.prog w K mg base 1 "_law_sums" ["rinses"] (spP qot):=⟨_,_,ok_sums F42 m_len m_list m_min m_range,PySem.W.mg_of X G a42,k42,b42⟩
 have c_rows:Fn l.prog w K mg base 2 "_law_rows" ["works", "names"] (spO qou):=⟨_,_,ok_rows F43 c_sums,PySem.W.mg_of X G a43,k43,b43⟩
 have c_runs:Fn l.prog w K mg base 1 "_law_runs" ["works", "names"] (spP qj9):=⟨_,_,ok_runs F44 m_enumerate,PySem.W.mg_of X G a44,k44,b44⟩
 have c_done:Fn l.prog w K mg base 2 "_law_done" ["found", "due"] (spP qov):=⟨_,_,ok_done F45 c_whole m_all m_isinstance m_list m_tuple,PySem.W.mg_of X G a45,k45,b45⟩
 have c_runs_of:Fn l.prog w K mg base 4 "runs_of" ["works", "names"] (spDX [false,false] (qfa C_Works) noX):=⟨_,_,qtc F46 c_check_names c_hue_of t_Works_cloth,PySem.W.mg_of X G a46,k46,b46⟩
 have c_asked:Fn l.prog w K mg base 6 "_law_asked" ["works", "drawn", "names"] (spP (qfu C_Works)):=⟨_,_,ok_asked F47 c_done c_done_rows c_end_of c_rows c_runs c_runs_of c_whole m_list,PySem.W.mg_of X G a47,k47,b47⟩
 exact ok_law F48 c_asked c_more c_order c_take c_works m_len g_Works w_Works
theorem walk {l:PySem.W.OpenLaw} {q:Program} {loose:List Str} {XP:(Str->Option Value)->Heap->Prop} {YP:World->Heap->Prop} {d:DefRec} {K:Params->PySem.W.Frag} (hn:l.most=some 63) (hdf:d.params.defaults=[])
  (hY:∀ (w:World) (h:Heap),YP w h->(K w.params).In h)
  (F:∀ (w:World) (mg:Str->Option Value) (fa:Addr) (h:Heap),(K w.params).In h->h.Ns mainGlobals mg->mg d.name=some (.ref fa) ->
   ∃ fd:FuncData,(∀ (s:Shared) (u:Value),BindsTo s fd ⟨[u],[]⟩ [("script",u)])/\∀ base:Heap,(K w.params).In base->base.Ns mainGlobals mg->FnOk l.prog w (K w.params) mg base CX0 7 fa fd ["script"] (qu1 (K w.params))) :
  PySem.W.WalkO q loose XP YP l.row.toRowW d [] (fun f vs=>PySem.call f vs) :=
 L2.walk_of (n:=63) (k:=7) (x := "script") (CX:=fun _=>CX0) (sp:=fun w=>qu1 (K w.params)) hn (by decide) hdf ⟨rfl,by decide,by decide⟩ hY F (fun _ _ a ns hl _ hS=>⟨a,ns,rfl,hS,hl,fun _=>rfl⟩) fun _ _ _ _ _ z=>z
end Lw
open PySem PySem.W PyProof.Rows
set_option maxRecDepth 100000 in
set_option maxHeartbeats 0 in
theorem PySem.Challenge.cw_rinsework_k13_done_one_behind_the_other_holds : PySem.Challenge.rw_rinsework_k13_done_one_behind_the_other.Holds := by
  w_on; o_law; k_head; (case hw => w_witness2)
  k_fill
  refine Lw.walk (l := PySem.Challenge.rw_rinsework_k13_done_one_behind_the_other) rfl rfl (fun w h Y => PySem.W.kIn_of Y) ?F
  case F =>
    intro w mg fa h KX G hmg
    refine' Lw.all_mk KX G hmg ?y_Works ?pg_Works ?hd_Works ?po_Works ?sa_Works ?mk_Works ?kc_Works ?n_Works_given ?n_Works_held ?n_Works_last ?n_Works_least ?n_Works_time ?a0 ?l0 ?c0 ?k0 ?a1 ?l1 ?c1 ?k1 ?a2 ?l2 ?c2 ?k2 ?a3 ?l3 ?c3 ?k3 ?a4 ?l4 ?c4 ?k4 ?a5 ?l5 ?c5 ?k5 ?a6 ?l6 ?c6 ?k6 ?a7 ?l7 ?c7 ?k7 ?a8 ?l8 ?c8 ?k8 ?a9 ?l9 ?c9 ?k9 ?a10 ?l10 ?c10 ?k10 ?a11 ?l11 ?c11 ?k11 ?a12 ?l12 ?c12 ?k12 ?a13 ?l13 ?c13 ?k13 ?a14 ?l14 ?c14 ?k14 ?a15 ?l15 ?c15 ?k15 ?a16 ?l16 ?c16 ?k16 ?a17 ?l17 ?c17 ?k17 ?a18 ?l18 ?c18 ?k18 ?a19 ?l19 ?c19 ?k19 ?a20 ?l20 ?c20 ?k20 ?a21 ?l21 ?c21 ?k21 ?a22 ?l22 ?c22 ?k22 ?a23 ?l23 ?c23 ?k23 ?a24 ?l24 ?c24 ?k24 ?a25 ?l25 ?c25 ?k25 ?a26 ?l26 ?c26 ?k26 ?a27 ?l27 ?c27 ?k27 ?a28 ?l28 ?c28 ?k28 ?a29 ?l29 ?c29 ?k29 ?a30 ?i30 ?l30 ?c30 ?k30 ?a31 ?i31 ?l31 ?c31 ?k31 ?a32 ?i32 ?l32 ?c32 ?k32 ?a33 ?i33 ?l33 ?c33 ?k33 ?a34 ?i34 ?l34 ?c34 ?k34 ?a35 ?i35 ?l35 ?c35 ?k35 ?a36 ?l36 ?c36 ?k36 ?a37 ?l37 ?c37 ?k37 ?a38 ?l38 ?c38 ?k38 ?a39 ?l39 ?c39 ?k39 ?a40 ?i40 ?l40 ?c40 ?k40 ?q40 ?a41 ?l41 ?c41 ?k41 ?a42 ?l42 ?c42 ?k42 ?a43 ?l43 ?c43 ?k43 ?a44 ?l44 ?c44 ?k44 ?a45 ?l45 ?c45 ?k45 ?a46 ?l46 ?c46 ?k46 ?a47 ?l47 ?c47 ?k47 ?a48 ?l48 ?c48 ?k48 ?z_all ?z_bool ?z_dict ?z_enumerate ?z_int ?z_isinstance ?z_len ?z_list ?z_min ?z_range ?z_set ?z_sorted ?z_str ?z_sum ?z_tuple ?z_zip ?y_LONGEST_NAME ?y_MOST_CLOTHS ?y_MOST_HUES ?y_PARTS
    (case y_Works => k_is)
    (case pg_Works => k_is)
    (case hd_Works => k_is)
    (case po_Works => k_is)
    (case sa_Works => k_is)
    (case mk_Works => k_is)
    (case kc_Works => k_is)
    (case n_Works_given => k_is)
    (case n_Works_held => k_is)
    (case n_Works_last => k_is)
    (case n_Works_least => k_is)
    (case n_Works_time => k_is)
    (case a0 => k_is)
    (case l0 => k_is)
    (case c0 => k_is)
    (case k0 => k_is)
    (case a1 => k_is)
    (case l1 => k_is)
    (case c1 => k_is)
    (case k1 => k_is)
    (case a2 => k_is)
    (case l2 => k_is)
    (case c2 => k_is)
    (case k2 => k_is)
    (case a3 => k_is)
    (case l3 => k_is)
    (case c3 => k_is)
    (case k3 => k_is)
    (case a4 => k_is)
    (case l4 => k_is)
    (case c4 => k_is)
    (case k4 => k_is)
    (case a5 => k_is)
    (case l5 => k_is)
    (case c5 => k_is)
    (case k5 => k_is)
    (case a6 => k_is)
    (case l6 => k_is)
    (case c6 => k_is)
    (case k6 => k_is)
    (case a7 => k_is)
    (case l7 => k_is)
    (case c7 => k_is)
    (case k7 => k_is)
    (case a8 => k_is)
    (case l8 => k_is)
    (case c8 => k_is)
    (case k8 => k_is)
    (case a9 => k_is)
    (case l9 => k_is)
    (case c9 => k_is)
    (case k9 => k_is)
    (case a10 => k_is)
    (case l10 => k_is)
    (case c10 => k_is)
    (case k10 => k_is)
    (case a11 => k_is)
    (case l11 => k_is)
    (case c11 => k_is)
    (case k11 => k_is)
    (case a12 => k_is)
    (case l12 => k_is)
    (case c12 => k_is)
    (case k12 => k_is)
    (case a13 => k_is)
    (case l13 => k_is)
    (case c13 => k_is)
    (case k13 => k_is)
    (case a14 => k_is)
    (case l14 => k_is)
    (case c14 => k_is)
    (case k14 => k_is)
    (case a15 => k_is)
    (case l15 => k_is)
    (case c15 => k_is)
    (case k15 => k_is)
    (case a16 => k_is)
    (case l16 => k_is)
    (case c16 => k_is)
    (case k16 => k_is)
    (case a17 => k_is)
    (case l17 => k_is)
    (case c17 => k_is)
    (case k17 => k_is)
    (case a18 => k_is)
    (case l18 => k_is)
    (case c18 => k_is)
    (case k18 => k_is)
    (case a19 => k_is)
    (case l19 => k_is)
    (case c19 => k_is)
    (case k19 => k_is)
    (case a20 => k_is)
    (case l20 => k_is)
    (case c20 => k_is)
    (case k20 => k_is)
    (case a21 => k_is)
    (case l21 => k_is)
    (case c21 => k_is)
    (case k21 => k_is)
    (case a22 => k_is)
    (case l22 => k_is)
    (case c22 => k_is)
    (case k22 => k_is)
    (case a23 => k_is)
    (case l23 => k_is)
    (case c23 => k_is)
    (case k23 => k_is)
    (case a24 => k_is)
    (case l24 => k_is)
    (case c24 => k_is)
    (case k24 => k_is)
    (case a25 => k_is)
    (case l25 => k_is)
    (case c25 => k_is)
    (case k25 => k_is)
    (case a26 => k_is)
    (case l26 => k_is)
    (case c26 => k_is)
    (case k26 => k_is)
    (case a27 => k_is)
    (case l27 => k_is)
    (case c27 => k_is)
    (case k27 => k_is)
    (case a28 => k_is)
    (case l28 => k_is)
    (case c28 => k_is)
    (case k28 => k_is)
    (case a29 => k_is)
    (case l29 => k_is)
    (case c29 => k_is)
    (case k29 => k_is)
    (case a30 => k_is)
    (case i30 => k_is)
    (case l30 => k_is)
    (case c30 => k_is)
    (case k30 => k_is)
    (case a31 => k_is)
    (case i31 => k_is)
    (case l31 => k_is)
    (case c31 => k_is)
    (case k31 => k_is)
    (case a32 => k_is)
    (case i32 => k_is)
    (case l32 => k_is)
    (case c32 => k_is)
    (case k32 => k_is)
    (case a33 => k_is)
    (case i33 => k_is)
    (case l33 => k_is)
    (case c33 => k_is)
    (case k33 => k_is)
    (case a34 => k_is)
    (case i34 => k_is)
    (case l34 => k_is)
    (case c34 => k_is)
    (case k34 => k_is)
    (case a35 => k_is)
    (case i35 => k_is)
    (case l35 => k_is)
    (case c35 => k_is)
    (case k35 => k_is)
    (case a36 => k_is)
    (case l36 => k_is)
    (case c36 => k_is)
    (case k36 => k_is)
    (case a37 => k_is)
    (case l37 => k_is)
    (case c37 => k_is)
    (case k37 => k_is)
    (case a38 => k_is)
    (case l38 => k_is)
    (case c38 => k_is)
    (case k38 => k_is)
    (case a39 => k_is)
    (case l39 => k_is)
    (case c39 => k_is)
    (case k39 => k_is)
    (case a40 => k_is)
    (case i40 => k_is)
    (case l40 => k_is)
    (case c40 => k_is)
    (case k40 => k_is)
    (case q40 => k_is)
    (case a41 => k_is)
    (case l41 => k_is)
    (case c41 => k_is)
    (case k41 => k_is)
    (case a42 => k_is)
    (case l42 => k_is)
    (case c42 => k_is)
    (case k42 => k_is)
    (case a43 => k_is)
    (case l43 => k_is)
    (case c43 => k_is)
    (case k43 => k_is)
    (case a44 => k_is)
    (case l44 => k_is)
    (case c44 => k_is)
    (case k44 => k_is)
    (case a45 => k_is)
    (case l45 => k_is)
    (case c45 => k_is)
    (case k45 => k_is)
    (case a46 => k_is)
    (case l46 => k_is)
    (case c46 => k_is)
    (case k46 => k_is)
    (case a47 => k_is)
    (case l47 => k_is)
    (case c47 => k_is)
    (case k47 => k_is)
    (case a48 => k_is)
    (case l48 => k_is)
    (case c48 => k_is)
    (case k48 => k_is)
    (case z_all => k_is)
    (case z_bool => k_is)
    (case z_dict => k_is)
    (case z_enumerate => k_is)
    (case z_int => k_is)
    (case z_isinstance => k_is)
    (case z_len => k_is)
    (case z_list => k_is)
    (case z_min => k_is)
    (case z_range => k_is)
    (case z_set => k_is)
    (case z_sorted => k_is)
    (case z_str => k_is)
    (case z_sum => k_is)
    (case z_tuple => k_is)
    (case z_zip => k_is)
    (case y_LONGEST_NAME => k_is)
    (case y_MOST_CLOTHS => k_is)
    (case y_MOST_HUES => k_is)
    (case y_PARTS => k_is)

